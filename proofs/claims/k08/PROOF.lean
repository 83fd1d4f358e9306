import PyProof.Rows.All
import Wide.All
import OpenK.AllK
import Wide.FinOn
import Lean
import PyProof.EqAt
import PyProof.EqKinds
import PyProof.TupleCall
import PyProof.NeKinds
import KE.KRevIter
import KE.KSortTup
import Wide.Txt2
import PyProof.FString4
import KE.KIntText
import PyProof.ZipIter
import PyProof.TupleIter
import PyProof.WalksMore
import PyProof.Rows.SortShell
import KE.KDictSum
import PyProof.Rows.SortStr
import PyProof.Rows.SetFrom
import PyProof.DictUpdate
import KE.KDictOf
import PyProof.AttrMissSeq
import KE.KDictList
import KE.KDictIter
import PyProof.Rows.SortWalk
import PyProof.EnumMake
import PyProof.EnumFor
import PyProof.Rows.EnumRows
import KE.KIsAll
import PyProof.ExcArgsOwn
import PyProof.ExcAttrAll.ValueError
import OpenK.KDescr
import PyProof.StationsW
import OpenK.KOwn
import KE.KTryMore
import OpenK.KRaise
import PyProof.RulesDel
import PyProof.RulesAs
import PyProof.Rows.Catch
import PyProof.Rows.StrReprFit
import PyProof.NsCount
import PySem.Challenge.RW_flagroll_k08_shares_changed
open PySem.W (Frag)
theorem a_:type_of% @List.map_cons:=@List.map_cons
theorem b_:type_of% @if_neg:=@if_neg
theorem c_:type_of% @if_pos:=@if_pos
theorem d_:type_of% @Bool.and_eq_true:=@Bool.and_eq_true
theorem e_:type_of% @List.cons_append:=@List.cons_append
theorem f_:type_of% @List.length_map:=@List.length_map
theorem g_:type_of% @LawfulBEq.eq_of_beq:=@LawfulBEq.eq_of_beq
theorem h_:type_of% @List.nodup_append:=@List.nodup_append
theorem i_:type_of% @PySem.wpAny_bind:=@PySem.wpAny_bind
theorem j_:type_of% @List.mem_cons:=@List.mem_cons
theorem k_:type_of% @List.mem_append_left:=@List.mem_append_left
theorem l_:type_of% @PySem.Heap.lt_size:=@PySem.Heap.lt_size
theorem m_:type_of% @List.mem_append_right:=@List.mem_append_right
theorem n_:type_of% @Nat.le_refl:=@Nat.le_refl
theorem o_:type_of% @List.append_assoc:=@List.append_assoc
theorem p_:type_of% @decide_eq_false:=@decide_eq_false
theorem q_:type_of% @List.mem_cons_of_mem:=@List.mem_cons_of_mem
theorem r_:type_of% @of_decide_eq_true:=@of_decide_eq_true
theorem s_:type_of% @decide_eq_true:=@decide_eq_true
theorem t_:type_of% @List.length_append:=@List.length_append
theorem u_:type_of% @List.mem_append:=@List.mem_append
theorem v_:type_of% @PySem.wpAny_pure:=@PySem.wpAny_pure
theorem w_:type_of% @PySem.Heap.get?_push_of_some:=@PySem.Heap.get?_push_of_some
theorem x_:type_of% @Nat.ne_of_lt:=@Nat.ne_of_lt
theorem y_:type_of% @List.nodup_cons:=@List.nodup_cons
theorem z_:type_of% @List.size_toArray:=@List.size_toArray
theorem A_:type_of% @List.map_append:=@List.map_append
theorem B_:type_of% @List.getElem?_eq_some_iff:=@List.getElem?_eq_some_iff
theorem C_:type_of% @List.mem_singleton:=@List.mem_singleton
theorem D_:type_of% @List.append_nil:=@List.append_nil
theorem EA:type_of% @Bool.and_eq_true_iff:=@Bool.and_eq_true_iff
theorem EB:type_of% @List.map_map:=@List.map_map
theorem EC:type_of% @Bool.false_ne_true:=@Bool.false_ne_true
theorem ED:type_of% @List.all_eq_true:=@List.all_eq_true
theorem EE:type_of% @PySem.W.mg_none_of:=@PySem.W.mg_none_of
theorem EF:type_of% @Option.some.inj:=@Option.some.inj
theorem EG:type_of% @PySem.Heap.get?_push_size:=@PySem.Heap.get?_push_size
theorem EH:type_of% @List.length_singleton:=@List.length_singleton
theorem EI:type_of% @Nat.lt_of_lt_of_le:=@Nat.lt_of_lt_of_le
theorem EJ:type_of% @Bool.or_eq_true:=@Bool.or_eq_true
theorem EK:type_of% @List.getElem?_eq_getElem:=@List.getElem?_eq_getElem
theorem EL:type_of% @List.getElem?_map:=@List.getElem?_map
theorem EM:type_of% @List.mem_of_getElem?:=@List.mem_of_getElem?
theorem EN:type_of% @Nat.le_trans:=@Nat.le_trans
theorem EO:type_of% @List.getD_eq_getElem?_getD:=@List.getD_eq_getElem?_getD
theorem ER:type_of% @List.singleton_append:=@List.singleton_append
theorem ES:type_of% @PySem.wpAny_holding:=@PySem.wpAny_holding
theorem ET:type_of% @Nat.zero_le:=@Nat.zero_le
theorem EU:type_of% @List.perm_append_comm:=@List.perm_append_comm
theorem EV:type_of% @List.length_take:=@List.length_take
theorem EW:type_of% @List.Perm.append_left:=@List.Perm.append_left
theorem EX:type_of% @Nat.lt_irrefl:=@Nat.lt_irrefl
theorem EY:type_of% @List.mem_cons_self:=@List.mem_cons_self
theorem EZ:type_of% @List.getElem?_set_ne:=@List.getElem?_set_ne
theorem E0:type_of% @List.map_congr_left:=@List.map_congr_left
theorem E1:type_of% @PySem.wpAny_Call_Name_kw:=@PySem.wpAny_Call_Name_kw
theorem E2:type_of% @List.lookup_cons:=@List.lookup_cons
theorem E3:type_of% @List.getElem?_append_left:=@List.getElem?_append_left
theorem E4:type_of% @Option.map_eq_some_iff:=@Option.map_eq_some_iff
open Option renaming some → Γ
open Bool renaming true → Δ
open Bool renaming false → Θ
open Option renaming none → Ξ
open PySem renaming Value → Φ
open PySem renaming Addr → Ψ
open PySem renaming Shared → Ω
open PySem renaming World → Α
open PySem renaming Program → Β
open PySem renaming sizeLine → Ε
open PySem renaming mainGlobals → Ζ
open PySem renaming Around → Η
open PySem renaming wpAny → Ι
open PySem renaming model → Κ
open PySem renaming starEach → Μ
open PySem renaming FuncData → Ν
open PySem.Str renaming ofString → Ο
open List renaming replicate → Ρ
open PySem.NameKind renaming free → Τ
open PySem.Builtin.List renaming listExtendWith → Υ
open PySem.Builtin.SmallTypes renaming nextOf → Χ
open PySem.Builtin.SmallTypes renaming ownedTupleIsFree → ζ
open PySem.Value renaming ref → η
open PySem.Obj renaming mapSeq → θ
namespace L2
theorem zE:type_of% @PySem.Expr.casesOn.{0}:=@PySem.Expr.casesOn.{0}
theorem zS:type_of% @PySem.Stmt.casesOn.{0}:=@PySem.Stmt.casesOn.{0}
theorem zL:type_of% @List.casesOn.{0,0}:=@List.casesOn.{0,0}
theorem zO:type_of% @Option.casesOn.{0,0}:=@Option.casesOn.{0,0}
theorem zB:type_of% @Bool.casesOn.{0}:=@Bool.casesOn.{0}
end L2
set_option maxHeartbeats 8000000
set_option Elab.async false
set_option linter.all false
set_option maxRecDepth 100000
namespace L2
open PySem PySem.Spec PyProof.Rows
abbrev Key:=Sum Int Str
noncomputable def lL:Key->Φ->Bool
 |.inl k,v=>Value.isInt k v
 |.inr x,v=>Value.isStrOf x v
noncomputable def D0 (w:Α):Key->Int
 |.inl k=>hashInt k
 |.inr x=>hashStr w x
theorem fK:∀ {k:Key}{v:Φ},lL k v=Δ->(∃i t,k=Sum.inl i/\v=Value.int i t)∨(∃x t,k=Sum.inr x/\v=Value.str x t)
 |.inl i,v,h=>by obtain⟨t,e⟩:=Value.isInt_shape (k:=i) (v:=v) h;exact .inl ⟨i,t,rfl,e⟩
 |.inr x,v,h=>by obtain⟨t,e⟩:=Value.isStrOf_shape (x:=x) (v:=v) h;exact .inr ⟨x,t,rfl,e⟩
theorem sh (i:Int)(t:Tok):lL (.inl i) (.int i t)=Δ:=by simp[lL,Value.isInt]
theorem si (x:Str)(t:Tok):lL (.inr x) (.str x t)=Δ:=by simp[lL,Value.isStrOf]
theorem zK (a b:Int):decide ((Sum.inl a:Key)=Sum.inl b)=(a == b):=by
 by_cases e:a=b
 ·subst e;simp
 ·have h:¬(Sum.inl a:Key)=Sum.inl b:=fun q=>e (Sum.inl.inj q);rw[p_ h];exact(beq_eq_false_iff_ne.mpr e).symm
theorem zM (a b:Str):decide ((Sum.inr a:Key)=Sum.inr b)=decide (a=b):=by
 by_cases e:a=b
 ·subst e;simp
 ·have h:¬(Sum.inr a:Key)=Sum.inr b:=fun q=>e (Sum.inr.inj q);rw[p_ h,p_ e]
theorem zN (a:Int)(b:Str):decide ((Sum.inl a:Key)=Sum.inr b)=Θ:=p_ (fun q=>nomatch q)
theorem zP (a:Str)(b:Int):decide ((Sum.inr a:Key)=Sum.inl b)=Θ:=p_ (fun q=>nomatch q)
noncomputable def fA (prog:Β)(w:Α):PySem.KeyKind prog w Key where
 is:=lL
 hash:=D0 w
 inj:=fun v a b ha hb=>by
  rcases fK ha with⟨i,t,rfl,rfl⟩|⟨x,t,rfl,rfl⟩
  ·rcases fK hb with⟨j,u,rfl,e⟩|⟨y,u,rfl,e⟩
   ·injection e with e1 _;rw[e1]
   ·exact nomatch e
  ·rcases fK hb with⟨j,u,rfl,e⟩|⟨y,u,rfl,e⟩
   ·exact nomatch e
   ·injection e with e1 _;rw[e1]
 byValue:=fun k v h=>by rcases fK h with⟨i,t,rfl,rfl⟩|⟨x,t,rfl,rfl⟩<;>rfl
 pyHash:=fun hv h=>by
  rcases fK hv with⟨i,t,rfl,rfl⟩|⟨x,t,rfl,rfl⟩
  ·exact wpAny_pyHash_int h
  ·exact wpAny_pyHash_str h
 eqBool:=fun hu hv h=>by
  rcases fK hu with⟨i,t,rfl,rfl⟩|⟨x,t,rfl,rfl⟩
  ·rcases fK hv with⟨j,u,rfl,rfl⟩|⟨y,u,rfl,rfl⟩
   ·rw[zK]at h;exact wpAny_eqBool_int h
   ·rw[zN]at h;exact SeqAt.EqAt.int_str i t y u _ _ _ _ h
  ·rcases fK hv with⟨j,u,rfl,rfl⟩|⟨y,u,rfl,rfl⟩
   ·rw[zP]at h;exact SeqAt.EqAt.str_int x t j u _ _ _ _ h
   ·rw[zM]at h;exact wpAny_eqBool_str h
 «strs»:=fun k x t v h=>by
  rcases fK h with⟨i,u,rfl,e⟩|⟨y,u,rfl,e⟩
  ·exact nomatch e
  ·injection e with e1 _;subst e1;cases v<;>rfl
theorem om (prog:Β)(w:Α)(i:Int)(t:Tok):(fA prog w).is (.inl i) (.int i t)=Δ:=sh i t
theorem oq (prog:Β)(w:Α)(x:Str)(t:Tok):(fA prog w).is (.inr x) (.str x t)=Δ:=si x t
inductive V where
 | non|bl (b:Bool)|int (i:Int)|str (x:Str)|byt (b:Array UInt8)|flt (b:UInt64)|ref (a:Ψ)|ty (n:String)
 deriving DecidableEq
def RelV:V->Φ->Prop
 |.non,u=>u=Value.none
 |.bl b,u=>u=Value.bool b
 |.int i,u=>∃t,u=Value.int i t
 |.str x,u=>∃t,u=Value.str x t
 |.byt b,u=>∃t,u=Value.bytes b t
 |.flt b,u=>∃t,u=Value.float b t
 |.ref a,u=>u=η a
 |.ty n,u=>u=Value.type n
abbrev Vals:List V->List Φ->Prop:=Paired RelV
theorem Vals.length {xs:List V}{us:List Φ}(r:Vals xs us):xs.length=us.length:=Paired.length r
theorem Vals.get:∀ {xs:List V}{us:List Φ}{i:Nat}{x:V},Vals xs us->xs[i]? = Γ x->∃u,us[i]? = Γ u/\RelV x u
 |_,_,_,_,.nil,e=>by simp at e
 |_,_,0,_,.cons r _,e=>by simp at e;subst e;exact⟨_,rfl,r⟩
 |_,_,i+1,x,.cons _ t,e=>by obtain⟨u,h1,h2⟩:=Vals.get (i:=i) (x:=x) t (by simpa using e);exact⟨u,by simpa using h1,h2⟩
theorem Vals.set {x:V}{u:Φ}(r:RelV x u):∀ {xs:List V}{us:List Φ} (i:Nat),Vals xs us->Vals (xs.set i x) (us.set i u)
 |_,_,_,.nil=>.nil
 |_,_,0,.cons _ t=>.cons r t
 |_,_,i+1,.cons q t=>.cons q (Vals.set r i t)
theorem Vals.append:∀ {xs ys:List V}{us ws:List Φ},Vals xs us->Vals ys ws->Vals (xs++ys) (us++ws)
 |_,_,_,_,.nil,s=>s
 |_,_,_,_,.cons r t,s=>.cons r (Vals.append t s)
theorem Vals.take:∀ {xs:List V}{us:List Φ} (n:Nat),Vals xs us->Vals (xs.take n) (us.take n)
 |_,_,0,_=>.nil
 |_,_,_+1,.nil=>.nil
 |_,_,n+1,.cons r t=>.cons r (Vals.take n t)
theorem Vals.drop:∀ {xs:List V}{us:List Φ} (n:Nat),Vals xs us->Vals (xs.drop n) (us.drop n)
 |_,_,0,r=>r
 |_,_,_+1,.nil=>.nil
 |_,_,n+1,.cons _ t=>Vals.drop n t
def lF:Option V->Option Φ->Prop
 |some v,Γ u=>RelV v u
 |none,Ξ=>True
 |_,_=>False
def KV {κ:Type}:List (κ×V)->List (κ×Φ)->Prop:=Paired fun(p:κ×V) (q:κ×Φ)=>p.1=q.1/\RelV p.2 q.2
noncomputable def kV:Key->V
 |.inl i=>.int i
 |.inr x=>.str x
inductive HO where
 | lst (xs:List V)
 | tup (xs:List V)
 | dK (kvs:List (Key×V))|dT (kvs:List (List Key×V))
 | set (S:Int->Bool) (n:Nat)
 | ins (C dx:Ψ) (fs:List (Str×V))
 | own (x:Ψ)
 | xd (fs:List (Str×V))
 | met (f x:Ψ)
 | rng (lo hi:Int)
 | frz (o:Obj) (u:HO)
 | tbl (ps:Array Φ)
 | ext (φ:Heap->Prop)
abbrev Hp:=Ψ->Option HO
noncomputable def upd (H:Hp)(a:Ψ)(o:HO):Hp:=fun b=>if b=a then Γ o else H b
theorem dP {H:Hp}{a:Ψ}{o:HO}:upd H a o a=Γ o:=by unfold upd;rw[c_ rfl]
theorem dM {H:Hp}{a b:Ψ}{o:HO}(h:b≠a):upd H a o b=H b:=by unfold upd;rw[b_ h]
theorem BZ {H:Hp}{a b:Ψ}{o u:HO}(h:H a=Γ o)(h':H b=Γ u)(d:o≠u):a≠b:=by intro e;subst e;rw[h]at h';exact d (EF h')
theorem gi {H:Hp}{a b:Ψ}{o:HO}(h:H a=Γ o)(h':H b=Ξ):a≠b:=by intro e;subst e;rw[h]at h';cases h'
section
variable (P:Β)(w:Α)
def fP (H:Hp)(h:Heap)(a:Ψ):HO->Prop
 |.lst xs=>xs.length<=Ε/\∃(its:List Φ) (n:Nat),Vals xs its/\h.get? a=Γ {cls:=.type "list",data:=.seq its.toArray n}
 |.tup xs=>xs.length<=Ε/\∃its:List Φ,Vals xs its/\IsTup h a its.toArray
 |.dK kvs=>kvs.length<=Ε/\(a == sysModules)=Θ/\∃vs,KV kvs vs/\h.DictOf (fA P w) a vs
 |.dT kvs=>kvs.length<=Ε/\(a == sysModules)=Θ/\∃xs:List (List Key×Ψ×Φ),
   Paired (fun(p:List Key×V) (q:List Key×Ψ×Φ)=>p.1=q.1/\H q.2.1=Γ (.tup (p.1.map kV))/\RelV p.2 q.2.2) kvs xs/\
   ∃o es ep,h.get? a=Γ o/\o.ExactDict/\o.data=.dict es ep/\es.toList=xs.map (entryOfKey (tupleKind (fA P w)))/\(xs.map (·.1)).Nodup
 |.set S n=>h.SetOf (intKind P w) a S n
 |.ins C dx fs=>H dx=Γ (.own a)/\fs.length<=1000/\dx≠a/\h.get? a=Γ (PySem.W.instObj C dx)/\
   ∃mA,h.Ns1 dx mA/\(∀f,lF (fs.lookup f) (mA f))/\PySem.Within mA (fs.map (·.1))
 |.own _=>∃o,h.get? a=Γ o
 |.xd fs=>∃mA,h.Ns1 a mA/\∀f,lF (fs.lookup f) (mA f)
 |.rng lo hi=>∃t u v,h.get? a=Γ {cls:=.type "range",data:=.fields #[.int lo t,.int hi u,.int 1 v]}
 |.frz o u=>h.get? a=Γ o/\fP H h a u
 |.tbl ps=>h.get? a=Γ {cls:=.none,data:=.fields ps}
 |.met f x=>h.get? a=Γ (PySem.W.methodObj (.ref f) (.ref x))
 |.ext φ=>φ h/\(∃o,h.get? a=Γ o)/\∀h1 h2:Heap,φ h1->(∀o,h1.get? a=Γ o->h2.get? a=Γ o)->φ h2
def HOk (H:Hp)(h:Heap):Prop:=∀a o,H a=Γ o->fP P w H h a o
end
section
variable {P:Β}{w:Α}{H H':Hp}{h h':Heap}{a:Ψ}{o:HO}
theorem fP.lt (x:fP P w H h a o):a < h.objs.size:=by
 cases o with
 |lst xs=>obtain⟨_,_,_,_,e⟩:=x;exact l_ e
 |tup xs=>obtain⟨_,_,_,p⟩:=x;exact p.lt
 |dK kvs=>obtain⟨_,_,_,_,o,_,_,e,_⟩:=x;exact l_ e
 |dT kvs=>obtain⟨_,_,_,_,o,_,_,e,_⟩:=x;exact l_ e
 |set S n=>obtain⟨o,_,_,_,e,_⟩:=x;exact l_ e
 |ins C dx fs=>obtain⟨_,_,_,e,_⟩:=x;exact l_ e
 |own y=>obtain⟨_,e⟩:=x;exact l_ e
 |xd fs=>obtain⟨_,⟨_,_,_,e,_⟩,_⟩:=x;exact l_ e
 |rng lo hi=>obtain⟨_,_,_,e⟩:=x;exact l_ e
 |frz ob u=>obtain⟨e,_⟩:=x;exact l_ e
 |tbl ps=>exact l_ (show h.get? a=Γ _ from x)
 |met f y=>exact l_ (show h.get? a=Γ _ from x)
 |ext φ=>obtain⟨_,⟨_,e⟩,_⟩:=x;exact l_ e
theorem Paired.mapP {α β:Type}{F G:α->β->Prop}:∀ {l₁:List α}{l₂:List β},Paired F l₁ l₂->(∀a b,F a b->G a b)->Paired G l₁ l₂
 |_,_,.nil,_=>.nil
 |_,_,.cons r t,f=>.cons (f _ _ r) (Paired.mapP t f)
theorem fP.stay (x:fP P w H h a o)(k:∀b u,(b=a∨H b=Γ (.own a))->h.get? b=Γ u->h'.get? b=Γ u)
  (ho:∀b,H b=Γ (.own a)->H' b=Γ (.own a)) (ht:∀b xs,H b=Γ (.tup xs)->H' b=Γ (.tup xs)):fP P w H' h' a o:=by
 induction o with
 |lst xs=>obtain⟨z,its,n,r,e⟩:=x;exact⟨z,its,n,r,k _ _ (.inl rfl) e⟩
 |tup xs=>obtain⟨z,its,r,ob,e,c⟩:=x;exact⟨z,its,r,ob,k _ _ (.inl rfl) e,c⟩
 |dK kvs=>obtain⟨z,y,vs,r,ob,es,ep,e,c⟩:=x;exact⟨z,y,vs,r,ob,es,ep,k _ _ (.inl rfl) e,c⟩
 |dT kvs=>obtain⟨z,y,xs,r,ob,es,ep,e,c⟩:=x;exact⟨z,y,xs,Paired.mapP r fun p q z=>⟨z.1,ht _ _ z.2.1,z.2.2⟩,ob,es,ep,k _ _ (.inl rfl) e,c⟩
 |set S n=>obtain⟨ob,es,ep,t,e,c⟩:=x;exact⟨ob,es,ep,t,k _ _ (.inl rfl) e,c⟩
 |ins C dx fs=>obtain⟨d,z,ne,e,mA,⟨od,es,ep,e2,c⟩,r⟩:=x;exact⟨ho _ d,z,ne,k _ _ (.inl rfl) e,mA,⟨od,es,ep,k _ _ (.inr d) e2,c⟩,r⟩
 |own y=>obtain⟨ob,e⟩:=x;exact⟨ob,k _ _ (.inl rfl) e⟩
 |xd fs=>obtain⟨mA,⟨od,es,ep,e,c⟩,r⟩:=x;exact⟨mA,⟨od,es,ep,k _ _ (.inl rfl) e,c⟩,r⟩
 |rng lo hi=>obtain⟨t,u,v,e⟩:=x;exact⟨t,u,v,k _ _ (.inl rfl) e⟩
 |frz ob u ih=>obtain⟨e,q⟩:=x;exact⟨k _ _ (.inl rfl) e,ih q⟩
 |tbl ps=>have e:h.get? a=Γ {cls:=.none,data:=.fields ps}:=x;show h'.get? a=Γ {cls:=.none,data:=.fields ps};exact k a _ (.inl rfl) e
 |met f y=>have e:h.get? a=Γ (PySem.W.methodObj (.ref f) (.ref y)):=x;show h'.get? a=Γ (PySem.W.methodObj (.ref f) (.ref y));exact k a _ (.inl rfl) e
 |ext φ=>obtain⟨p,⟨o,e⟩,st⟩:=x;exact⟨st _ _ p fun o q=>k _ _ (.inl rfl) q,⟨o,k _ _ (.inl rfl) e⟩,st⟩
theorem HOk.lt (x:HOk P w H h)(e:H a=Γ o):a < h.objs.size:=(x a o e).lt
theorem HOk.fresh (x:HOk P w H h)(e:h.objs.size<=a):H a=Ξ:=by
 cases q:H a with
 |none=>rfl
 |some u=>exact absurd (EI (x.lt q) e) (EX _)
theorem HOk.kept (x:HOk P w H h)(k:∀b u,h.get? b=Γ u->h'.get? b=Γ u):HOk P w H h':=fun a o e=>
 (x a o e).stay (fun b u _ q=>k b u q) (fun _ q=>q) fun _ _ q=>q
theorem HOk.laid (x:HOk P w H h)(k:∀b u,h.get? b=Γ u->h'.get? b=Γ u)(hp:h.objs.size<=a)(new:fP P w (upd H a o) h' a o):HOk P w (upd H a o) h':=fun b u e=>by
 have hn:=x.fresh hp;by_cases hb:b=a
 ·subst hb;rw[dP]at e;cases e;exact new
 ·rw[dM hb]at e;exact(x b u e).stay (fun c v _ q=>k c v q) (fun c q=>by rw[dM (gi q hn)];exact q) fun c xs q=>by rw[dM (gi q hn)];exact q
end
def Rd (H:Hp)(a:Ψ)(u:HO):Prop:=H a=Γ u∨∃o,H a=Γ (.frz o u)
theorem Rd.ok {P:Β}{w:Α}{H:Hp}{h:Heap}{a:Ψ}{u:HO}(r:Rd H a u)(x:HOk P w H h):fP P w H h a u:=by
 rcases r with r|⟨o,r⟩
 ·exact x a u r
 ·obtain⟨_,q⟩:=x a _ r;exact q
def Mut:Option HO->Prop
 |some (.lst _)=>True
 |some (.dK _)=>True
 |some (.dT _)=>True
 |some (.set _ _)=>True
 |some (.ins _ _ _)=>True
 |some (.ext _)=>True
 |_=>False
section
variable {P:Β}{w:Α}{H:Hp}{h h':Heap}{x e:Ψ}{o':HO}
theorem HOk.write (ok:HOk P w H h)(mu:Mut (H x))(he:e=x∨H e=Γ (.own x))(k:∀b u,b≠e->h.get? b=Γ u->h'.get? b=Γ u)(heo:∃u,h'.get? e=Γ u)
  (new:fP P w (upd H x o') h' x o'):HOk P w (upd H x o') h':=fun b u q=>by
 have kM:∀c y,H c=Γ (.own y)->c≠x:=fun c y r z=>by subst z;rw[r]at mu;exact mu
 have ntup:∀c xs,H c=Γ (.tup xs)->c≠x:=fun c xs r z=>by subst z;rw[r]at mu;exact mu
 by_cases hb:b=x
 ·subst hb;rw[dP]at q;cases q;exact new
 ·rw[dM hb]at q;by_cases hbe:b=e
  ·have q':H b=Γ (.own x):=by
    rcases he with z|z
    ·exact absurd (hbe.trans z) hb
    ·rw[hbe];exact z
   rw[q]at q';cases q';obtain⟨v,hv⟩:=heo;exact⟨v,by rw[hbe];exact hv⟩
  ·refine(ok b u q).stay (fun c v hc r=>k c v ?_ r) (fun c r=>by rw[dM (kM c b r)];exact r) fun c xs r=>by rw[dM (ntup c xs r)];exact r
   rcases hc with rfl|hc
   ·exact hbe
   ·rintro rfl;rcases he with z|z
    ·exact kM c b hc z
    ·rw[hc]at z;cases z;exact hb rfl
end
structure Un (fs ex:List Ψ)(H H':Hp)(h h':Heap):Prop where
 keep:∀b o,h.get? b=Γ o->H b=Ξ->b∉fs->b∉ex->h'.get? b=Γ o
 slot:∀b o,h.get? b=Γ o->H b=Ξ->b∈fs->b∉ex->∃sl,h'.get? b=Γ {o with slots:=sl}
 free:∀b o,h.get? b=Γ o->H b=Ξ->b∉ex->H' b=Ξ
 there:∀b o,h.get? b=Γ o->b∉ex->∃o',h'.get? b=Γ o'
 tups:∀b xs,H b=Γ (.tup xs)->H' b=Γ (.tup xs)
 frzs:∀b o u,H b=Γ (.frz o u)->H' b=Γ (.frz o u)
 tbls:∀b ps,H b=Γ (.tbl ps)->∃more,H' b=Γ (.tbl (ps++more))
section
variable {fs fs' ex ex':List Ψ}{H H1 H2:Hp}{h h1 h2 h':Heap}{a x e:Ψ}{o:HO}
theorem Un.any (u:Un fs ex H H1 h h1){b:Ψ}{ob:Obj}(q:h.get? b=Γ ob)(n:H b=Ξ)(hx:b∉ex):∃sl,h1.get? b=Γ {ob with slots:=sl}:=by
 by_cases hb:b∈fs
 ·exact u.slot b ob q n hb hx
 ·exact⟨ob.slots,u.keep b ob q n hb hx⟩
theorem Un.kept (k:∀b u,h.get? b=Γ u->h'.get? b=Γ u):Un fs ex H H h h':=
 ⟨fun b ob q _ _ _=>k b ob q,fun b ob q _ _ _=>⟨ob.slots,k b ob q⟩,fun _ _ _ n _=>n,fun b ob q _=>⟨ob,k b ob q⟩,fun _ _ q=>q,fun _ _ _ q=>q,fun _ ps q=>⟨#[],by rw[q];simp⟩⟩
theorem Un.refl:Un fs ex H H h h:=Un.kept fun _ _ q=>q
theorem Un.laid (k:∀b u,h.get? b=Γ u->h'.get? b=Γ u)(hp:h.objs.size<=a)(hn:H a=Ξ):Un fs ex H (upd H a o) h h' where
 keep:=fun b u q _ _ _=>k b u q
 slot:=fun b u q _ _ _=>⟨u.slots,k b u q⟩
 free:=fun b u q n _=>by rw[dM (x_ (EI (l_ q) hp))];exact n
 there:=fun b u q _=>⟨u,k b u q⟩
 tups:=fun b xs q=>by rw[dM (gi q hn)];exact q
 frzs:=fun b u xs q=>by rw[dM (gi q hn)];exact q
 tbls:=fun b ps q=>⟨#[],by rw[dM (gi q hn),q];simp⟩
theorem Un.write (mu:Mut (H x))(he:e=x∨H e=Γ (.own x))(k:∀b u,b≠e->h.get? b=Γ u->h'.get? b=Γ u)(heo:∃u,h'.get? e=Γ u):Un fs ex H (upd H x o) h h':=by
 have hx:∀b,H b=Ξ->b≠x:=fun b n z=>by subst z;rw[n]at mu;exact mu
 have hb:∀b,H b=Ξ->b≠e:=fun b n z=>by
  subst z;rcases he with r|r
  ·exact hx b n r
  ·rw[n]at r;cases r
 have hm:∀b u,H b=Γ u->¬Mut (Γ u)->b≠x:=fun b u q nm z=>by subst z;rw[q]at mu;exact nm mu
 refine⟨fun b u q n _ _=>k b u (hb b n) q,fun b u q n _ _=>⟨u.slots,k b u (hb b n) q⟩,fun b u q n _=>by rw[dM (hx b n)];exact n,fun b u q _=>?_,
  fun b xs q=>by rw[dM (hm b _ q fun z=>z)];exact q,fun b u xs q=>by rw[dM (hm b _ q fun z=>z)];exact q,fun b ps q=>⟨#[],by rw[dM (hm b _ q fun z=>z),q];simp⟩⟩
 by_cases hbe:b=e
 ·subst hbe;exact heo
 ·exact⟨u,k b u hbe q⟩
end
noncomputable def trk (h:Heap)(H:Hp):List Ψ:=(List.range h.objs.size).filter fun a=>(H a).isSome
noncomputable def mP (h:Heap)(H:Hp):Heap:=PySem.W.hideAll h (trk h H)
theorem sj (h:Heap)(H:Hp):(mP h H).objs.size=h.objs.size:=PySem.W.hideAll_size _ _
theorem sY {h:Heap}{H:Hp}{b:Ψ}{o:Obj}(e:h.get? b=Γ o)(n:H b=Ξ):(mP h H).get? b=Γ o:=
 PySem.W.hideAll_get _ e fun hm=>by have q:(H b).isSome=Δ:=(List.mem_filter.mp hm).2;rw[n]at q;simp at q
theorem wk {h:Heap}{H:Hp}{b:Ψ}{o:Obj}(e:(mP h H).get? b=Γ o):h.get? b=Γ o/\H b=Ξ:=by
 have e':h.get? b=Γ o:=PySem.W.of_hideAll (trk h H) e;refine⟨e',?_⟩;cases q:H b with
 |none=>rfl
 |some x=>have hm:b∈trk h H:=List.mem_filter.mpr ⟨List.mem_range.mpr (l_ e'),by simp[q]⟩;have z:(mP h H).get? b=Ξ:=PySem.W.hideAll_none (trk h H) hm;rw[z]at e;cases e
structure Mod (K:Frag)(mg:Str->Option Φ)(base:Heap):Prop where
 kin:K.In base
 glob:base.Ns Ζ mg
 blt:∃mb,base.Ns builtinsNs mb/\∀x:Str,x≠"__name__"->mb x=bootBuiltins x
 nolimit:base.NoLimit
structure Cx where
 prog:Β
 w:Α
 K:Frag
 mg:Str->Option Φ
 base:Heap
 A:Η
 N:List Str
 s₀:Ω
 H₀:Hp
 env:Env
 outer:List Env
 stack:List Env
 ex:List Ψ
 fn:Str->Bool
 calm:Bool
 pn:List (Ψ×Obj)
 xe:Φ->Ω->Prop
noncomputable def frs (l:List Env):List Ψ:=l.filterMap (·.frame)
noncomputable abbrev Cx.fs (X:Cx):List Ψ:=frs X.outer
def Vis (sc:Scope)(x:Str):Prop:=sc.names.lookup x=Γ .local∨sc.names.lookup x=Γ .cell∨sc.names.lookup x=Γ .free
def Loc (sc:Scope)(x:Str):Prop:=sc.names.lookup x=Γ .local∨sc.names.lookup x=Γ .cell
def Look (env:Env)(h:Heap)(m:Str->Option Φ)(x:Str)(u:Φ):Prop:=
 (env.kindOf x=Γ .local/\m x=Γ u)∨((env.kindOf x=Γ .cell∨env.kindOf x=Γ .free)/\∃c,env.cells.lookup x=Γ c/\h.IsCell c (Γ u))
structure Cx.Ok (X:Cx):Prop where
 mod:Mod X.K X.mg X.base
 kind:X.env.scope.kind=.function
 glob:X.env.globals=Ζ
 blt:X.env.builtins=builtinsNs
 above:X.s₀.heap.objs.size<=X.env.locals
 inj:∀x y c,X.env.cells.lookup x=Γ c->X.env.cells.lookup y=Γ c->x=y
 has:∀x,(X.env.kindOf x=Γ .cell∨X.env.kindOf x=Γ .free)->∃c,X.env.cells.lookup x=Γ c
 cab:∀x c,X.fn x=Δ->X.env.cells.lookup x=Γ c->X.s₀.heap.objs.size<=c
 hd:X.calm=Δ->X.A.handled=Ξ
 frames:X.A.frames=Γ X.stack
 stk:X.stack=X.outer∨(X.stack=X.env::X.outer/\X.env.frame=Γ X.env.locals)
 exf:∀b∈X.ex,b≠X.env.locals/\∀x c,X.env.cells.lookup x=Γ c->c≠b
 bs:∀b o,X.base.get? b=Γ o->X.s₀.heap.get? b=Γ o/\X.H₀ b=Ξ
 bsz:X.base.objs.size<=X.s₀.heap.objs.size
 noex:∀b o,X.base.get? b=Γ o->b∉X.ex
 exfs:∀b∈X.ex,b∉X.fs
 funs:X.s₀.heap.FunFrames X.base X.outer
 frf:∀b∈X.fs,X.H₀ b=Ξ
structure Inv (X:Cx)(pins:List (Ψ×Obj))(σ:List (Option V))(H:Hp)(s:Ω):Prop where
 ok:X.Ok
 os:s.os=X.s₀.os
 bare:AllBare s.gens
 base:Un X.fs X.ex X.H₀ H X.s₀.heap s.heap
 loc:∃m,s.heap.Ns X.env.locals m/\∀(i:Nat) (x:Str) (v:V),X.N[i]? = Γ x->σ[i]? = Γ (Γ v)->Vis X.env.scope x->∃u,RelV v u/\Look X.env s.heap m x u
 cell:∀x c,X.env.cells.lookup x=Γ c->∃v,s.heap.IsCell c v
 free:H X.env.locals=Ξ
 freeC:∀x c,X.env.cells.lookup x=Γ c->H c=Ξ
 pin:∀p∈X.pn++pins,s.heap.get? p.1=Γ p.2/\H p.1=Ξ/\p.1≠X.env.locals/\p.1∉X.fs/\∀v,p.2.data≠.cell v
 hok:HOk X.prog X.w H s.heap
 len:σ.length=X.N.length
section
variable {X:Cx}{pins:List (Ψ×Obj)}{σ:List (Option V)}{H H':Hp}{s:Ω}{h':Heap}
theorem Cx.Ok.nofr (ok:X.Ok){b:Ψ}{o:Obj}(e:X.base.get? b=Γ o):b∉X.fs:=fun hb=>by have:=(ok.funs.mem hb).1;rw[e]at this;cases this
theorem Inv.bs (I:Inv X pins σ H s):∀b o,X.base.get? b=Γ o->s.heap.get? b=Γ o/\H b=Ξ:=fun b o e=>
 ⟨I.base.keep b o (I.ok.bs b o e).1 (I.ok.bs b o e).2 (I.ok.nofr e) (I.ok.noex b o e),I.base.free b o (I.ok.bs b o e).1 (I.ok.bs b o e).2 (I.ok.noex b o e)⟩
theorem Inv.bk (I:Inv X pins σ H s):∀b o,X.base.get? b=Γ o->s.heap.get? b=Γ o:=fun b o e=>(I.bs b o e).1
theorem Inv.mod (I:Inv X pins σ H s):Mod X.K X.mg X.base:=I.ok.mod
theorem Inv.kIn (I:Inv X pins σ H s):X.K.In s.heap:=I.ok.mod.kin.keeps I.bk
theorem Inv.lt (I:Inv X pins σ H s):X.env.locals < s.heap.objs.size:=let ⟨_,hn,_⟩:=I.loc;hn.lt
theorem Inv.sz (I:Inv X pins σ H s):X.s₀.heap.objs.size<=s.heap.objs.size:=EN I.ok.above (Nat.le_of_lt I.lt)
theorem Inv.nofs (I:Inv X pins σ H s){a:Ψ}(h:s.heap.objs.size<=a):a∉X.fs:=fun hb=>by obtain⟨_,o,ho,_⟩:=I.ok.funs.mem hb;exact absurd (EI (l_ ho) (EN I.sz h)) (EX _)
theorem Inv.cne (I:Inv X pins σ H s):∀x c,X.env.cells.lookup x=Γ c->c≠X.env.locals:=fun x c e z=>by obtain⟨v,o,ho,hd⟩:=I.cell x c e;obtain⟨m,⟨o',es,ep,ho',hd',_⟩,_⟩:=I.loc;rw[z,ho']at ho;cases ho;rw[hd']at hd;cases hd
theorem Inv.funs (I:Inv X pins σ H s):s.heap.FunFrames X.base X.outer:=by
 have all:∀(l:List Env),(∀b∈frs l,b∈X.fs)->X.s₀.heap.FunFrames X.base l->s.heap.FunFrames X.base l:=by
  intro l
  induction l with
  |nil=>intro _ _;trivial
  |cons env r ih=>intro hs hl;obtain⟨hk,⟨L,o,hf,hn,ho,hd⟩,hr⟩:=hl;have hL:L∈X.fs:=hs L (by unfold frs;rw[List.filterMap_cons,hf];exact EY);obtain⟨sl,e⟩:=I.base.slot L o ho (I.ok.frf L hL) hL fun z=>I.ok.exfs L z hL;exact⟨hk,⟨L,_,hf,hn,e,hd⟩,ih (fun b hb=>hs b (by unfold frs;rw[List.filterMap_cons,hf];exact q_ _ hb)) hr⟩
 exact all X.outer (fun _ hb=>hb) I.ok.funs
theorem Inv.stack (I:Inv X pins σ H s):s.heap.FunFrames X.base X.stack:=by
 rcases I.ok.stk with e|⟨e,hf⟩
 ·rw[e];exact I.funs
 ·rw[e];obtain⟨m,hn,_⟩:=I.loc;refine .cons (by rw[I.ok.kind];decide) hf hn ?_ I.funs;exact Heap.get?_none_of_le (EN I.ok.bsz I.ok.above)
theorem Inv.stkSub (I:Inv X pins σ H s):∀b∈frs X.stack,b∈X.env.locals::X.fs:=fun b hb=>by
 rcases I.ok.stk with e|⟨e,hf⟩
 ·rw[e]at hb;exact q_ _ hb
 ·rw[e]at hb;unfold frs at hb;rw[List.filterMap_cons,hf]at hb;exact hb
theorem Inv.stkFree (I:Inv X pins σ H s):∀b∈frs X.stack,H b=Ξ:=fun b hb=>by
 rcases j_.mp (I.stkSub b hb) with e|hb
 ·rw[e];exact I.free
 ·obtain⟨_,o,ho,_⟩:=I.ok.funs.mem hb;exact I.base.free b o ho (I.ok.frf b hb) fun z=>I.ok.exfs b z hb
theorem Inv.step {g':Array GenState}{t':Nat}{d':Drawn}{ch:List Ψ}(I:Inv X pins σ H s)
  (hch:∀b∈ch,(b∈X.ex∨X.s₀.heap.objs.size<=b)/\b≠X.env.locals/\(∀x c,X.env.cells.lookup x=Γ c->c≠b)/\∀p∈X.pn++pins,p.1≠b)
  (keep:∀b o,b≠X.env.locals->b∉X.fs->b∉ch->s.heap.get? b=Γ o->H b=Ξ->h'.get? b=Γ o)
  (slot:∀b o,b≠X.env.locals->b∈X.fs->b∉ch->s.heap.get? b=Γ o->H b=Ξ->∃sl,h'.get? b=Γ {o with slots:=sl}) (free:∀b o,b∉ch->s.heap.get? b=Γ o->H b=Ξ->H' b=Ξ)
  (there:∀b o,b∉ch->s.heap.get? b=Γ o->∃o',h'.get? b=Γ o')
  (tups:∀b xs,H b=Γ (.tup xs)->H' b=Γ (.tup xs)) (frzs:∀b o u,H b=Γ (.frz o u)->H' b=Γ (.frz o u)) (tbls:∀b ps,H b=Γ (.tbl ps)->∃more,H' b=Γ (.tbl (ps++more)))
  (ns:∀m,s.heap.Ns X.env.locals m->h'.Ns X.env.locals m) (hok:HOk X.prog X.w H' h') (hg:AllBare g') :
  Inv X pins σ H' {s with heap:=h',gens:=g',drawn:=d',toks:=t'}:=by
 have neL:∀b o,X.s₀.heap.get? b=Γ o->b≠X.env.locals:=fun b o e=>x_ (EI (l_ e) I.ok.above);have neC:∀b o,X.s₀.heap.get? b=Γ o->b∉X.ex->b∉ch:=fun b o e hx hb=>by
  rcases(hch b hb).1 with z|z
  ·exact hx z
  ·exact absurd (EI (l_ e) z) (EX _)
 have cellK:∀x c,X.env.cells.lookup x=Γ c->∀v,s.heap.IsCell c v->h'.IsCell c v:=fun x c e v ⟨o,ho,hd⟩=>by
  have nch:c∉ch:=fun z=>(hch c z).2.2.1 x c e rfl;by_cases hc:c∈X.fs
  ·obtain⟨sl,q⟩:=slot c o (I.cne x c e) hc nch ho (I.freeC x c e);exact⟨_,q,hd⟩
  ·exact⟨o,keep c o (I.cne x c e) hc nch ho (I.freeC x c e),hd⟩
 refine⟨I.ok,I.os,hg,⟨fun b o e n hb hx=>?_,fun b o e n hb hx=>?_,fun b o e n hx=>?_,fun b o e hx=>?_,fun b xs e=>tups b xs (I.base.tups b xs e),fun b o xs e=>frzs b o xs (I.base.frzs b o xs e),fun b ps e=>?_⟩,?_,fun x c e=>?_,?_,fun x c e=>?_,fun p hp=>?_,hok,I.len⟩
 ·exact keep b o (neL b o e) hb (neC b o e hx) (I.base.keep b o e n hb hx) (I.base.free b o e n hx)
 ·obtain⟨sl,e1⟩:=I.base.slot b o e n hb hx;obtain⟨sl',e2⟩:=slot b _ (neL b o e) hb (neC b o e hx) e1 (I.base.free b o e n hx);exact⟨sl',e2⟩
 ·obtain⟨o',e1⟩:=I.base.there b o e hx;exact free b o' (neC b o e hx) e1 (I.base.free b o e n hx)
 ·obtain⟨o',e1⟩:=I.base.there b o e hx;exact there b o' (neC b o e hx) e1
 ·obtain⟨m1,e1⟩:=I.base.tbls b ps e;obtain⟨m2,e2⟩:=tbls b _ e1;exact⟨m1++m2,by rw[e2,Array.append_assoc]⟩
 ·obtain⟨m,hn,hl⟩:=I.loc;refine⟨m,ns m hn,fun i x v e1 e2 e3=>?_⟩;obtain⟨u,r,l⟩:=hl i x v e1 e2 e3;refine⟨u,r,?_⟩;rcases l with l|⟨k,c,e,z⟩
  ·exact .inl l
  ·exact .inr ⟨k,c,e,cellK x c e _ z⟩
 ·obtain⟨v,z⟩:=I.cell x c e;exact⟨v,cellK x c e v z⟩
 ·obtain⟨m,⟨o,_,_,ho,_⟩,_⟩:=I.loc;exact free _ o (fun z=>(hch _ z).2.1 rfl) ho I.free
 ·obtain⟨v,o,ho,hd⟩:=I.cell x c e;exact free c o (fun z=>(hch c z).2.2.1 x c e rfl) ho (I.freeC x c e)
 ·obtain⟨e,n,ne,nf,d⟩:=I.pin p hp;have nch:p.1∉ch:=fun z=>(hch p.1 z).2.2.2 p hp rfl;exact⟨keep p.1 p.2 ne nf nch e n,free p.1 p.2 nch e n,ne,nf,d⟩
theorem Inv.un {t':Nat}(I:Inv X pins σ H s)(u:Un X.fs [] H H' s.heap h')(hok:HOk X.prog X.w H' h'):Inv X pins σ H' {s with heap:=h',toks:=t'}:=by
 obtain⟨m,⟨o,es,ep,ho,r⟩,_⟩:=id I.loc;obtain⟨sl,hL⟩:=u.any ho I.free (by simp)
 exact I.step (g':=s.gens) (d':=s.drawn) (ch:=[]) (fun _ z=>nomatch z) (fun b o _ hb _ e n=>u.keep b o e n hb (by simp)) (fun b o _ hb _ e n=>u.slot b o e n hb (by simp)) (fun b o _ e n=>u.free b o e n (by simp)) (fun b o _ e=>u.there b o e (by simp)) u.tups u.frzs u.tbls (fun m' hm=>by
  obtain⟨o',es',ep',ho',r'⟩:=hm;rw[ho]at ho';cases ho'
  exact⟨_,es',ep',hL,r'⟩) hok I.bare
theorem Inv.call {g':Array GenState}{t':Nat}{d':Drawn}{ch:List Ψ}(I:Inv X pins σ H s)(u:Un (frs X.stack) ch H H' s.heap h')(hok:HOk X.prog X.w H' h')(hg:AllBare g')
  (hch:∀b∈ch,(b∈X.ex∨X.s₀.heap.objs.size<=b)/\b≠X.env.locals/\(∀x c,X.env.cells.lookup x=Γ c->c≠b)/\∀p∈X.pn++pins,p.1≠b) :
  Inv X pins σ H' {s with heap:=h',gens:=g',drawn:=d',toks:=t'}:=by
 obtain⟨m,⟨o,es,ep,ho,r⟩,_⟩:=id I.loc;obtain⟨sl,hL⟩:=u.any ho I.free fun z=>(hch _ z).2.1 rfl
 exact I.step (ch:=ch) hch (fun b o hL hb hc e n=>u.keep b o e n (fun z=>(j_.mp (I.stkSub b z)).elim hL hb) hc) (fun b o _ _ hc e n=>u.any e n hc) (fun b o hc e n=>u.free b o e n hc) (fun b o hc e=>u.there b o e hc) u.tups u.frzs u.tbls (fun m' hm=>by
  obtain⟨o',es',ep',ho',r'⟩:=hm;rw[ho]at ho';cases ho'
  exact⟨_,es',ep',hL,r'⟩) hok hg
theorem Inv.turned {t':Nat}{it:Ψ}(I:Inv X pins σ H s)(k:∀b o,b≠it->s.heap.get? b=Γ o->h'.get? b=Γ o)(hn:H it=Ξ)(hL:it≠X.env.locals)
  (h1:it∈X.ex∨X.s₀.heap.objs.size<=it) (h2:∀x c,X.env.cells.lookup x=Γ c->c≠it) (h3:∀p∈X.pn++pins,p.1≠it):Inv X pins σ H {s with heap:=h',toks:=t'}:=by
 have nit:∀b u,H b=Γ u->b≠it:=fun b u e z=>by rw[z,hn]at e;cases e
 refine I.step (g':=s.gens) (d':=s.drawn) (ch:=[it]) (fun b hb=>?_) (fun b o _ _ hc e _=>k b o (fun z=>hc (by simp[z])) e) (fun b o _ _ hc e _=>⟨o.slots,k b o (fun z=>hc (by simp[z])) e⟩) (fun _ _ _ _ n=>n)
  (fun b o hc e=>⟨o,k b o (fun z=>hc (by simp[z])) e⟩) (fun _ _ e=>e) (fun _ _ _ e=>e) (fun b ps e=>⟨#[],by rw[e];simp⟩) (fun m hm=>?_) (fun b u e=>?_) I.bare
 ·have e:b=it:=by simpa using hb
  subst e;exact⟨h1,hL,h2,h3⟩
 ·obtain⟨o,es,ep,ho,r⟩:=hm;exact⟨o,es,ep,k _ o (Ne.symm hL) ho,r⟩
 ·refine(I.hok b u e).stay (fun c v hc q=>k c v ?_ q) (fun _ q=>q) fun _ _ q=>q;rcases hc with z|z
  ·rw[z];exact nit b u e
  ·exact nit c _ z
theorem Inv.tok (I:Inv X pins σ H s)(t:Nat):Inv X pins σ H {s with toks:=t}:=I.un (h':=s.heap) (t':=t) Un.refl I.hok
theorem Inv.kept {t':Nat}(I:Inv X pins σ H s)(k:∀b u,s.heap.get? b=Γ u->h'.get? b=Γ u):Inv X pins σ H {s with heap:=h',toks:=t'}:=I.un (Un.kept k) (I.hok.kept k)
theorem Inv.laid {a:Ψ}{o:HO}{t':Nat}(I:Inv X pins σ H s)(k:∀b u,s.heap.get? b=Γ u->h'.get? b=Γ u)(hp:s.heap.objs.size<=a)(new:fP X.prog X.w (upd H a o) h' a o) :
  Inv X pins σ (upd H a o) {s with heap:=h',toks:=t'}:=I.un (Un.laid k hp (I.hok.fresh hp)) (I.hok.laid k hp new)
theorem Inv.write {x e:Ψ}{o:HO}{t':Nat}(I:Inv X pins σ H s)(mu:Mut (H x))(he:e=x∨H e=Γ (.own x))(k:∀b u,b≠e->s.heap.get? b=Γ u->h'.get? b=Γ u)(heo:∃u,h'.get? e=Γ u)
  (new:fP X.prog X.w (upd H x o) h' x o):Inv X pins σ (upd H x o) {s with heap:=h',toks:=t'}:=I.un (Un.write mu he k heo) (I.hok.write mu he k heo new)
theorem Inv.pins_of {pins':List (Ψ×Obj)}(I:Inv X pins σ H s)(h:∀p∈pins',s.heap.get? p.1=Γ p.2/\H p.1=Ξ/\p.1≠X.env.locals/\p.1∉X.fs/\∀v,p.2.data≠.cell v):Inv X pins' σ H s:=
 ⟨I.ok,I.os,I.bare,I.base,I.loc,I.cell,I.free,I.freeC,fun p hp=>(u_.mp hp).elim (fun z=>I.pin p (k_ _ z)) (h p),I.hok,I.len⟩
theorem ou {N:List Str}(hN:N.Nodup){i j:Nat}{x:Str}(a:N[i]? = Γ x)(b:N[j]? = Γ x):i=j:=by obtain⟨h1,e1⟩:=B_.mp a;obtain⟨h2,e2⟩:=B_.mp b;exact(List.getElem_inj hN).mp (e1.trans e2.symm)
theorem lM {M:Model}{A:Η}{E:Φ->Ω->Prop}{i:Nat}{x:Str}{v:V}{u:Φ}{Q:Unit->Ω->Prop}(I:Inv X pins σ H s)(hN:X.N.Nodup)(hi:X.N[i]? = Γ x)(hx:Loc X.env.scope x)(r:RelV v u)
  (h:∀s',Inv X pins (σ.set i (Γ v)) H s'->(∃a,Heap.SameBut a s.heap s'.heap/\(a=X.env.locals∨X.env.cells.lookup x=Γ a))->Q () s') (hf:X.fn x=Δ∨X.env.scope.names.lookup x=Γ .local:=by first|exact .inl rfl|exact .inr rfl|assumption):Ι M A (storeName X.env x u) Q E s:=by
 obtain⟨m,hn,hl⟩:=id I.loc;have hcls:(X.env.scope.kind == .class||(X.env.scope.kind == .module&&X.env.locals != X.env.globals))=Θ:=by rw[I.ok.kind];rfl
 have hiσ:i < σ.length:=by rw[I.len];exact(B_.mp hi).1
 have cne:=I.cne;have tracked:∀ {a:Ψ}{h':Heap},(∃o,s.heap.get? a=Γ o/\H a=Ξ)->Heap.SameBut a s.heap h'->HOk X.prog X.w H h':=fun {a h'} ha hs b ob e=>by
  obtain⟨_,_,hfree⟩:=ha;refine(I.hok b ob e).stay (fun c w' hc q=>(hs.2 c ?_).trans q) (fun _ q=>q) fun _ _ q=>q;rintro rfl;rcases hc with rfl|hc
  ·rw[hfree]at e;cases e
  ·rw[hfree]at hc;cases hc
 rcases hx with hk|hk
 ·refine wpAny_storeName_local hk hn (fun h' hn' hs=>?_) hcls;obtain⟨oL,_,_,hoL,_⟩:=id hn;refine h _ ⟨I.ok,I.os,I.bare,⟨fun b o e n hb hx=>?_,fun b o e n hb hx=>?_,I.base.free,fun b o e hx=>?_,I.base.tups,I.base.frzs,I.base.tbls⟩,⟨_,hn',fun j y v' e1 e2 e3=>?_⟩,fun y c e=>?_,I.free,I.freeC,fun p hp=>?_,tracked ⟨oL,hoL,I.free⟩ hs,by simpa using I.len⟩ ⟨_,hs,.inl rfl⟩
  ·exact(hs.2 b (x_ (EI (l_ e) I.ok.above))).trans (I.base.keep b o e n hb hx)
  ·obtain⟨sl,e1⟩:=I.base.slot b o e n hb hx;exact⟨sl,(hs.2 b (x_ (EI (l_ e) I.ok.above))).trans e1⟩
  ·obtain⟨o',e1⟩:=I.base.there b o e hx;exact⟨o',(hs.2 b (x_ (EI (l_ e) I.ok.above))).trans e1⟩
  ·by_cases hj:j=i
   ·subst hj;rw[hi]at e1;cases e1;rw[List.getElem?_set_self hiσ]at e2;cases e2;exact⟨u,r,.inl ⟨hk,by simp⟩⟩
   ·rw[EZ (Ne.symm hj)]at e2;obtain⟨u',r',q⟩:=hl j y v' e1 e2 e3;refine⟨u',r',?_⟩;rcases q with⟨k,e⟩|⟨k,c,e,z⟩
    ·refine .inl ⟨k,?_⟩;have:y≠x:=fun e=>hj (ou hN e1 (e ▸ hi));simp[this,e]
    ·exact .inr ⟨k,c,e,z.sameBut hs (cne y c e)⟩
  ·obtain⟨w',z⟩:=I.cell y c e;exact⟨w',z.sameBut hs (cne y c e)⟩
  ·obtain⟨e,n,ne,nf,d⟩:=I.pin p hp;exact⟨(hs.2 p.1 ne).trans e,n,ne,nf,d⟩
 ·have hfn:X.fn x=Δ:=by
   rcases hf with z|z
   ·exact z
   ·rw[z]at hk;cases hk
  obtain⟨c,hc⟩:=I.ok.has x (.inl hk);obtain⟨w',z⟩:=I.cell x c hc;refine wpAny_storeName_cell I.ok.kind hk hc z (fun h' hc' hs=>?_);obtain⟨oc,hoc,hocd⟩:=id z;refine h {s with heap:=h'} ⟨I.ok,I.os,I.bare,⟨fun b o e n hb hx=>?_,fun b o e n hb hx=>?_,I.base.free,fun b o e hx=>?_,I.base.tups,I.base.frzs,I.base.tbls⟩,⟨m,hn.sameBut hs (Ne.symm (cne x c hc)),fun j y v' e1 e2 e3=>?_⟩,fun y c' e=>?_,I.free,I.freeC,fun p hp=>?_,tracked ⟨oc,hoc,I.freeC x c hc⟩ hs,by simpa using I.len⟩ ⟨c,hs,.inr hc⟩
  ·exact(hs.2 b (x_ (EI (l_ e) (I.ok.cab x c hfn hc)))).trans (I.base.keep b o e n hb hx)
  ·obtain⟨sl,e1⟩:=I.base.slot b o e n hb hx;exact⟨sl,(hs.2 b (x_ (EI (l_ e) (I.ok.cab x c hfn hc)))).trans e1⟩
  ·obtain⟨o',e1⟩:=I.base.there b o e hx;exact⟨o',(hs.2 b (x_ (EI (l_ e) (I.ok.cab x c hfn hc)))).trans e1⟩
  ·by_cases hj:j=i
   ·subst hj;rw[hi]at e1;cases e1;rw[List.getElem?_set_self hiσ]at e2;cases e2;exact⟨u,r,.inr ⟨.inl hk,c,hc,hc'⟩⟩
   ·rw[EZ (Ne.symm hj)]at e2;obtain⟨u',r',q⟩:=hl j y v' e1 e2 e3;refine⟨u',r',?_⟩;rcases q with q|⟨k,c',e,z'⟩
    ·exact .inl q
    ·refine .inr ⟨k,c',e,z'.sameBut hs ?_⟩;rintro rfl;exact hj (ou hN e1 (I.ok.inj _ _ _ e hc ▸ hi))
  ·by_cases hcc:c'=c
   ·subst hcc;exact⟨_,hc'⟩
   ·obtain⟨w2,z2⟩:=I.cell y c' e;exact⟨w2,z2.sameBut hs hcc⟩
  ·obtain⟨e,n,ne,nf,d⟩:=I.pin p hp;refine⟨(hs.2 p.1 ?_).trans e,n,ne,nf,d⟩;intro q;rw[q,hoc]at e;have q':oc=p.2:=EF e;exact d w' (by rw[<- q'];exact hocd)
theorem oy {M:Model}{A:Η}{E:Φ->Ω->Prop}{i:Nat}{x:Str}{v:V}{u:Φ}{Q:Unit->Ω->Prop}(I:Inv X pins σ H s)(hN:X.N.Nodup)(hi:X.N[i]? = Γ x)(hx:Loc X.env.scope x)(r:RelV v u)
  (h:∀s',Inv X pins (σ.set i (Γ v)) H s'->Q () s') (hf:X.fn x=Δ∨X.env.scope.names.lookup x=Γ .local:=by first|exact .inl rfl|exact .inr rfl|assumption):Ι M A (storeName X.env x u) Q E s:=
 lM I hN hi hx r (fun s' I' _=>h s' I') hf
theorem Inv.call' {s':Ω}{ch:List Ψ}(I:Inv X pins σ H s)(ho:s'.os=s.os)(u:Un (frs X.stack) ch H H' s.heap s'.heap)(hok:HOk X.prog X.w H' s'.heap)(hg:AllBare s'.gens)
  (hch:∀b∈ch,(b∈X.ex∨X.s₀.heap.objs.size<=b)/\b≠X.env.locals/\(∀x c,X.env.cells.lookup x=Γ c->c≠b)/\∀p∈X.pn++pins,p.1≠b):Inv X pins σ H' s':=by
 obtain⟨h',g',d',t',o'⟩:=s';have e:o'=s.os:=ho;subst e;exact I.call (g':=g') (t':=t') (d':=d') u hok hg hch
end
abbrev XK:=Φ->Option Ψ->Hp->Prop
abbrev St:=List (Option V)
abbrev VK:=V->Hp->Prop
abbrev TE:=St->Hp->VK->Prop
abbrev TT:=St->Hp->(Bool->Hp->Prop)->Prop
abbrev TA:=St->Hp->(List V->Hp->Prop)->Prop
structure Ends where
 nx:St->Hp->Prop
 rt:VK
 bk:St->Hp->Prop:=fun _ _=>False
 ct:St->Hp->Prop:=fun _ _=>False
abbrev TS:=Ends->St->Hp->Prop
def EP (X:Cx)(pins:List (Ψ×Obj))(σ:St)(Q:VK)(u:Φ)(s':Ω):Prop:=∃v H',Inv X pins σ H' s'/\RelV v u/\Q v H'
def TP (X:Cx)(pins:List (Ψ×Obj))(σ:St)(Q:Bool->Hp->Prop)(b:Bool)(s':Ω):Prop:=∃H',Inv X pins σ H' s'/\Q b H'
def AP (X:Cx)(pins:List (Ψ×Obj))(σ:St)(Q:List V->Hp->Prop)(us:List Φ)(s':Ω):Prop:=∃vs H',Inv X pins σ H' s'/\Vals vs us/\Q vs H'
def SP (X:Cx)(pins:List (Ψ×Obj))(D:Ends)(f:Flow)(s':Ω):Prop:=
 match f with
 |.next=>∃σ' H',Inv X pins σ' H' s'/\D.nx σ' H'
 |.brk=>∃σ' H',Inv X pins σ' H' s'/\D.bk σ' H'
 |.cont=>∃σ' H',Inv X pins σ' H' s'/\D.ct σ' H'
 |.ret u=>∃v σ' H',Inv X pins σ' H' s'/\RelV v u/\D.rt v H'
def PE (X:Cx)(e:Expr)(t:TE):Prop:=
 ∀(pins:List (Ψ×Obj)) (s:Ω) (σ:St) (H:Hp) (Q:VK),Inv X pins σ H s->t σ H Q->Ι (Κ X.prog X.w) X.A (eval e X.env) (EP X pins σ Q) X.xe s
def PT (X:Cx)(e:Expr)(t:TT):Prop:=
 ∀(pins:List (Ψ×Obj)) (s:Ω) (σ:St) (H:Hp) (Q:Bool->Hp->Prop),Inv X pins σ H s->t σ H Q->Ι (Κ X.prog X.w) X.A (isTrue e X.env (eval e X.env)) (TP X pins σ Q) X.xe s
def PW (X:Cx)(e:Expr)(t:TT):Prop:=
 ∀(whole:Sem Φ) (pins:List (Ψ×Obj)) (s:Ω) (σ:St) (H:Hp) (Q:Bool->Hp->Prop),Inv X pins σ H s->t σ H Q->Ι (Κ X.prog X.w) X.A (isTrue e X.env whole) (TP X pins σ Q) X.xe s
theorem PW.pt {X:Cx}{e:Expr}{t:TT}(h:PW X e t):PT X e t:=h _
def PA (X:Cx)(es:List Expr)(t:TA):Prop:=
 ∀(pos:Pos) (pins:List (Ψ×Obj)) (s:Ω) (σ:St) (H:Hp) (Q:List V->Hp->Prop),Inv X pins σ H s->t σ H Q->Ι (Κ X.prog X.w) X.A (spliced (backTo pos (Μ es X.env))) (AP X pins σ Q) X.xe s
def PS (X:Cx)(st:Stmt)(t:TS):Prop:=
 ∀(pins:List (Ψ×Obj)) (s:Ω) (σ:St) (H:Hp) (D:Ends),Inv X pins σ H s->t D σ H->Ι (Κ X.prog X.w) X.A (exec st X.env) (SP X pins D) X.xe s
def PSs (X:Cx)(st:List Stmt)(t:TS):Prop:=
 ∀(pins:List (Ψ×Obj)) (s:Ω) (σ:St) (H:Hp) (D:Ends),Inv X pins σ H s->t D σ H->Ι (Κ X.prog X.w) X.A (execs st X.env) (SP X pins D) X.xe s
theorem thn {α:Type}{t:Sem α}{Q Q':α->Ω->Prop}{M:Model}{A:Η}{E:Φ->Ω->Prop}{s:Ω}(h:Ι M A t Q E s)(hQ:∀a s,Q a s->Q' a s):Ι M A t Q' E s:=wpAny_mono h hQ fun _ _ x=>x
section
variable {X:Cx}
def wm (i:Nat):TE:=fun σ H Q=>∃v,σ[i]? = Γ (Γ v)/\Q v H
def tC (v:V):TE:=fun _ H Q=>Q v H
theorem sZ {i:Nat}{x:Str}{pos:Pos}(hN:X.N[i]? = Γ x)(hv:Vis X.env.scope x)(hd:(x == ("__debug__" : Str))=Θ:=by decide) (hcd:(x == ("__classdict__" : Str))=Θ:=by decide):PE X (.Name x pos) (wm i):=by
 intro pins s σ H Q I h;obtain⟨v,e,h⟩:=h;obtain⟨m,hn,hl⟩:=I.loc;obtain⟨u,r,l⟩:=hl i x v hN e hv;have fin:EP X pins σ Q u s:=⟨v,H,I,r,h⟩
 rcases l with⟨hk,hm⟩|⟨hk,c,hc,hcell⟩
 ·exact wpAny_Name (wpAny_loadName_local I.ok.kind hk hn hm fin) hd
 ·rcases hk with hk|hk
  ·exact wpAny_Name (wpAny_loadName_cell I.ok.kind hk hc hcell fin) hd
  ·exact wpAny_Name (wpAny_loadName_free I.ok.kind hk hc hcell fin hcd) hd
theorem zQ {i j pos}:PE X (.Constant (.int i) j pos) (tC (.int i)):=fun _ _ _ H _ I h=>wpAny_Constant_int ⟨.int i,H,I.tok _,⟨_,rfl⟩,h⟩
theorem B1 {b j pos}:PE X (.Constant (.bool b) j pos) (tC (.bl b)):=fun _ _ _ H _ I h=>Constant_bool ⟨.bl b,H,I,rfl,h⟩
theorem zR {j pos}:PE X (.Constant .none j pos) (tC .non):=fun _ _ _ H _ I h=>Constant_none ⟨.non,H,I,rfl,h⟩
theorem zU {x j pos}:PE X (.Constant (.str x) j pos) (tC (.str x)):=fun _ _ _ H _ I h=>Calls.Constant_str ⟨.str x,H,I.tok _,⟨_,rfl⟩,h⟩
def Gl (X:Cx)(x:Str):Prop:=X.env.kindOf x=Γ .globalImplicit
theorem kh {E:Φ->Ω->Prop}{pins:List (Ψ×Obj)}{s:Ω}{σ:St}{H:Hp}{x:Str}{u:Φ}{pos:Pos}{Q:Φ->Ω->Prop}(I:Inv X pins σ H s)(hg:Gl X x)(hm:X.mg x=Γ u)(h:Q u s)
  (hd:(x == ("__debug__" : Str))=Θ:=by decide):Ι (Κ X.prog X.w) X.A (eval (.Name x pos) X.env) Q E s:=
 Calls.Name_function_global I.ok.kind hg (Calls.loadGlobal_global (by rw[I.ok.glob];exact I.mod.glob.keeps I.bk) hm h) hd
theorem ji {E:Φ->Ω->Prop}{pins:List (Ψ×Obj)}{s:Ω}{σ:St}{H:Hp}{x:Str}{u:Φ}{pos:Pos}{Q:Φ->Ω->Prop}(I:Inv X pins σ H s)(hg:Gl X x)(hm:X.mg x=Ξ)(hv:bootBuiltins x=Γ u)(h:Q u s)
  (hn:x≠"__name__":=by decide) (hd:(x == ("__debug__" : Str))=Θ:=by decide):Ι (Κ X.prog X.w) X.A (eval (.Name x pos) X.env) Q E s:=by
 obtain⟨mb,h1,h2⟩:=I.mod.blt;exact Calls.Name_function_global I.ok.kind hg (Calls.loadGlobal_builtin (by rw[I.ok.glob];exact I.mod.glob.keeps I.bk) hm (by rw[I.ok.blt];exact h1.keeps I.bk) ((h2 x hn).trans hv) h) hd
theorem wo {x:Str}{v:V}{u:Φ}{pos:Pos}(hg:Gl X x)(hm:X.mg x=Γ u)(r:RelV v u)(hd:(x == ("__debug__" : Str))=Θ:=by decide):PE X (.Name x pos) (tC v):=
 fun _ _ _ H _ I h=>kh I hg hm ⟨v,H,I,r,h⟩ hd
theorem wq {x:Str}{v:V}{u:Φ}{pos:Pos}(hg:Gl X x)(hm:X.mg x=Ξ)(hv:bootBuiltins x=Γ u)(r:RelV v u)(hn:x≠"__name__":=by decide) (hd:(x == ("__debug__" : Str))=Θ:=by decide):PE X (.Name x pos) (tC v):=
 fun _ _ _ H _ I h=>ji I hg hm hv ⟨v,H,I,r,h⟩ hn hd
variable {a b:Expr}{ta tb:TE}{pos:Pos}
def PC (X:Cx)(op:CmpOp)(a b:Expr)(t:TE):Prop:=
 ∀(pins:List (Ψ×Obj)) (s:Ω) (σ:St) (H:Hp) (Q:VK),Inv X pins σ H s->t σ H Q->
  Ι (Κ X.prog X.w) X.A (eval a X.env) (fun v s₁=>Ι (Κ X.prog X.w) X.A (eval b X.env) (fun u s₂=>Ι (Κ X.prog X.w) X.A (compareOp op v u) (EP X pins σ Q) X.xe s₂) X.xe s₁) X.xe s
def tB (t:TE):TT:=fun σ H Q=>t σ H fun x H1=>∃c,x=.bl c/\Q c H1
theorem tf {op:CmpOp}{t:TE}(h:PC X op a b t)(h1:behindInMarks op b=Θ:=by first|exact nobehind _ (by decide) (by decide)|rfl):PE X (.Compare a [op] [b] pos) t:=fun pins s σ H Q I hw=>wpAny_Compare1 (h pins s σ H Q I hw) h1
theorem tm {op:CmpOp}{t:TE}(h:PC X op a b t)(h1:behindInMarks op b=Θ:=by first|exact nobehind _ (by decide) (by decide)|rfl):PT X (.Compare a [op] [b] pos) (tB t):=by intro pins s σ H Q I hw;refine wpAny_isTrue_Compare1 (thn (h pins s σ H _ I hw) fun v s1 h1=>thn h1 fun u s2 h2=>thn h2 fun c s3 ⟨x,H1,I1,r1,q1⟩=>?_) h1;obtain⟨d,rfl,q⟩:=q1;cases r1;exact wpAny_truthy_bool ⟨H1,I1,q⟩
variable {tA tB':TT}{rest:List Expr}
def B2 (t u:TT):TT:=fun σ H Q=>t σ H fun c H1=>if c=Δ then u σ H1 Q else Q Θ H1
def tOr (t u:TT):TT:=fun σ H Q=>t σ H fun c H1=>if c=Δ then Q Δ H1 else u σ H1 Q
def D3 (t:TT):TT:=fun σ H Q=>t σ H fun c H1=>Q (!c) H1
theorem wt (ha:PT X a tA):PW X (.BoolOp .And [a] pos) tA:=by
 intro wh pins s σ H Q I h;refine isTrue_and (thn (ha pins s σ H Q I h) fun c s1 e=>?_);cases c with
 |true=>exact isTrue_and_nil e
 |false=>exact e
theorem zV (ha:PT X a tA):PW X (.BoolOp .Or [a] pos) tA:=by
 intro wh pins s σ H Q I h;refine isTrue_or (thn (ha pins s σ H Q I h) fun c s1 e=>?_);cases c with
 |false=>exact isTrue_or_nil e
 |true=>exact e
theorem zW (ha:PT X a tA)(hb:PW X (.BoolOp .And (b::rest) pos) tB'):PW X (.BoolOp .And (a::b::rest) pos) (B2 tA tB'):=by
 intro wh pins s σ H Q I h;refine isTrue_and (thn (ha pins s σ H _ I h) fun c s1 ⟨H1,I1,q1⟩=>?_);cases c with
 |true=>exact hb wh pins s1 σ H1 Q I1 q1
 |false=>exact⟨H1,I1,q1⟩
theorem B3 (ha:PT X a tA)(hb:PW X (.BoolOp .Or (b::rest) pos) tB'):PW X (.BoolOp .Or (a::b::rest) pos) (tOr tA tB'):=by
 intro wh pins s σ H Q I h;refine isTrue_or (thn (ha pins s σ H _ I h) fun c s1 ⟨H1,I1,q1⟩=>?_);cases c with
 |true=>exact⟨H1,I1,q1⟩
 |false=>exact hb wh pins s1 σ H1 Q I1 q1
theorem zX (ha:PT X a tA):PT X (.UnaryOp .Not a pos) (D3 tA):=by intro pins s σ H Q I h;exact isTrue_not (ha pins s σ H (fun c H1=>Q (!c) H1) I h)
theorem tq {op}{t:TE}(h:PE X a t):PE X (.BoolOp op [a] pos) t:=fun pins s σ H Q I hw=>BoolOp_one (h pins s σ H Q I hw)
end
def SqL (K:Frag)(H:Hp)(a:Ψ)(xs:List V):Prop:=
 Rd H a (.lst xs)∨
  ∃(o:Obj) (its:Array Φ) (n:Nat),K.lookup a=Γ o/\o.cls=.type "list"/\o.dict=Ξ/\o.data=.seq its n/\its.size<=Ε/\Vals xs its.toList
def SqT (K:Frag)(H:Hp)(a:Ψ)(xs:List V):Prop:=
 Rd H a (.tup xs)∨
  ∃(o:Obj) (its:Array Φ) (n:Nat),K.lookup a=Γ o/\o.cls=.type "tuple"/\o.data=.seq its n/\its.size<=Ε/\Vals xs its.toList
noncomputable def D4:Φ->Option V
 |.none=>Γ .non
 |.bool b=>Γ (.bl b)
 |.int i _=>Γ (.int i)
 |.str x _=>Γ (.str x)
 |.bytes b _=>Γ (.byt b)
 |.float b _=>Γ (.flt b)
 |.ref a=>Γ (.ref a)
 |.type n=>Γ (.ty n)
 |_=>Ξ
theorem RelV.abs {x:V}{u:Φ}(r:RelV x u):D4 u=Γ x:=by
 cases x with
 |non=>cases r;rfl
 |bl _=>cases r;rfl
 |int _=>obtain⟨t,rfl⟩:=r;rfl
 |str _=>obtain⟨t,rfl⟩:=r;rfl
 |byt _=>obtain⟨t,rfl⟩:=r;rfl
 |flt _=>obtain⟨t,rfl⟩:=r;rfl
 |ref _=>cases r;rfl
 |ty _=>cases r;rfl
theorem RelV.inj {x y:V}{u:Φ}(r:RelV x u)(q:RelV y u):x=y:=EF (r.abs.symm.trans q.abs)
theorem Vals.inj:∀ {xs ys:List V}{us:List Φ},Vals xs us->Vals ys us->xs=ys
 |_,_,_,.nil,.nil=>rfl
 |_,_,_,.cons r t,.cons r' t'=>by rw[r.inj r',Vals.inj t t']
section
variable {X:Cx}{pins:List (Ψ×Obj)}{σ:St}{H:Hp}{s:Ω}{a:Ψ}{xs ys:List V}
theorem Inv.list (I:Inv X pins σ H s)(h:SqL X.K H a xs):∃its:List Φ,Vals xs its/\PlainL s.heap a its.toArray/\xs.length<=Ε:=by
 rcases h with h|⟨o,its,n,hk,hc,hd,hs,hz,r⟩
 ·obtain⟨z,its,n,r,e⟩:=h.ok I.hok;exact⟨its,r,⟨_,n,e,rfl,rfl,rfl⟩,z⟩
 ·refine⟨its.toList,r,⟨o,n,I.kIn a o hk,hc,hd,by simpa using hs⟩,?_⟩;have e:=r.length;simp only[Array.length_toList]at e;omega
theorem Inv.tuple (I:Inv X pins σ H s)(h:SqT X.K H a xs):∃its:List Φ,Vals xs its/\IsTup s.heap a its.toArray/\xs.length<=Ε:=by
 rcases h with h|⟨o,its,n,hk,hc,hs,hz,r⟩
 ·obtain⟨z,its,r,p⟩:=h.ok I.hok;exact⟨its,r,p,z⟩
 ·refine⟨its.toList,r,⟨o,I.kIn a o hk,hc,n,by simpa using hs⟩,?_⟩;have e:=r.length;simp only[Array.length_toList]at e;omega
theorem Inv.list_inj (I:Inv X pins σ H s)(h:SqL X.K H a xs)(h':SqL X.K H a ys):xs=ys:=by
 obtain⟨its,r,⟨o,n,e,_,_,d⟩,_⟩:=I.list h;obtain⟨its',r',⟨o',n',e',_,_,d'⟩,_⟩:=I.list h';rw[e]at e';cases e';rw[d]at d';injection d' with d1 _;have:its=its':=by simpa using congrArg Array.toList d1
 subst this;exact r.inj r'
theorem Inv.tuple_inj (I:Inv X pins σ H s)(h:SqT X.K H a xs)(h':SqT X.K H a ys):xs=ys:=by
 obtain⟨its,r,⟨o,e,_,n,d⟩,_⟩:=I.tuple h;obtain⟨its',r',⟨o',e',_,n',d'⟩,_⟩:=I.tuple h';rw[e]at e';cases e';rw[d]at d';injection d' with d1 _;have:its=its':=by simpa using congrArg Array.toList d1
 subst this;exact r.inj r'
end
section
variable {X:Cx}{st:Stmt}{rest:List Stmt}{t u:TS}{e:Expr}{te:TE}{pos:Pos}
def B4:TS:=fun D σ H=>D.nx σ H
def D5 (t u:TS):TS:=fun D σ H=>t {D with nx:=u D} σ H
theorem qv:PSs X [] B4:=fun _ _ σ H _ I h=>wpAny_execs_nil ⟨σ,H,I,h⟩
theorem oz (h1:PS X st t)(h2:PSs X rest u):PSs X (st::rest) (D5 t u):=by
 intro pins s σ H D I h;refine wpAny_execs_cons (thn (h1 pins s σ H {D with nx:=u D} I h) fun f s1 q=>?_);cases f with
 |next=>obtain⟨σ',H',I',q⟩:=q;exact h2 pins s1 σ' H' D I' q
 |ret v=>exact q
 |brk=>exact q
 |cont=>exact q
theorem wu (h1:PS X st t):PSs X [st] t:=by
 intro pins s σ H D I h;refine wpAny_execs_cons (thn (h1 pins s σ H D I h) fun f s1 q=>?_);cases f with
 |next=>exact wpAny_execs_nil q
 |ret v=>exact q
 |brk=>exact q
 |cont=>exact q
theorem Inv.quiet {pins:List (Ψ×Obj)}{σ:St}{H:Hp}{s:Ω}(I:Inv X pins σ H s):interactive X.env=Θ:=by simp[interactive,I.ok.kind]
def B5 (te:TE):TS:=fun D σ H=>te σ H fun _ H1=>D.nx σ H1
theorem mQ (he:PE X e te)(hs:swapsWith e Ξ pos.line X.env=pure Θ:=by rfl):PS X (.Expr e pos) (B5 te):=by intro pins s σ H D I h;exact wpAny_Expr_any (thn (he pins s σ H _ I h) fun v s1 ⟨x,H1,I1,r1,q1⟩=>⟨σ,H1,I1,q1⟩) I.quiet hs
def D6 (te:TE):TS:=fun D σ H=>te σ H D.rt
theorem tu (he:PE X e te):PS X (.Return (Γ e) pos) (D6 te):=by intro pins s σ H D I h;exact wpAny_Return_some (thn (he pins s σ H _ I h) fun v s1 ⟨x,H1,I1,r1,q1⟩=>⟨x,σ,H1,I1,r1,q1⟩)
def D7 (c:TT)(t u:TS):TS:=fun D σ H=>c σ H fun b H1=>if b=Δ then t D σ H1 else u D σ H1
theorem B6 {c:Expr}{a b:List Stmt}{tc:TT}(hc:PT X c tc)(ha:PSs X a t)(hb:PSs X b u):PS X (.If c a b pos) (D7 tc t u):=by
 intro pins s σ H D I h;refine wpAny_If (thn (hc pins s σ H _ I h) fun d s1 ⟨H1,I1,q1⟩=>?_);cases d with
 |true=>exact ha pins s1 σ H1 D I1 q1
 |false=>exact hb pins s1 σ H1 D I1 q1
def zY:TS:=fun _ _ _=>False
theorem tw:PS X st zY:=fun _ _ _ _ _ _ h=>h.elim
end
abbrev TG:=V->St->Hp->(St->Hp->Prop)->Prop
abbrev TGs:=List V->St->Hp->(St->Hp->Prop)->Prop
def PG (X:Cx)(target:Expr)(t:TG):Prop:=
 ∀(pins:List (Ψ×Obj)) (s:Ω) (σ:St) (H:Hp) (v:V) (u:Φ) (Q:St->Hp->Prop),Inv X pins σ H s->RelV v u->t v σ H Q->
  Ι (Κ X.prog X.w) X.A (assign target X.env u) (fun _ s'=>∃σ' H',Inv X pins σ' H' s'/\Q σ' H') X.xe s
def PGs (X:Cx)(ts:List Expr)(t:TGs):Prop:=
 ∀(pins:List (Ψ×Obj)) (s:Ω) (σ:St) (H:Hp) (vs:List V) (us:List Φ) (Q:St->Hp->Prop),Inv X pins σ H s->Vals vs us->t vs σ H Q->
  Ι (Κ X.prog X.w) X.A (assignInOrder ((assignEach ts X.env).map (·.2)) us) (fun _ s'=>∃σ' H',Inv X pins σ' H' s'/\Q σ' H') X.xe s
abbrev wx:=V->V->V->Hp->(Hp->Prop)->Prop
def zZ (X:Cx)(t:wx):Prop:=
 ∀(pins:List (Ψ×Obj)) (s:Ω) (σ:St) (H:Hp) (o i v:V) (ov iv u:Φ) (Q:Hp->Prop),Inv X pins σ H s->RelV o ov->RelV i iv->RelV v u->t o i v H Q->
  Ι (Κ X.prog X.w) X.A (setItem ov iv u) (fun _ s'=>∃H',Inv X pins σ H' s'/\Q H') X.xe s
section
variable {X:Cx}{pos:Pos}
def tx (i:Nat):TG:=fun v σ H Q=>Q (σ.set i (Γ v)) H
theorem qw {i:Nat}{x:Str}(hN:X.N.Nodup)(hi:X.N[i]? = Γ x)(hx:Loc X.env.scope x)(hf:X.fn x=Δ∨X.env.scope.names.lookup x=Γ .local:=by first|exact .inl rfl|exact .inr rfl|assumption):PG X (.Name x pos) (tx i):=by intro pins s σ H v u Q I r h;exact wpAny_assign_Name (oy I hN hi hx r (fun s' I'=>⟨_,H,I',h⟩) hf)
def B7:TGs:=fun vs σ H Q=>vs=[]/\Q σ H
def yC (t:TG)(u:TGs):TGs:=fun vs σ H Q=>∃v r,vs=v::r/\t v σ H fun σ' H'=>u r σ' H' Q
theorem qx:PGs X [] B7:=by intro pins s σ H vs us Q I r h;obtain⟨e,h⟩:=h;subst e;cases r;exact assignInOrder_nil ⟨σ,H,I,h⟩
theorem ku {e:Expr}{es:List Expr}{t:TG}{u:TGs}(h1:PG X e t)(h2:PGs X es u)
  (hs:(assignEach (e::es) X.env).map (·.2)=assign e X.env::(assignEach es X.env).map (·.2):=by rfl):PGs X (e::es) (yC t u):=by
 intro pins s σ H vs us Q I r h;obtain⟨v,vr,e1,h⟩:=h;subst e1;cases r with
 |cons r rr=>rw[hs];refine assignInOrder_cons (thn (h1 pins s σ H _ _ _ I r h) fun _ s1 ⟨σ1,H1,I1,q1⟩=>?_);exact h2 pins s1 σ1 H1 _ _ Q I1 rr q1
def D8 (K:Frag)(n:Nat)(t:TGs):TG:=fun v σ H Q=>∃a xs,v=.ref a/\SqT K H a xs/\xs.length=n/\t xs σ H Q
theorem Aa {es:List Expr}{k:Nat}{t:TGs}{n:Nat}(hc:X.calm=Δ)(h:PGs X es t)
  (hn:(assignEach es X.env).length=n:=by rfl) (hst:(assignEach es X.env).findIdx? (·.1)=Ξ:=by rfl):PG X (.Tuple es k pos) (D8 X.K n t):=by
 intro pins s σ H v u Q I r hw;obtain⟨a,xs,e1,hq,hl,hw⟩:=hw;subst e1;cases r;obtain⟨its,rv,ht,hz⟩:=I.tuple hq;refine assign_Tuple_tuple (I.ok.hd hc) ht (by simp[hn,<- hl,rv.length]) hst fun h' hx=>?_;have I1:Inv X pins σ H {s with heap:=h'}:=I.kept (t':=s.toks) fun b o e=>hx b o (x_ (l_ e)) e;exact h pins _ σ H xs _ Q I1 (by simpa using rv) hw
def D9 (to ti:TE)(t:wx):TG:=fun v σ H Q=>to σ H fun o H1=>ti σ H1 fun i H2=>t o i v H2 fun H3=>Q σ H3
theorem tD {o i:Expr}{to ti:TE}{t:wx}(ho:PE X o to)(hi:PE X i ti)(hs:zZ X t)
  (ha:∀v,assign (.Subscript o i pos) X.env v=(do
   let ov <- holding [v] (eval o X.env);let iv <- holding [v,ov] (eval i X.env)
   standAt pos
   holding [v,ov,iv] (setItem ov iv v)
   release [v,ov,iv] []):=by intro _;rfl):PG X (.Subscript o i pos) (D9 to ti t):=by
 intro pins s σ H v u Q I r h;rw[ha];refine i_ (ES (thn (ho pins s σ H _ I h) fun ov s1 ⟨x,H1,I1,r1,q1⟩=>?_));refine i_ (ES (thn (hi pins s1 σ H1 _ I1 q1) fun iv s2 ⟨y,H2,I2,r2,q2⟩=>?_));refine i_ (wpAny_standAt (i_ (ES (thn (hs pins s2 σ H2 x y v ov iv u _ I2 r1 r2 r q2) fun _ s3 ⟨H3,I3,q3⟩=>?_))));exact wpAny_release ⟨σ,H3,I3,q3⟩
def Ab (te:TE)(g:TG):TS:=fun D σ H=>te σ H fun x H1=>g x σ H1 D.nx
theorem pH {tg e:Expr}{te:TE}{g:TG}(he:PE X e te)(hg:PG X tg g)(hs:swapsWithSole [tg] e pos.line X.env=pure Θ:=by rfl)(hw:swappedStores [tg] e X.env=pure Ξ:=by rfl)
  (h1:(assignEach [tg] X.env).map (·.2)=[assign tg X.env]:=by rfl):PS X (.Assign [tg] e pos) (Ab te g):=by
 intro pins s σ H D I h;refine wpAny_Assign_stores (thn (he pins s σ H _ I h) fun v s1 ⟨x,H1,I1,r1,q1⟩=>?_) hs hw;rw[h1];exact thn (hg pins s1 σ H1 x v _ I1 r1 q1) fun _ s2 q=>q
theorem kx {i:Nat}{x:Str}{e:Expr}{te:TE}{pos':Pos}(hN:X.N.Nodup)(hi:X.N[i]? = Γ x)(hx:Loc X.env.scope x)(he:PE X e te)(hs:swapsWith e (Γ (.Name x pos')) pos.line X.env=pure Θ:=by rfl)(hf:X.fn x=Δ∨X.env.scope.names.lookup x=Γ .local:=by first|exact .inl rfl|exact .inr rfl|assumption) :
  PS X (.Assign [.Name x pos'] e pos) (Ab te (tx i)):=by
 intro pins s σ H D I h;refine wpAny_Assign_Name (thn (he pins s σ H _ I h) fun v s1 ⟨y,H1,I1,r1,q1⟩=>?_) hs;exact oy I1 hN hi hx r1 (fun s2 I2=>⟨_,H1,I2,q1⟩) hf
end
structure It where
 go:Nat->Hp->Prop
 yld:Nat->Hp->V->Hp->Prop
 stop:Nat->Hp->Prop
def ju (X:Cx)(pins:List (Ψ×Obj))(H:Hp)(b:Ψ):Prop:=
 H b=Ξ/\b≠X.env.locals/\b∉X.fs/\(b∈X.ex∨X.s₀.heap.objs.size<=b)/\(∀x c,X.env.cells.lookup x=Γ c->c≠b)/\∀p∈X.pn++pins,p.1≠b
theorem Inv.fpOk {X:Cx}{pins:List (Ψ×Obj)}{σ:St}{H H':Hp}{s:Ω}{b:Ψ}(I:Inv X pins σ H s)(hb:s.heap.objs.size<=b)(hn:H' b=Ξ):ju X pins H' b:=by
 refine⟨hn,Nat.ne_of_gt (EI I.lt hb),I.nofs hb,.inr (EN I.sz hb),fun x c e z=>?_,fun p hp z=>?_⟩
 ·obtain⟨v,q⟩:=I.cell x c e;exact absurd (EI q.lt (by rw[z];exact hb)) (EX _)
 ·exact absurd (EI (l_ (I.pin p hp).1) (by rw[z];exact hb)) (EX _)
structure Turn (P:Β)(w:Α)(K:Frag)(tg:Expr)(J:It)(fp:List Ψ)(it:Ψ)(tn:Nat->Heap->Prop):Prop where
 mem:it∈fp
 obj:∀i h,tn i h->∀b∈fp,∃o,h.get? b=Γ o/\∀v,o.data≠.cell v
 keep:∀i h h',tn i h->(∀b∈fp,∀o,h.get? b=Γ o->h'.get? b=Γ o)->tn i h'
 item:∀(X:Cx),X.prog=P->X.w=w->X.K=K->X.calm=Δ->∀(i:Nat) (pins:List (Ψ×Obj)) (s:Ω) (σ:St) (H:Hp) (E:Φ->Ω->Prop),Inv X pins σ H s->(∀b∈fp,ju X pins H b)->tn i s.heap->J.go i H->
  Ι (Κ P w) X.A (pyNext (.ref it)) (fun r s1=>∃u,r=Γ u/\
   Ι (Κ P w) X.A (letOwnedTupleGo tg (.ref it) u) (fun _ s2=>∃x H',Inv X pins σ H' s2/\RelV x u/\J.yld i H x H'/\tn (i+1) s2.heap/\∀b∈fp,H' b=Ξ) E s1) E s
 done:∀(X:Cx),X.prog=P->X.w=w->X.K=K->X.calm=Δ->∀(i:Nat) (pins:List (Ψ×Obj)) (s:Ω) (σ:St) (H:Hp) (E:Φ->Ω->Prop),Inv X pins σ H s->(∀b∈fp,ju X pins H b)->tn i s.heap->J.stop i H->
  Ι (Κ P w) X.A (pyNext (.ref it)) (fun r s1=>r=Ξ/\Inv X pins σ H s1) E s
 self:∀(A:Η) (i:Nat) (s:Ω) (Q:Φ->Ω->Prop) (E:Φ->Ω->Prop),tn i s.heap->Q (.ref it) s->Ι (Κ P w) A (pyIter (.ref it)) Q E s
abbrev TI:=St->Hp->(It->Hp->Prop)->Prop
def PIE (X:Cx)(pins:List (Ψ×Obj))(σ:St)(tg:Expr)(R:It->Hp->Prop)(itv:Φ)(s2:Ω):Prop:=
 ∃(it:Ψ) (fp:List Ψ) (tn:Nat->Heap->Prop) (J:It) (H':Hp),itv=.ref it/\Inv X pins σ H' s2/\Turn X.prog X.w X.K tg J fp it tn/\tn 0 s2.heap/\(∀b∈fp,ju X pins H' b)/\R J H'
def PI (X:Cx)(tg iter:Expr)(wi:TI):Prop:=
 ∀(pins:List (Ψ×Obj)) (s:Ω) (σ:St) (H:Hp) (R:It->Hp->Prop),Inv X pins σ H s->wi σ H R->
  Ι (Κ X.prog X.w) X.A (eval iter X.env) (fun v s1=>Ι (Κ X.prog X.w) X.A (pyIter v) (PIE X pins σ tg R) X.xe s1) X.xe s
theorem qy {M : Model}{A : Η}{E : Φ -> Ω -> Prop}{s : Ω}{tg : Expr}{it : Ψ}{u : Φ}{o : Obj}{n : String}{vs : Array Φ}{Q : Unit -> Ω -> Prop}(ho : s.heap.get? it = Γ o)(hc : o.cls = .type n)(hd : o.data = .fields vs)
    (hn : ["enumerate", "zip", "dict_itemiterator", "dict_reverseitemiterator", "odict_iterator", "itertools.zip_longest", "itertools.pairwise"].contains n = Θ) (hQ : Q () s) : Ι M A (letOwnedTupleGo tg (.ref it) u) Q E s :=by
  unfold letOwnedTupleGo;cases tg <;> first
    | exact v_ hQ
    | (cases u <;> first
        | exact v_ hQ
        | (refine i_ (wpAny_load ho ?_)
           rw [hc,hd];show Ι M A (if(["enumerate", "zip", "dict_itemiterator", "dict_reverseitemiterator", "odict_iterator", "itertools.zip_longest", "itertools.pairwise"].contains n&&vs[0]? == Γ (rawInt _)) = Δ then _ else _) Q E s;rw [b_ (by intro h; rw [hn,Bool.false_and]at h; cases h)]
           exact v_ hQ))
noncomputable def Itl (K:Frag)(a:Ψ):It:=
 ⟨fun i H=>∃xs x,SqL K H a xs/\xs[i]? = Γ x,fun i H x H'=>H'=H/\∀xs,SqL K H a xs->xs[i]? = Γ x,fun i H=>∃xs,SqL K H a xs/\xs.length<=i⟩
noncomputable def Itt (K:Frag)(a:Ψ):It:=
 ⟨fun i H=>∃xs x,SqT K H a xs/\xs[i]? = Γ x,fun i H x H'=>H'=H/\∀xs,SqT K H a xs->xs[i]? = Γ x,fun i H=>∃xs,SqT K H a xs/\xs.length<=i⟩
noncomputable def Itr (lo:Int)(n:Nat):It:=⟨fun i _=>i < n,fun i H x H'=>H'=H/\x=.int (lo+i),fun i _=>n<=i⟩
theorem sk {P:Β}{w:Α}{K:Frag}{tg:Expr}(a it:Ψ):Turn P w K tg (Itl K a) [it] it (fun i h=>h.IsListIter it a i) where
 mem:=by simp
 obj:=fun i h st b hb=>by
  have e:b=it:=by simpa using hb
  subst e;obtain⟨o,e,c,d⟩:=st;exact⟨o,e,fun v z=>by rw[d]at z;cases z⟩
 keep:=fun i h h' st k=>st.at fun o e=>k it (by simp) o e
 item:=by intro X hP hw hK hc i pins s σ H E I hf st hg;subst hP hw hK;obtain⟨xs,x,hq,hx⟩:=hg;obtain⟨its,rv,p,hz⟩:=I.list hq;obtain⟨u,hu,ru⟩:=rv.get hx;obtain⟨f0,f1,f2,f3,f4,f5⟩:=hf it (by simp);refine wpAny_pyNext_list_item st p.isList (x:=u) (by simpa using hu) fun h' st' sb=>?_;have I1:Inv X pins σ H {s with heap:=h'}:=I.turned (t':=s.toks) (fun b o hb e=>(sb.2 b hb).trans e) f0 f1 f3 f4 f5;obtain⟨o,e,c,d⟩:=id st';exact⟨u,rfl,qy (s:={s with heap:=h'}) e c d (by decide) ⟨x,H,I1,ru,⟨rfl,fun ys hy=>by rw[I.list_inj hy hq];exact hx⟩,st',fun b hb=>(hf b hb).1⟩⟩
 done:=by intro X hP hw hK hc i pins s σ H E I hf st hg;subst hP hw hK;obtain⟨xs,hq,hx⟩:=hg;obtain⟨its,rv,p,hz⟩:=I.list hq;obtain⟨f0,f1,f2,f3,f4,f5⟩:=hf it (by simp);have hl:=rv.length;exact wpAny_pyNext_list_end (I.ok.hd hc) st p.isList (by simp;omega) fun h' eb=>⟨rfl,I.turned (t':=s.toks) (fun b o hb e=>eb b o hb e) f0 f1 f3 f4 f5⟩
 self:=fun _ _ _ _ _ st h=>wpAny_pyIter_listiter st h
theorem pI {P:Β}{w:Α}{K:Frag}{tg:Expr}(a it:Ψ):Turn P w K tg (Itt K a) [it] it (fun i h=>h.IsTupleIter it a i) where
 mem:=by simp
 obj:=fun i h st b hb=>by
  have e:b=it:=by simpa using hb
  subst e;obtain⟨o,e,c,d⟩:=st;exact⟨o,e,fun v z=>by rw[d]at z;cases z⟩
 keep:=fun i h h' st k=>st.at fun o e=>k it (by simp) o e
 item:=by intro X hP hw hK hc i pins s σ H E I hf st hg;subst hP hw hK;obtain⟨xs,x,hq,hx⟩:=hg;obtain⟨its,rv,p,hz⟩:=I.tuple hq;obtain⟨u,hu,ru⟩:=rv.get hx;obtain⟨f0,f1,f2,f3,f4,f5⟩:=hf it (by simp);refine wpAny_pyNext_tuple_item st (show s.heap.IsTuple a its.toArray from p) (x:=u) (by simpa using hu) fun h' st' sb=>?_;have I1:Inv X pins σ H {s with heap:=h'}:=I.turned (t':=s.toks) (fun b o hb e=>(sb.2 b hb).trans e) f0 f1 f3 f4 f5;obtain⟨o,e,c,d⟩:=id st';exact⟨u,rfl,qy (s:={s with heap:=h'}) e c d (by decide) ⟨x,H,I1,ru,⟨rfl,fun ys hy=>by rw[I.tuple_inj hy hq];exact hx⟩,st',fun b hb=>(hf b hb).1⟩⟩
 done:=by intro X hP hw hK hc i pins s σ H E I hf st hg;subst hP hw hK;obtain⟨xs,hq,hx⟩:=hg;obtain⟨its,rv,p,hz⟩:=I.tuple hq;obtain⟨f0,f1,f2,f3,f4,f5⟩:=hf it (by simp);have hl:=rv.length;exact wpAny_pyNext_tuple_end (I.ok.hd hc) st (show s.heap.IsTuple a its.toArray from p) (by simp;omega) fun h' eb=>⟨rfl,I.turned (t':=s.toks) (fun b o hb e=>eb b o hb e) f0 f1 f3 f4 f5⟩
 self:=fun _ _ _ _ _ st h=>wpAny_pyIter_tupleiter st h
theorem pJ {P:Β}{w:Α}{K:Frag}{tg:Expr}(it:Ψ)(lo:Int)(n:Nat):Turn P w K tg (Itr lo n) [it] it (fun i h=>IsRangeIter h it (lo+(i:Nat)*1) ((n:Int) - (i:Nat)) 1) where
 mem:=by simp
 obj:=fun i h st b hb=>by
  have e:b=it:=by simpa using hb
  subst e
  exact⟨_,st,fun v z=>by
   have z':Data.fields _=Data.cell v:=z
   cases z'⟩
 keep:=fun i h h' st k=>k it (by simp) _ st
 item:=by intro X hP hw hK hc i pins s σ H E I hf st hg;subst hP hw hK;obtain⟨f0,f1,f2,f3,f4,f5⟩:=hf it (by simp);have W:=Walks.range (prog:=X.prog) (w:=X.w) (I.ok.hd hc) it lo 1 n;refine W.item i s _ _ hg st fun v h' tk hv st' kk=>?_;obtain⟨t,rfl⟩:=hv;have I1:Inv X pins σ H {s with heap:=h',toks:=tk}:=I.turned (fun b o hb e=>kk b o (by simpa using hb) e) f0 f1 f3 f4 f5;refine⟨_,rfl,qy (s:={s with heap:=h',toks:=tk}) (n:="range_iterator") st' rfl rfl (by decide) ⟨.int (lo+i),H,I1,⟨t,?_⟩,⟨rfl,rfl⟩,st',fun b hb=>(hf b hb).1⟩⟩;rw[Int.mul_one]
 done:=by intro X hP hw hK hc i pins s σ H E I hf st hg;subst hP hw hK;obtain⟨f0,f1,f2,f3,f4,f5⟩:=hf it (by simp);exact wpAny_pyNext_range_end (I.ok.hd hc) st (by have:n<=i:=hg;omega) fun h' eb=>⟨rfl,I.turned (t':=s.toks) (fun b o hb e=>eb b o hb e) f0 f1 f3 f4 f5⟩
 self:=fun _ _ _ _ _ st h=>wpAny_pyIter_rangeiter st h
section
variable {X:Cx}{tg:Expr}
theorem tE {pins:List (Ψ×Obj)}{σ:St}{H:Hp}{s:Ω}{R:It->Hp->Prop}{E:Φ->Ω->Prop}{lo hi:Int}{t u v:Tok}{tk:Nat}(I:Inv X pins σ H s)(h1 : -(2 ^ 62)<=lo)(h2:lo < 2 ^ 62)(h3 : -(2 ^ 62)<=hi)(h4:hi < 2 ^ 62)
  (q:R (Itr lo (hi - lo).toNat) H):Ι (Κ X.prog X.w) X.A (pyIter (.ref s.heap.objs.size)) (PIE X pins σ tg R) E {s with heap:=s.heap.push {cls:=.type "range",data:=.fields #[.int lo t,.int hi u,.int 1 v]},toks:=tk}:=by
 refine wpAny_pyIter_range (IsRange.new ..) (small_one h1 h2 h3 h4) ?_;have I1:Inv X pins σ H {s with heap:=s.heap.push {cls:=.type "range",data:=.fields #[.int lo t,.int hi u,.int 1 v]},toks:=tk}:=I.kept fun b o e=>w_ _ e
 refine⟨(s.heap.push {cls:=.type "range",data:=.fields #[.int lo t,.int hi u,.int 1 v]}).objs.size,[(s.heap.push {cls:=.type "range",data:=.fields #[.int lo t,.int hi u,.int 1 v]}).objs.size],_,_,H,rfl,
  I1.kept (t':=tk) fun b o e=>w_ _ e,pJ _ lo (hi - lo).toNat,?_,fun b hb=>?_,q⟩
 ·have e1:lo+((0:Nat):Int)*1=lo:=by simp
  have e2:(((hi - lo).toNat:Nat):Int) - ((0:Nat):Int)=Builtin.Range.rangeSize lo hi 1:=by rw[rangeSize_one];split<;>omega
  show IsRangeIter _ _ (lo+((0:Nat):Int)*1) ((((hi - lo).toNat:Nat):Int) - ((0:Nat):Int)) 1;rw[e1,e2];exact EG _ rfl
 ·have e:b=(s.heap.push {cls:=.type "range",data:=.fields #[.int lo t,.int hi u,.int 1 v]}).objs.size:=by simpa using hb
  subst e;exact I1.fpOk (n_ _) (I1.hok.fresh (n_ _))
def B8 (ta:TA):TI:=fun σ H R=>ta σ H fun vs H1=>∃j:Int,vs=[.int j]/\-(2 ^ 62)<=j/\j < 2 ^ 62/\R (Itr 0 j.toNat) H1
theorem lN {a:Expr}{ta:TA}{p pos:Pos}(hg:Gl X "range") (hm:X.mg "range" = Ξ) (ha:PA X [a] ta) (hs:Μ [a] X.env=[(Θ,eval a X.env)]:=by rfl):PI X tg (.Call (.Name "range" p) [a] [] pos) (B8 ta):=by
 intro pins s σ H R I h;refine Call_ (ji I hg hm boot_range (PyProof.Rows.callWith_type1 (thn (ha pos pins s σ H _ I h) fun us s1 ⟨vs,H1,I1,r1,q1⟩=>?_) hs rfl));obtain⟨j,e,q1,q2,q⟩:=q1;subst e;cases r1 with
 |cons r rr=>cases rr;obtain⟨t,rfl⟩:=r;exact call_range_1 (tE I1 (by omega) (by omega) q1 q2 (by simpa using q))
def Ea (wi:TI)(g:TG)(tb:TS):TS:=fun D σ H=>wi σ H fun J H1=>∃W:Nat->Nat->St->Hp->Prop,(∃m,W 0 m σ H1)/\∀i m σ H,W i m σ H->
 (J.stop i H/\D.nx σ H)∨(J.go i H/\∃N:St->Hp->Prop,(∀σ' H',N σ' H'->∃m',m' < m/\W (i+1) m' σ' H')/\∀x H',J.yld i H x H'->g x σ H' fun σ2 H2=>tb {D with nx:=N,ct:=N,bk:=D.nx} σ2 H2)
noncomputable def jP (fp:List Ψ)(h:Heap):List (Ψ×Obj):=fp.filterMap fun b=>(h.get? b).map fun o=>(b,o)
theorem iD {fp:List Ψ}{h:Heap}{b:Ψ}{o:Obj}(hb:b∈fp)(e:h.get? b=Γ o):(b,o)∈jP fp h:=List.mem_filterMap.mpr ⟨b,hb,by rw[e];rfl⟩
theorem so {fp:List Ψ}{h:Heap}{p:Ψ×Obj}(hp:p∈jP fp h):p.1∈fp/\h.get? p.1=Γ p.2:=by
 obtain⟨b,hb,e⟩:=List.mem_filterMap.mp hp;cases q:h.get? b with
 |none=>rw[q]at e;cases e
 |some o=>rw[q]at e;have e':(b,o)=p:=EF e;subst e';exact⟨hb,q⟩
theorem Inv.pinned {pins:List (Ψ×Obj)}{σ:St}{H:Hp}{s:Ω}{fp:List Ψ}(I:Inv X pins σ H s)(hf:∀b∈fp,ju X pins H b)(ho:∀b∈fp,∃o,s.heap.get? b=Γ o/\∀v,o.data≠.cell v):Inv X (pins++jP fp s.heap) σ H s:=
 I.pins_of fun p hp=>(u_.mp hp).elim (fun z=>I.pin p (m_ _ z)) fun z=>by obtain⟨hb,e⟩:=so z;obtain⟨f0,f1,f2,_⟩:=hf p.1 hb;obtain⟨o,e',d⟩:=ho p.1 hb;rw[e]at e';cases e';exact⟨e,f0,f1,f2,d⟩
theorem Inv.unpinned {pins pl:List (Ψ×Obj)}{σ:St}{H:Hp}{s:Ω}(I:Inv X (pins++pl) σ H s):Inv X pins σ H s:=I.pins_of fun p hp=>I.pin p (m_ _ (k_ _ hp))
theorem pK {iter:Expr}{body:List Stmt}{wi:TI}{g:TG}{tb:TS}{pos:Pos}(hp:PassesOwn (Κ X.prog X.w) X.A X.env X.xe)(hc:X.calm=Δ)(hi:PI X tg iter wi)(hg:PG X tg g)(hb:PSs X body tb)
  (hs:∀x,foldedSetIterable iter X.env x=pure x:=by intro _;rfl):PS X (.For tg iter body [] pos) (Ea wi g tb):=by
 intro pins s σ H D I h;refine wpAny_For (thn (hi pins s σ H _ I h) fun v s1 h1=>thn h1 fun itv s2 h2=>?_) hs;obtain⟨it,fp,tn,J,H2,e,I2,T,st2,f2,W,⟨m0,w0⟩,turn⟩:=h2;subst e
 -- what stays Δ of the iterator's objects through the loop
 have stat:∀ {H':Hp},(∀b∈fp,H' b=Ξ)->∀b∈fp,ju X pins H' b:=fun hn b hb=>⟨hn b hb,(f2 b hb).2⟩
 refine codeAny_forLoop_any (fun n s'=>∃i σ' H',Inv X pins σ' H' s'/\tn i s'.heap/\(∀b∈fp,H' b=Ξ)/\W i n σ' H') ?_ m0 ⟨0,σ,H2,I2,st2,fun b hb=>(f2 b hb).1,w0⟩;rintro n s3 ⟨i,σ3,H3,I3,st3,fr3,w3⟩;rcases turn i n σ3 H3 w3 with⟨stop,qn⟩|⟨go,N,hN,step⟩
 ·refine wpAny_passesOwn hp (thn (T.done X rfl rfl rfl hc i pins s3 σ3 H3 X.xe I3 (stat fr3) st3 stop) fun r s4 ⟨hr,I4⟩=>?_);subst hr;exact wpAny_execs_nil ⟨σ3,H3,I4,qn⟩
 ·refine wpAny_passesOwn hp (thn (T.item X rfl rfl rfl hc i pins s3 σ3 H3 X.xe I3 (stat fr3) st3 go) fun r s4 ⟨u,hr,h4⟩=>?_);subst hr;refine wpAny_passesOwn hp (thn h4 fun _ s5 ⟨x,H5,I5,r5,y5,st5,fr5⟩=>?_);have I5':=I5.pinned (stat fr5) (T.obj _ _ st5);refine wpAny_passesOwn hp (thn (hg _ s5 σ3 H5 x u _ I5' r5 (step x H5 y5)) fun _ s6 ⟨σ6,H6,I6,q6⟩=>?_);refine wpAny_passesOwn hp (thn (hb _ s6 σ6 H6 _ I6 q6) fun f s7 q7=>?_);have again:∀ {σ7:St}{H7:Hp},Inv X (pins++jP fp s5.heap) σ7 H7 s7->N σ7 H7->∃m,m < n/\∃i σ' H',Inv X pins σ' H' s7/\tn i s7.heap/\(∀b∈fp,H' b=Ξ)/\W i m σ' H':=fun {σ7 H7} I7 n7=>by obtain⟨m',hm,w7⟩:=hN σ7 H7 n7;refine⟨m',hm,i+1,σ7,H7,I7.unpinned,T.keep _ _ _ st5 fun b hb o e=>(I7.pin (b,o) (m_ _ (m_ _ (iD hb e)))).1,fun b hb=>?_,w7⟩;obtain⟨o,e,d⟩:=T.obj _ _ st5 b hb;exact(I7.pin (b,o) (m_ _ (m_ _ (iD hb e)))).2.1
  cases f with
  |next=>obtain⟨σ7,H7,I7,n7⟩:=q7;exact again I7 n7
  |cont=>obtain⟨σ7,H7,I7,n7⟩:=q7;exact again I7 n7
  |brk=>obtain⟨σ7,H7,I7,q7⟩:=q7;exact⟨σ7,H7,I7.unpinned,q7⟩
  |ret v=>obtain⟨x7,σ7,H7,I7,r7,q7⟩:=q7;exact⟨x7,σ7,H7,I7.unpinned,r7,q7⟩
end
abbrev R2:=V->V->Hp->VK->Prop
def OpR (X:Cx)(f:Φ->Φ->Sem Φ)(r:R2):Prop:=
 ∀(pins:List (Ψ×Obj)) (s:Ω) (σ:St) (H:Hp) (x y:V) (v u:Φ) (Q:VK),Inv X pins σ H s->RelV x v->RelV y u->r x y H Q->
  Ι (Κ X.prog X.w) X.A (f v u) (EP X pins σ Q) X.xe s
def UnR (X:Cx)(f:Φ->Sem Φ)(r:V->Hp->VK->Prop):Prop:=
 ∀(pins:List (Ψ×Obj)) (s:Ω) (σ:St) (H:Hp) (x:V) (v:Φ) (Q:VK),Inv X pins σ H s->RelV x v->r x H Q->
  Ι (Κ X.prog X.w) X.A (f v) (EP X pins σ Q) X.xe s
def gK (X:Cx)(f:Φ)(r:List V->Hp->VK->Prop):Prop:=
 ∀(pins:List (Ψ×Obj)) (s:Ω) (σ:St) (H:Hp) (xs:List V) (us:List Φ) (Q:VK),Inv X pins σ H s->Vals xs us->r xs H Q->
  Ι (Κ X.prog X.w) X.A (call f us) (EP X pins σ Q) X.xe s
def Eb (X:Cx)(r:V->Hp->(Bool->Hp->Prop)->Prop):Prop:=
 ∀(pins:List (Ψ×Obj)) (s:Ω) (σ:St) (H:Hp) (x:V) (v:Φ) (Q:Bool->Hp->Prop),Inv X pins σ H s->RelV x v->r x H Q->
  Ι (Κ X.prog X.w) X.A (truthy v) (TP X pins σ Q) X.xe s
def tOp (r:R2)(ta tb:TE):TE:=fun σ H Q=>ta σ H fun x H1=>tb σ H1 fun y H2=>r x y H2 Q
def tUn (r:V->Hp->VK->Prop)(ta:TE):TE:=fun σ H Q=>ta σ H fun x H1=>r x H1 Q
def rI (C:Int->Int->Prop)(g:Int->Int->V):R2:=fun x y H Q=>∃i j,x=.int i/\y=.int j/\C i j/\Q (g i j) H
def rI0 (g:Int->Int->V):R2:=fun x y H Q=>∃i j,x=.int i/\y=.int j/\Q (g i j) H
def rU (g:Int->V):V->Hp->VK->Prop:=fun x H Q=>∃i,x=.int i/\Q (g i) H
section
variable {X:Cx}{a b c:Expr}{ta tb tc:TE}{pos:Pos}
theorem Ac (ha:PE X a ta)(hb:PE X b tb){pins:List (Ψ×Obj)}{s:Ω}{σ:St}{H:Hp}{R:V->V->Hp->Prop}(I:Inv X pins σ H s)
  (h:ta σ H fun x H1=>tb σ H1 fun y H2=>R x y H2) {Q:Φ->Ω->Prop}{f:Φ->Φ->Sem Φ}
  (hf:∀v u s2 x y H2,Inv X pins σ H2 s2->RelV x v->RelV y u->R x y H2->Ι (Κ X.prog X.w) X.A (f v u) Q X.xe s2) :
  Ι (Κ X.prog X.w) X.A (eval a X.env) (fun v s₁=>Ι (Κ X.prog X.w) X.A (eval b X.env) (fun u s₂=>Ι (Κ X.prog X.w) X.A (f v u) Q X.xe s₂) X.xe s₁) X.xe s:=by
 refine thn (ha pins s σ H _ I h) fun v s1 ⟨x,H1,I1,r1,q1⟩=>?_;refine thn (hb pins s1 σ H1 _ I1 q1) fun u s2 ⟨y,H2,I2,r2,q2⟩=>?_;exact hf v u s2 x y H2 I2 r1 r2 q2
theorem qz {op:Operator}{r:R2}(ho:OpR X (binaryOp op) r)(ha:PE X a ta)(hb:PE X b tb):PE X (.BinOp a op b pos) (tOp r ta tb):=by intro pins s σ H Q I h;exact wpAny_BinOp (Ac ha hb I h fun v u s2 x y H2 I2 rx ry q=>ho pins s2 σ H2 x y v u Q I2 rx ry q)
theorem B9 {op:UnaryOp}{r:V->Hp->VK->Prop}(ho:UnR X (unaryOp op) r)(ha:PE X a ta):PE X (.UnaryOp op a pos) (tUn r ta):=by intro pins s σ H Q I h;exact UnaryOp_ (thn (ha pins s σ H _ I h) fun v s1 ⟨x,H1,I1,r1,q1⟩=>ho pins s1 σ H1 x v Q I1 r1 q1)
theorem opI {f:Φ->Φ->Sem Φ}{C:Int->Int->Prop}{g:Int->Int->Int}
  (rule:∀(i j:Int) (t u:Tok) (s:Ω) (Q:Φ->Ω->Prop) (E:Φ->Ω->Prop),C i j->Q (.int (g i j) s.toks) {s with toks:=s.toks+1}->Ι (Κ X.prog X.w) X.A (f (.int i t) (.int j u)) Q E s) :
  OpR X f (rI C fun i j=>.int (g i j)):=by
 intro pins s σ H x y v u Q I rx ry h;obtain⟨i,j,rfl,rfl,hc,q⟩:=h;obtain⟨t,rfl⟩:=rx;obtain⟨t',rfl⟩:=ry;exact rule i j t t' s _ _ hc ⟨.int (g i j),H,I.tok _,⟨_,rfl⟩,q⟩
theorem Ca {f:Φ->Φ->Sem Φ}{g:Int->Int->Int}
  (rule:∀(i j:Int) (t u:Tok) (s:Ω) (Q:Φ->Ω->Prop) (E:Φ->Ω->Prop),Q (.int (g i j) s.toks) {s with toks:=s.toks+1}->Ι (Κ X.prog X.w) X.A (f (.int i t) (.int j u)) Q E s) :
  OpR X f (rI0 fun i j=>.int (g i j)):=by
 intro pins s σ H x y v u Q I rx ry h;obtain⟨i,j,rfl,rfl,q⟩:=h;obtain⟨t,rfl⟩:=rx;obtain⟨t',rfl⟩:=ry;exact rule i j t t' s _ _ ⟨.int (g i j),H,I.tok _,⟨_,rfl⟩,q⟩
def Ec (i j:Int):Prop:=0 < j/\j < 1073741824
def Ed (i j:Int):Prop:=0<=j/\j<=1000000/\i.natAbs < 2 ^ 64
def Ad (i j:Int):Prop:=(-(2 ^ 64) < i/\i < 2 ^ 64)∨(-(2 ^ 64) < j/\j < 2 ^ 64)
theorem Ad.ok {i j:Int}(h:Ad i j):IntMulOk i j:=by
 rcases h with⟨h1,h2⟩|⟨h1,h2⟩
 ·exact .of_left (intBits_le_64 h1 h2)
 ·exact .of_right (intBits_le_64 h1 h2)
theorem Ae:OpR X (binaryOp .Add) (rI0 fun i j=>.int (i+j)):=Ca fun _ _ _ _ _ _ _ q=>add_int q
theorem Af:OpR X (binaryOp .Sub) (rI0 fun i j=>.int (i - j)):=Ca fun _ _ _ _ _ _ _ q=>sub_int q
theorem Ag:OpR X (binaryOp .Mult) (rI Ad fun i j=>.int (i*j)):=opI fun _ _ _ _ _ _ _ hc q=>mul_int q hc.ok
theorem wy:OpR X (binaryOp .FloorDiv) (rI Ec fun i j=>.int (i / j)):=opI fun i j _ _ _ _ _ hc q=>by have h1:(0:Int) < j:=hc.1;have h2:j < 1073741824:=hc.2;exact floordiv_int (by omega) (by rw[Int.fdiv_eq_ediv_of_nonneg i (by omega)];exact q) (.inl (PyProof.noPylong_small (by omega)))
theorem Ah:OpR X (binaryOp .Mod) (rI (fun _ j=>0 < j) fun i j=>.int (i % j)):=opI fun i j _ _ _ _ _ hc q=>by have h1:(0:Int) < j:=hc;exact mod_int' (by omega) (by rw[Int.fmod_eq_emod_of_nonneg i (by omega)];exact q)
theorem Ai:OpR X (binaryOp .Pow) (rI Ed fun i j=>.int (i ^ j.toNat)):=opI fun _ _ _ _ _ _ _ hc q=>pow_int_small hc.1 hc.2.1 hc.2.2 q
theorem unI {f:Φ->Sem Φ}{g:Int->Int}
  (rule:∀(i:Int) (t:Tok) (s:Ω) (Q:Φ->Ω->Prop) (E:Φ->Ω->Prop),Q (.int (g i) s.toks) {s with toks:=s.toks+1}->Ι (Κ X.prog X.w) X.A (f (.int i t)) Q E s) :
  UnR X f (rU fun i=>.int (g i)):=by
 intro pins s σ H x v Q I rx h;obtain⟨i,rfl,q⟩:=h;obtain⟨t,rfl⟩:=rx;exact rule i t s _ _ ⟨.int (g i),H,I.tok _,⟨_,rfl⟩,q⟩
theorem Aj:UnR X (unaryOp .USub) (rU fun i=>.int (-i)):=unI fun _ _ _ _ _ q=>neg_int q
end
section
variable {X:Cx}{a b c:Expr}{ta tb tc:TE}{pos:Pos}
theorem wz {op:CmpOp}{r:R2}(ho:OpR X (compareOp op) r)(ha:PE X a ta)(hb:PE X b tb)(hm:behindInMarks op b=Θ):PE X (.Compare a [op] [b] pos) (tOp r ta tb):=by intro pins s σ H Q I h;exact wpAny_Compare1 (Ac ha hb I h fun v u s2 x y H2 I2 rx ry q=>ho pins s2 σ H2 x y v u Q I2 rx ry q) hm
def yD (t:TE):TT:=fun σ H Q=>t σ H fun x H'=>∃k,x=.bl k/\Q k H'
theorem wA {op:CmpOp}{r:R2}(ho:OpR X (compareOp op) r)(ha:PE X a ta)(hb:PE X b tb)(hm:behindInMarks op b=Θ):PT X (.Compare a [op] [b] pos) (yD (tOp r ta tb)):=by
 intro pins s σ H Q I h
 refine wpAny_isTrue_Compare1 (thn (ha pins s σ H _ I h) fun v s1 ⟨x,H1,I1,r1,q1⟩=>thn (hb pins s1 σ H1 _ I1 q1) fun u s2 ⟨y,H2,I2,r2,q2⟩=>
  thn (ho pins s2 σ H2 x y v u _ I2 r1 r2 q2) fun c s3 ⟨z,H3,I3,r3,k,e,q3⟩=>?_) hm
 subst e;cases r3;exact wpAny_truthy_bool ⟨H3,I3,q3⟩
def tF (r r':R2)(ta tb tc:TE):TE:=fun σ H Q=>ta σ H fun x H1=>tb σ H1 fun y H2=>r x y H2 fun z H3=>∃k,z=.bl k/\
 (if k=Δ then tc σ H3 fun w' H4=>r' y w' H4 Q else Q (.bl Θ) H3)
theorem tH {op op':CmpOp}{r r':R2}(ho:OpR X (compareOp op) r)(ho':OpR X (compareOp op') r')(ha:PE X a ta)(hb:PE X b tb)(hc:PE X c tc)
  (hm:lastMarks [op,op'] [b,c]=Θ:=by with_unfolding_all rfl):PE X (.Compare a [op,op'] [b,c] pos) (tF r r' ta tb tc):=by
 intro pins s σ H Q I h
 refine Compare_chain (thn (ha pins s σ H _ I h) fun v s1 ⟨x,H1,I1,r1,q1⟩=>chain_link (thn (hb pins s1 σ H1 _ I1 q1) fun u s2 ⟨y,H2,I2,r2,q2⟩=>
  thn (ho pins s2 σ H2 x y v u _ I2 r1 r2 q2) fun d s3 ⟨z,H3,I3,r3,k,e,q3⟩=>?_)) hm
 subst e;cases r3;refine wpAny_truthy_bool ?_;cases k with
 |false=>exact ite_ff ⟨.bl Θ,H3,I3,rfl,q3⟩
 |true=>exact ite_tt (chain_last (thn (hc pins s3 σ H3 _ I3 q3) fun w' s4 ⟨z',H4,I4,r4,q4⟩=>ho' pins s4 σ H4 y z' u w' Q I4 r2 r4 q4))
theorem tJ {op op':CmpOp}{r r':R2}(ho:OpR X (compareOp op) r)(ho':OpR X (compareOp op') r')(ha:PE X a ta)(hb:PE X b tb)(hc:PE X c tc)
  (hm:lastMarks [op,op'] [b,c]=Θ:=by with_unfolding_all rfl):PT X (.Compare a [op,op'] [b,c] pos) (yD (tF r r' ta tb tc)):=by
 intro pins s σ H Q I h
 refine isTrue_chain (thn (ha pins s σ H _ I h) fun v s1 ⟨x,H1,I1,r1,q1⟩=>test_link (thn (hb pins s1 σ H1 _ I1 q1) fun u s2 ⟨y,H2,I2,r2,q2⟩=>
  thn (ho pins s2 σ H2 x y v u _ I2 r1 r2 q2) fun d s3 ⟨z,H3,I3,r3,k,e,q3⟩=>?_)) hm
 subst e;cases r3;refine wpAny_truthy_bool ?_;cases k with
 |false=>obtain⟨k',e',q'⟩:=q3;cases e';exact ite_ff ⟨H3,I3,q'⟩
 |true=>refine ite_tt (test_last (thn (hc pins s3 σ H3 _ I3 q3) fun w' s4 ⟨z',H4,I4,r4,q4⟩=>thn (ho' pins s4 σ H4 y z' u w' _ I4 r2 r4 q4) fun d' s5 ⟨z2,H5,I5,r5,k2,e2,q5⟩=>?_));subst e2;cases r5;exact wpAny_truthy_bool ⟨H5,I5,q5⟩
def Ee (K:Frag)(x:V)(H:Hp)(k:Bool):Prop:=
 match x with
 |.non=>k=Θ
 |.bl b=>k=b
 |.int i=>k=(i != 0)
 |.str y=>y.length<=Ε/\k=((y.length:Int) != 0)
 |.byt y=>y.size<=Ε/\k=((y.size:Int) != 0)
 |.ref p=>(∃xs,SqL K H p xs/\k = !xs.isEmpty)∨(∃xs,SqT K H p xs/\k = !xs.isEmpty)∨∃kvs,H p=Γ (.dK kvs)/\k = !kvs.isEmpty
 |_=>False
theorem pL {κ:Type}{kvs:List (κ×V)}{vs:List (κ×Φ)}(r:KV kvs vs):(!vs.isEmpty) = !kvs.isEmpty:=by cases r<;>rfl
theorem ky {xs:List V}{its:List Φ}(r:Vals xs its):(!its.toArray.isEmpty) = !xs.isEmpty:=by cases r<;>simp
theorem jQ:(Ε:Nat) < 2 ^ 63:=by rw[sizeLine_eq];decide
theorem Ak:Eb X (fun x H Q=>∃k,Ee X.K x H k/\Q k H):=by
 intro pins s σ H x v Q I rx h;obtain⟨k,e,q⟩:=h;have hl:=jQ;have hs:Ε=16777216:=sizeLine_eq;cases x with
 |non=>cases rx;have e':k=Θ:=e;subst e';exact truthy_none ⟨H,I,q⟩
 |bl b=>cases rx;have e':k=b:=e;subst e';exact wpAny_truthy_bool ⟨H,I,q⟩
 |int i=>obtain⟨t,rfl⟩:=rx;have e':k=(i != 0):=e;subst e';exact PySem.P.truthy_int ⟨H,I,q⟩
 |str y=>obtain⟨t,rfl⟩:=rx;obtain⟨hy,e'⟩:y.length<=Ε/\k=((y.length:Int) != 0):=e;subst e';exact PySem.P.truthy_str (by omega) ⟨H,I.tok _,q⟩
 |byt y=>obtain⟨t,rfl⟩:=rx;obtain⟨hy,e'⟩:y.size<=Ε/\k=((y.size:Int) != 0):=e;subst e';exact PySem.W.truthy_bytes (by omega) ⟨H,I.tok _,q⟩
 |ref p=>
  cases rx;have e':(∃xs,SqL X.K H p xs/\k = !xs.isEmpty)∨(∃xs,SqT X.K H p xs/\k = !xs.isEmpty)∨∃kvs,H p=Γ (.dK kvs)/\k = !kvs.isEmpty:=e;rcases e' with⟨xs,hx,e'⟩|⟨xs,hx,e'⟩|⟨kvs,hx,e'⟩
  ·subst e';obtain⟨its,r,pl,hz⟩:=I.list hx;have hlen:=r.length;exact wpAny_truthy_list pl.isList (by simp only[z_];omega) ⟨H,I.tok _,by rw[ky r];exact q⟩
  ·subst e';obtain⟨its,r,pl,hz⟩:=I.tuple hx;have hlen:=r.length;exact truthy_tuple pl (by simp only[z_];omega) ⟨H,I.tok _,by rw[ky r];exact q⟩
  ·subst e';obtain⟨hz,hS,vs,r,m⟩:kvs.length<=Ε/\(p == sysModules)=Θ/\∃vs,KV kvs vs/\s.heap.DictOf (fA X.prog X.w) p vs:=I.hok p _ hx;have hlen:kvs.length=vs.length:=Paired.length r;exact wpAny_truthy_dict hS m (by omega) ⟨H,I.tok _,by rw[pL r];exact q⟩
 |_=>exact(show False from e).elim
theorem pM:OpR X (binaryOp .Add) (fun x y H Q=>∃i j,x=.str i/\y=.str j/\i.length+j.length<=Ε/\Q (.str (i++j)) H):=by intro pins s σ H x y v u Q I rx ry h;obtain⟨i,j,rfl,rfl,hz,q⟩:=h;obtain⟨t,rfl⟩:=rx;obtain⟨t',rfl⟩:=ry;exact add_str (fun t' tk=>⟨.str (i++j),H,I.tok _,⟨_,rfl⟩,q⟩) hz
theorem vals1 {x:V}{us:List Φ}(r:Vals [x] us):∃u,us=[u]/\RelV x u:=by
 cases r with
 |cons r1 r2=>cases r2;exact⟨_,rfl,r1⟩
theorem vals2 {x y:V}{us:List Φ}(r:Vals [x,y] us):∃u w',us=[u,w']/\RelV x u/\RelV y w':=by
 cases r with
 |cons r1 r2=>
  cases r2 with
  |cons r3 r4=>cases r4;exact⟨_,_,rfl,r1,r3⟩
theorem tK:gK X (.builtin "abs") (fun xs H Q=>∃i,xs=[.int i]/\Q (.int (if i < 0 then -i else i)) H):=by intro pins s σ H xs us Q I r h;obtain⟨i,rfl,q⟩:=h;obtain⟨u,rfl,t,rfl⟩:=vals1 r;exact call_abs_int fun u tk=>⟨.int (if i < 0 then -i else i),H,I.tok _,⟨_,rfl⟩,q⟩
theorem sr (hc:X.calm=Δ):gK X (.builtin "max") (fun xs H Q=>∃i j,xs=[.int i,.int j]/\Q (.int (if j > i then j else i)) H):=by
 intro pins s σ H xs us Q I r h;obtain⟨i,j,rfl,q⟩:=h;obtain⟨u,w',rfl,⟨t,rfl⟩,⟨t',rfl⟩⟩:=vals2 r;refine max_two_ints (I.ok.hd hc) fun h' tk k=>⟨_,H,I.kept k,?_,q⟩
 by_cases hj:j > i
 ·rw[c_ hj,c_ hj];exact⟨_,rfl⟩
 ·rw[b_ hj,b_ hj];exact⟨_,rfl⟩
theorem sv (hc:X.calm=Δ):gK X (.builtin "min") (fun xs H Q=>∃i j,xs=[.int i,.int j]/\Q (.int (if j < i then j else i)) H):=by
 intro pins s σ H xs us Q I r h;obtain⟨i,j,rfl,q⟩:=h;obtain⟨u,w',rfl,⟨t,rfl⟩,⟨t',rfl⟩⟩:=vals2 r;refine min_two_ints (I.ok.hd hc) fun h' tk k=>⟨_,H,I.kept k,?_,q⟩
 by_cases hj:j < i
 ·rw[c_ hj,c_ hj];exact⟨_,rfl⟩
 ·rw[b_ hj,b_ hj];exact⟨_,rfl⟩
theorem lO:gK X (.type "int") (fun xs H Q=>(∃i,xs=[.int i]/\Q (.int i) H)∨∃k,xs=[.bl k]/\Q (.int (if k then 1 else 0)) H):=by
 intro pins s σ H xs us Q I r h;rcases h with⟨i,rfl,q⟩|⟨k,rfl,q⟩
 ·obtain⟨u,rfl,t,rfl⟩:=vals1 r;exact call_int_int ⟨.int i,H,I,⟨_,rfl⟩,q⟩
 ·obtain⟨u,rfl,r1⟩:=vals1 r;cases r1;exact call_int_bool ⟨.int (if k then 1 else 0),H,I.tok _,⟨_,rfl⟩,q⟩
def Ef (K:Frag)(x:V)(H:Hp)(n:Nat):Prop:=
 match x with
 |.str y=>y.length<=Ε/\n=y.length
 |.byt y=>y.size<=Ε/\n=y.size
 |.ref p=>(∃xs,SqL K H p xs/\n=xs.length)∨∃xs,SqT K H p xs/\n=xs.length
 |_=>False
theorem call_len:gK X (.builtin "len") (fun xs H Q=>∃x n,xs=[x]/\Ef X.K x H n/\Q (.int n) H):=by
 intro pins s σ H xs us Q I r h;obtain⟨x,n,rfl,e,q⟩:=h;obtain⟨u,rfl,rx⟩:=vals1 r;have hl:=jQ;have hs:Ε=16777216:=sizeLine_eq;cases x with
 |str y=>obtain⟨t,rfl⟩:=rx;obtain⟨hy,e'⟩:y.length<=Ε/\n=y.length:=e;subst e';exact len_str (by omega) ⟨.int _,H,I.tok _,⟨_,rfl⟩,q⟩
 |byt y=>obtain⟨t,rfl⟩:=rx;obtain⟨hy,e'⟩:y.size<=Ε/\n=y.size:=e;subst e';exact PySem.W.len_bytes (by omega) ⟨.int _,H,I.tok _,⟨_,rfl⟩,q⟩
 |ref p=>
  cases rx;have e':(∃xs,SqL X.K H p xs/\n=xs.length)∨∃xs,SqT X.K H p xs/\n=xs.length:=e;rcases e' with⟨xs,hx,e'⟩|⟨xs,hx,e'⟩
  ·subst e';obtain⟨its,r',pl,hz⟩:=I.list hx;have hlen:=r'.length;exact Calls.call_len_list pl.isList (by simp only[z_];omega) ⟨.int xs.length,H,I.tok _,⟨_,by simp only[z_];rw[hlen]⟩,q⟩
  ·subst e';obtain⟨its,r',pl,hz⟩:=I.tuple hx;have hlen:=r'.length;exact len_tuple pl (by simp only[z_];omega) ⟨.int xs.length,H,I.tok _,⟨_,by simp only[z_];rw[hlen]⟩,q⟩
 |_=>exact(show False from e).elim
end
theorem lF.some_of {v:V}{o:Option Φ}(r:lF (Γ v) o):∃u,o=Γ u/\RelV v u:=by
 cases o with
 |none=>exact(show False from r).elim
 |some u=>exact⟨u,rfl,r⟩
structure Room (k:Nat)(A:Η):Prop where
 hd:k < 1000->A.handled=Ξ
 dp:A.depth+3*(k % 1000)+5 < recursionLimit
 un:A.units+16*(k % 1000)+200 < cLine
theorem Room.deeper {k:Nat}{A:Η}(r:Room (k+1) A)(env:Env)(hk:k % 1000≠999):Room k (A.deeper env):=
 ⟨fun z=>r.hd (by omega),by have:=r.dp;show A.depth+1+3*(k % 1000)+5 < _;omega,by have:=r.un;show A.units+3+16*(k % 1000)+200 < _;omega⟩
theorem Room.depth {k:Nat}{A:Η}(r:Room k A):A.depth < recursionLimit:=by have:=r.dp;omega
def Am:TA:=fun _ H Q=>Q [] H
def lP (ta:TE)(tr:TA):TA:=fun σ H Q=>ta σ H fun x H1=>tr σ H1 fun xs H2=>Q (x::xs) H2
section
variable {X:Cx}{e:Expr}{es:List Expr}{te:TE}{t:TA}{pos:Pos}
theorem gW:PA X [] Am:=fun _ _ _ _ H Q I h=>Calls.spliced_nil ⟨[],H,I,.nil,h⟩
theorem fX (ha:PE X e te)(hr:PA X es t)(hs:Μ (e::es) X.env=(Θ,eval e X.env)::Μ es X.env:=by rfl):PA X (e::es) (lP te t):=by intro pos pins s σ H Q I h;rw[hs];show Ι _ _ (spliced ((Θ,eval e X.env)::backTo pos (Μ es X.env))) _ _ s;refine Calls.spliced_cons (thn (ha pins s σ H _ I h) fun u s1 ⟨x,H1,I1,r1,q1⟩=>?_);exact thn (hr pos pins s1 σ H1 _ I1 q1) fun us s2 ⟨xs,H2,I2,r2,q2⟩=>⟨x::xs,H2,I2,.cons r1 r2,q2⟩
def Eg (t:TA):TE:=fun σ H Q=>t σ H fun xs H1=>xs.length<=Ε/\∀p,H1 p=Ξ->Q (.ref p) (upd H1 p (.tup xs))
def Eh (t:TA):TE:=fun σ H Q=>t σ H fun xs H1=>xs.length<=Ε/\∀p,H1 p=Ξ->Q (.ref p) (upd H1 p (.lst xs))
theorem mR {x1}(h:PA X es t):PE X (.Tuple es x1 pos) (Eg t):=by intro pins s σ H Q I hq;refine wpAny_Tuple_spliced (thn (h pos pins s σ H _ I hq) fun us s1 ⟨xs,H1,I1,r,z,q⟩=>⟨by rw[<- r.length];exact z,?_⟩);have hf:H1 s1.heap.objs.size=Ξ:=I1.hok.fresh (n_ _);refine⟨.ref s1.heap.objs.size,upd H1 s1.heap.objs.size (.tup xs),I1.laid (t':=s1.toks) (fun b u e=>w_ _ e) (n_ _) ?_,rfl,q _ hf⟩;exact⟨z,us,r,⟨_,EG _ rfl,rfl,_,rfl⟩⟩
theorem mS (h:PA X es t):PE X (.List es pos) (Eh t):=by intro pins s σ H Q I hq;refine wpAny_List_spliced (thn (h pos pins s σ H _ I hq) fun us s1 ⟨xs,H1,I1,r,z,q⟩=>⟨by rw[<- r.length];exact z,?_⟩);have hf:H1 s1.heap.objs.size=Ξ:=I1.hok.fresh (n_ _);refine⟨.ref s1.heap.objs.size,upd H1 s1.heap.objs.size (.lst xs),I1.laid (t':=s1.toks) (fun b u e=>w_ _ e) (n_ _) ?_,rfl,q _ hf⟩;exact⟨z,us,0,r,EG _ rfl⟩
end
abbrev Sp:=List V->Hp->VK->XK->Prop
abbrev CXT:=List Env->Hp->Ω->XK->Φ->Ω->Prop
structure Env0 (P:Β)(w:Α)(K:Frag)(mg:Str->Option Φ)(base:Heap)(A:Η)(outer:List Env)(s:Ω)(H:Hp):Prop where
 frames:A.frames=Γ outer
 mod:Mod K mg base
 bs:∀b o,base.get? b=Γ o->s.heap.get? b=Γ o/\H b=Ξ
 bsz:base.objs.size<=s.heap.objs.size
 funs:s.heap.FunFrames base outer
 frf:∀b∈frs outer,H b=Ξ
 hok:HOk P w H s.heap
 bare:AllBare s.gens
def CE (outer:List Env)(P:Β)(w:Α)(H:Hp)(s:Ω)(Q:VK)(u:Φ)(s':Ω):Prop:=
 ∃v H',s'.os=s.os/\AllBare s'.gens/\Un (frs outer) [] H H' s.heap s'.heap/\HOk P w H' s'.heap/\RelV v u/\Q v H'
def CR (CX:CXT)(outer:List Env)(P:Β)(w:Α)(H:Hp)(s:Ω)(Q:VK)(E:XK)(r:Result)(s':Ω):Prop:=
 match r with
 |.ok (.ret u)=>CE outer P w H s Q u s'
 |.ok _=>False
 |.error e=>CX outer H s E e s'
structure FnOk (P:Β)(w:Α)(K:Frag)(mg:Str->Option Φ)(base:Heap)(CX:CXT)(k:Nat)(f:Ψ)(fd:Ν)(ps:List Str)(sp:Sp):Prop where
 len:∀vs H Q E,sp vs H Q E->vs.length=ps.length
 run:∀(A:Η) (outer:List Env) (s:Ω) (H:Hp) (args:Args) (us:List Φ) (vs:List V) (Q:VK) (E:XK),Room k A->Env0 P w K mg base A outer s H->BindsTo s fd args (ps.zip us)->Vals vs us->sp vs H Q E->
  codeAny (Κ P w) A (.call (.ref f) args) (CR CX outer P w H s Q E) s
section
variable {X:Cx}{pins:List (Ψ×Obj)}{σ:St}{H:Hp}{s s':Ω}
theorem Inv.env0 (I:Inv X pins σ H s):Env0 X.prog X.w X.K X.mg X.base X.A X.stack s H:=
 ⟨I.ok.frames,I.ok.mod,I.bs,EN I.ok.bsz I.sz,I.stack,I.stkFree,I.hok,I.bare⟩
theorem Inv.after {Q:VK}{u:Φ}(I:Inv X pins σ H s)(h:CE X.stack X.prog X.w H s Q u s'):EP X pins σ Q u s':=by obtain⟨v,H',os,bare,un,hok,r,q⟩:=h;obtain⟨hh,g,d,t,os'⟩:=s';obtain rfl:os'=s.os:=os;exact⟨v,H',I.call (h':=hh) (g':=g) (d':=d) (t':=t) (ch:=[]) un hok bare (fun b z=>absurd z (by simp)),r,q⟩
end
def Binds (K:Frag)(fd:Ν)(ps:List Str)(ds:List Φ):Prop:=
 ∀(s:Ω) (us:List Φ),K.In s.heap->(us++ds).length=ps.length->BindsTo s fd ⟨us,[]⟩ (ps.zip (us++ds))
theorem Binds.all {K:Frag}{fd:Ν}{ps:List Str}(h:∀us:List Φ,us.length=ps.length->bindArgs fd ⟨us,[]⟩=pure (ps.zip us)):Binds K fd ps []:=fun s us _ hl=>by rw[D_]at hl ⊢;exact .of_eq (h us hl)
def Passes (CX:CXT)(X:Cx)(E:XK):Prop:=∀(pins:List (Ψ×Obj)) (σ:St) (H:Hp) (s:Ω) (e:Φ) (s':Ω),Inv X pins σ H s->CX X.stack H s E e s'->X.xe e s'
structure FnScope (N P:List Str)(sc:Scope):Prop where
 kind:sc.kind=.function
 co:sc.isCoroutine=Θ
 gen:sc.isGenerator=Θ
 nd:N.Nodup
 pre:N.take P.length=P
 par:∀x∈P,sc.names.lookup x=Γ .local∨sc.names.lookup x=Γ .cell
 nofree:∀y∈sc.names,y.2≠.free
theorem lQ {kindOf:Str->Option NameKind}{x:Str}:∀ {binds:List (Str×Φ)}{m:Str->Option Φ},(∀v,(x,v)∉binds)->bindL kindOf binds m x=m x
 |[],_,_=>rfl
 | (n,v)::r,m,h=>by
  unfold bindL;rw[lQ fun w hw=>h w (q_ _ hw)];split
  ·have:x≠n:=by rintro rfl;exact h v EY
   simp[this]
  ·rfl
theorem lT {kindOf:Str->Option NameKind}{x:Str}:∀ {binds:List (Str×Φ)}{m:Str->Option Φ},(∀v,(x,v)∉binds)->bindC kindOf binds m x=m x
 |[],_,_=>rfl
 | (n,v)::r,m,h=>by
  unfold bindC;rw[lT fun w hw=>h w (q_ _ hw)];split
  ·rfl
  ·have:x≠n:=by rintro rfl;exact h v EY
   simp[this]
theorem lU {kindOf:Str->Option NameKind}{x:Str}{v:Φ}:∀ {P:List Str}{vs:List Φ}{i:Nat}{m:Str->Option Φ},P.Nodup->P[i]? = Γ x->vs[i]? = Γ v->kindOf x=Γ .local->
  bindL kindOf (P.zip vs) m x=Γ v
 |[],_,_,_,_,h,_,_=>by simp at h
 |_::_,[],_,_,_,_,h,_=>by simp at h
 |p::P,w::vs,0,m,nd,h1,h2,hk=>by simp at h1 h2;subst h1;subst h2;show bindL kindOf ((p,w)::P.zip vs) m p=_;unfold bindL;rw[lQ fun v hv=>(y_.mp nd).1 (List.of_mem_zip hv).1,c_ hk];simp
 |p::P,w::vs,i+1,m,nd,h1,h2,hk=>by show bindL kindOf ((p,w)::P.zip vs) m x=_;unfold bindL;exact lU (i:=i) (y_.mp nd).2 (by simpa using h1) (by simpa using h2) hk
theorem lV {kindOf:Str->Option NameKind}{x:Str}{v:Φ}:∀ {P:List Str}{vs:List Φ}{i:Nat}{m:Str->Option Φ},P.Nodup->P[i]? = Γ x->vs[i]? = Γ v->kindOf x≠Γ .local->
  bindC kindOf (P.zip vs) m x=Γ v
 |[],_,_,_,_,h,_,_=>by simp at h
 |_::_,[],_,_,_,_,h,_=>by simp at h
 |p::P,w::vs,0,m,nd,h1,h2,hk=>by simp at h1 h2;subst h1;subst h2;show bindC kindOf ((p,w)::P.zip vs) m p=_;unfold bindC;rw[lT fun v hv=>(y_.mp nd).1 (List.of_mem_zip hv).1,b_ hk];simp
 |p::P,w::vs,i+1,m,nd,h1,h2,hk=>by show bindC kindOf ((p,w)::P.zip vs) m x=_;unfold bindC;exact lV (i:=i) (y_.mp nd).2 (by simpa using h1) (by simpa using h2) hk
noncomputable def start (N:List Str)(vs:List V):St:=vs.map Γ++Ρ (N.length - vs.length) Ξ
noncomputable def iE (CX:CXT)(P:Β)(w:Α)(K:Frag)(mg:Str->Option Φ)(base:Heap)(N:List Str)(qual:Str)(scope:Scope)(f:Ψ)(cd:Φ)(A:Η)(outer:List Env)(s:Ω)(H:Hp)(E:XK):Cx where
 prog:=P
 w:=w
 K:=K
 mg:=mg
 base:=base
 A:=A.deeper (envOfC qual scope s.heap.objs.size f cd)
 N:=N
 s₀:=s
 H₀:=H
 env:=envOfC qual scope s.heap.objs.size f cd
 outer:=outer
 stack:=envOfC qual scope s.heap.objs.size f cd::outer
 ex:=[]
 calm:=A.handled.isNone
 fn:=fun _=>Δ
 pn:=[]
 xe:=fun e s'=>Ι (Κ P w) (A.deeper (envOfC qual scope s.heap.objs.size f cd)) (leaving (envOfC qual scope s.heap.objs.size f cd) e) (fun _ s''=>CX outer H s E e s'') (fun e' s''=>CX outer H s E e' s'') s'
theorem oA {sc:Scope}{n:Nat}{x:Str}(h:sc.names.lookup x=Γ .cell):∃c,(cellsFrom n sc.names []).lookup x=Γ c:=by have q:=PySem.W.cellsFrom_some sc.names n [] (.inl h);exact Option.isSome_iff_exists.mp q
theorem sy {CX:CXT}{P:Β}{w:Α}{K:Frag}{mg:Str->Option Φ}{base:Heap}{N ps:List Str}{qual:Str}{scope:Scope}{f:Ψ}{cd:Φ}{A:Η}{outer:List Env}{s s1:Ω}{H:Hp}{E:XK}{us:List Φ}{vs:List V}
  (S:FnScope N ps scope) (e0:Env0 P w K mg base A outer s H) (hl:vs.length=ps.length) (r:Vals vs us)
  (x:InCallC s s.heap.objs.size (bindL (envOfC qual scope s.heap.objs.size f cd).kindOf (ps.zip us) fun _=>Ξ) (cellsFrom (s.heap.objs.size+1) scope.names []) (bindC (envOfC qual scope s.heap.objs.size f cd).kindOf (ps.zip us) fun _=>Ξ) s1) :
  Inv (iE CX P w K mg base N qual scope f cd A outer s H E) [] (start N vs) H s1:=by
 have hpl:ps.length<=N.length:=by have:=congrArg List.length S.pre;rw[EV]at this;omega
 obtain⟨h1,tk,rfl,hk⟩:=x.done;have noA:∀b:Ψ,b∉(iE CX P w K mg base N qual scope f cd A outer s H E).ex:=fun b z=>absurd (show b∈([]:List Ψ) from z) (by simp)
 refine⟨⟨e0.mod,S.kind,rfl,rfl,n_ _,fun y z c h1 h2=>?_,fun y hy=>?_,fun y c _ h=>?_,fun h=>Option.isNone_iff_eq_none.mp h,Around.frames_deeper e0.frames,.inr ⟨rfl,rfl⟩,fun b z=>absurd z (noA b),e0.bs,e0.bsz,fun b _ _=>noA b,fun b z=>absurd z (noA b),e0.funs,e0.frf⟩,
  rfl,e0.bare,Un.kept hk,⟨_,x.toInCall.ns,fun i y v h1 h2 h3=>?_⟩,fun y c h=>⟨_,x.cell y c h⟩,e0.hok.fresh (n_ _),fun y c h=>?_,fun p hp=>absurd (show p∈([]:List (Ψ×Obj)) from hp) (by simp),e0.hok.kept hk,?_⟩
 ·exact name_of_addr x.apart (PySem.mem_of_lookup h1) (PySem.mem_of_lookup h2)
 ·have hy:scope.names.lookup y=Γ .cell∨scope.names.lookup y=Γ .free:=hy;rcases hy with hy|hy
  ·exact oA hy
  ·exact absurd rfl (S.nofree _ (PySem.mem_of_lookup hy))
 ·exact Nat.le_of_lt (x.above y c (PySem.mem_of_lookup h))
 ·have hi:i < vs.length:=by
   unfold start at h2;by_cases hi:i < vs.length
   ·exact hi
   ·rw[List.getElem?_append_right (by simpa using hi)]at h2;rw[List.getElem?_replicate]at h2;split at h2<;>cases h2
  have ha:vs[i]? = Γ v:=by
   unfold start at h2;rw[E3 (by simpa using hi),EL]at h2;cases e:vs[i]? with
   |none=>rw[e]at h2;cases h2
   |some a=>rw[e]at h2;cases h2;rfl
  obtain⟨u,hu,rv⟩:=r.get ha;have hp:ps[i]? = Γ y:=by rw[<- S.pre,List.getElem?_take_of_lt (by omega)];exact h1
  have ndP:ps.Nodup:=by rw[<- S.pre];exact S.nd.sublist (List.take_sublist _ _)
  refine⟨u,rv,?_⟩;rcases S.par y (EM hp) with k|k
  ·exact .inl ⟨k,lU ndP hp hu k⟩
  ·obtain⟨c,e⟩:=oA (n:=s.heap.objs.size+1) k;refine .inr ⟨.inl k,c,e,?_⟩;have q:=x.cell y c e;rw[lV ndP hp hu (by show scope.names.lookup y≠_;rw[k];decide)]at q;exact q
 ·exact e0.hok.fresh (Nat.le_of_lt (x.above y c (PySem.mem_of_lookup h)))
 ·unfold start;show _=N.length;rw[t_,f_,List.length_replicate];omega
theorem yE {CX:CXT}{P:Β}{w:Α}{K:Frag}{mg:Str->Option Φ}{base:Heap}{k:Nat}{f:Ψ}{name qual:Str}{params:Arguments}{body:List Stmt}{scope:Scope}{dV kV doc pm cdv ct oc:Φ}{an od:Option Ψ}
  {osl:Array (Option Φ)}{N ps:List Str}{sp:Sp} (lk:K.lookup f=Γ ⟨oc,od,.func (PySem.W.fnOf name qual params body scope dV kV doc pm an cdv ct),osl⟩) (hcd:PySem.W.codeIn K cdv qual=Δ) (S:FnScope N ps scope)
  (hk9:k % 1000≠999) (len:∀vs H Q E,sp vs H Q E->vs.length=ps.length)
  (hbody:∀(A:Η) (outer:List Env) (s:Ω) (H:Hp) (vs:List V) (Q:VK) (E:XK),Room k (A.deeper (envOfC qual scope s.heap.objs.size f cdv))->sp vs H Q E->
   ∃t,PSs (iE CX P w K mg base N qual scope f cdv A outer s H E) body t/\t {nx:=fun _ H'=>Q .non H',rt:=Q} (start N vs) H) :
  FnOk P w K mg base CX (k+1) f (PySem.W.fnOf name qual params body scope dV kV doc pm an cdv ct) ps sp:=by
 refine⟨len,fun A outer s H args us vs Q E hr e0 hb r hsp=>?_⟩;have hl:=len _ _ _ _ hsp;have KX:K.In s.heap:=e0.mod.kin.keeps fun b o e=>(e0.bs b o e).1;have lim:s.heap.NoLimit:=e0.mod.nolimit.keeps fun b o e=>(e0.bs b o e).1;have hkind:∀y∈ps.zip us,scope.names.lookup y.1=Γ .local∨(scope.names.lookup y.1=Γ .cell/\((cellsFrom (s.heap.objs.size+1) scope.names []).lookup y.1).isSome=Δ):=fun⟨n,v⟩ hy=>by
  rcases S.par n (List.of_mem_zip hy).1 with q|q
  ·exact .inl q
  ·exact .inr ⟨q,PySem.W.cellsFrom_some _ _ _ (.inl q)⟩
 refine codeAny_call_function hr.depth (KX _ _ lk) rfl S.co S.gen rfl (PySem.W.codeRec_of KX hcd) (hb _ _ _ _ ?_);refine wpAny_newFunctionEnv_cells S.kind hkind fun env he s1 x=>?_;subst he;refine⟨lim.keeps x.toInCall.keep,codeAny_func ?_⟩;obtain⟨t,ht,hq⟩:=hbody A outer s H vs Q E (hr.deeper _ hk9) hsp;have I:Inv (iE CX P w K mg base N qual scope f cdv A outer s H E) [] (start N vs) H s1:=sy S e0 hl r x;refine wpAny_mono (ht [] s1 (start N vs) H _ I hq) (fun fl s' hs=>?_) fun e s' hs=>hs;have fin:∀ {σ':St}{H':Hp}{v:V}{u:Φ},Inv (iE CX P w K mg base N qual scope f cdv A outer s H E) [] σ' H' s'->RelV v u->Q v H'->CE outer P w H s Q u s':=
  fun {σ' H' v u} J rv q=>⟨v,H',J.os,J.bare,J.base,J.hok,rv,q⟩
 cases fl with
 |ret u=>obtain⟨v,σ',H',J,rv,q⟩:=hs;exact fin J rv q
 |next=>obtain⟨σ',H',J,q⟩:=hs;exact fin (v:=V.non) (u:=Value.none) J rfl q
 |brk=>obtain⟨_,_,_,q⟩:=hs;exact False.elim q
 |cont=>obtain⟨_,_,_,q⟩:=hs;exact False.elim q
section
variable {X:Cx}{x:Str}{p pos:Pos}{e:Expr}{es:List Expr}{t:TA}{id T:String}{r:List V->Hp->VK->Prop}
def tCB (r:List V->Hp->VK->Prop)(t:TA):TE:=fun σ H Q=>t σ H fun vs H1=>r vs H1 Q
theorem oB (hc:gK X (.builtin id) r)(hg:Gl X x)(hm:X.mg x=Ξ)(hv:bootBuiltins x=Γ (.builtin id))(ha:PA X (e::es) t)(hn:x≠"__name__":=by decide) (hdb:(x == ("__debug__" : Str))=Θ:=by decide)
  (he:Μ (e::es) X.env=(Θ,eval e X.env)::Μ es X.env:=by rfl) (hpl:(backTo pos (Μ es X.env)).any (·.1)=Θ:=by rfl):PE X (.Call (.Name x p) (e::es) [] pos) (tCB r t):=by
 intro pins s σ H Q I h;refine E1 (ji I hg hm hv ?_ hn hdb);exact PyProof.Rows.callWith_builtin1 (thn (ha pos pins s σ H _ I h) fun us s1 ⟨vs,H1,I1,r1,q1⟩=>hc pins s1 σ H1 vs us Q I1 r1 q1) he hpl
theorem jR (hc:gK X (.type T) r)(hg:Gl X x)(hm:X.mg x=Ξ)(hv:bootBuiltins x=Γ (.type T))(ha:PA X (e::es) t)(hn:x≠"__name__":=by decide) (hdb:(x == ("__debug__" : Str))=Θ:=by decide)
  (he:Μ (e::es) X.env=(Θ,eval e X.env)::Μ es X.env:=by rfl) (hpl:(backTo pos (Μ es X.env)).any (·.1)=Θ:=by rfl):PE X (.Call (.Name x p) (e::es) [] pos) (tCB r t):=by
 intro pins s σ H Q I h;refine E1 (ji I hg hm hv ?_ hn hdb);exact PyProof.Rows.callWith_type1 (thn (ha pos pins s σ H _ I h) fun us s1 ⟨vs,H1,I1,r1,q1⟩=>hc pins s1 σ H1 vs us Q I1 r1 q1) he hpl
end
end L2
namespace HT
open PySem PyProof.Rows
section
variable {prog:Β}{w:Α}{A:Η}{E:Φ->Ω->Prop}{s:Ω}
noncomputable def sIx (n d:Nat):Option Int->Nat
 |none=>d
 |some v=>if v < 0 then(v+(n:Int)).toNat else min v.toNat n
theorem sIx_nat (n d k:Nat):sIx n d (Γ (k:Int))=min k n:=by show(if(k:Int) < 0 then((k:Int)+(n:Int)).toNat else min (k:Int).toNat n)=min k n;rw[b_ (by omega),Int.toNat_natCast]
end
end HT
namespace L2
open PySem PySem.Spec PyProof.Rows
abbrev TO:=St->Hp->(Option Int->Hp->Prop)->Prop
def PO (X:Cx)(e:Option Expr)(t:TO):Prop:=
 ∀(pins:List (Ψ×Obj)) (s:Ω) (σ:St) (H:Hp) (Q:Option Int->Hp->Prop),Inv X pins σ H s->t σ H Q->
  Ι (Κ X.prog X.w) X.A (evalPart e X.env) (fun u s'=>∃o H',Inv X pins σ H' s'/\IsPart u o/\Q o H') X.xe s
def wB:TO:=fun _ H Q=>Q Ξ H
def Cb (t:TE):TO:=fun σ H Q=>t σ H fun x H1=>∃i,x=.int i/\Q (Γ i) H1
theorem intsAre_of {ns:List Int}:∀ {us:List Φ},Vals (ns.map V.int) us->IntsAre us ns:=by
 induction ns with
 |nil=>intro us r;rw[List.map_nil]at r;cases r;exact .nil
 |cons n ns ih=>
  intro us r;rw[a_]at r;cases r with
  |cons r1 r2=>obtain⟨t,e⟩:=r1;subst e;exact .cons n t (ih r2)
section
variable {X:Cx}{e:Expr}{te:TE}{lo hi:Option Expr}{tl th:TO}{pos p2:Pos}
theorem wC:PO X Ξ wB:=by intro pins s σ H Q I h;rw[evalPart_none];exact v_ ⟨Ξ,H,I,.none,h⟩
theorem wD (h:PE X e te):PO X (Γ e) (Cb te):=by intro pins s σ H Q I hw;rw[evalPart_some];refine thn (h pins s σ H _ I hw) fun u s1 ⟨x,H1,I1,r1,q1⟩=>?_;obtain⟨i,rfl,q⟩:=q1;obtain⟨t,rfl⟩:=r1;exact⟨Γ i,H1,I1,.int i t,q⟩
def SlR (X:Cx)(r:V->Option Int->Option Int->Hp->VK->Prop):Prop:=
 ∀(pins:List (Ψ×Obj)) (s:Ω) (σ:St) (H:Hp) (x:V) (v vl vu:Φ) (lo hi:Option Int) (sl:Ψ) (Q:VK),Inv X pins σ H s->RelV x v->s.heap.IsSliceOf sl vl vu .none->IsPart vl lo->IsPart vu hi->r x lo hi H Q->
  ∃T id,typeLookup (.type T) "__getitem__" = pure (Γ (.builtin id))/\s.TypeIs v T/\Ι (Κ X.prog X.w) X.A (getItem v (.ref sl)) (EP X pins σ Q) X.xe s
def tSl (r:V->Option Int->Option Int->Hp->VK->Prop)(te:TE)(tl th:TO):TE:=fun σ H Q=>te σ H fun x H1=>tl σ H1 fun l H2=>th σ H2 fun u H3=>r x l u H3 Q
theorem oC {r:V->Option Int->Option Int->Hp->VK->Prop}(hr:SlR X r)(he:PE X e te)(hl:PO X lo tl)(hu:PO X hi th):PE X (.Subscript e (.Slice lo hi Ξ p2) pos) (tSl r te tl th):=by intro pins s σ H Q I h;refine Subscript_ (thn (he pins s σ H _ I h) fun v s1 ⟨x,H1,I1,r1,q1⟩=>?_);refine wpAny_Slice (thn (hl pins s1 σ H1 _ I1 q1) fun vl s2 ⟨l,H2,I2,pl,q2⟩=>thn (hu pins s2 σ H2 _ I2 q2) fun vu s3 ⟨u,H3,I3,pu,q3⟩=>?_);rw[evalPart_none];refine v_ ?_;have I4:Inv X pins σ H3 {s3 with heap:=s3.heap.push {cls:=.type "slice",data:=.fields #[vl,vu,.none]}}:=I3.kept (t':=s3.toks) fun b ob q=>w_ _ q;obtain⟨T,id,hT,ht,hg⟩:=hr pins {s3 with heap:=s3.heap.push {cls:=.type "slice",data:=.fields #[vl,vu,.none]}} σ H3 x v vl vu l u s3.heap.objs.size Q I4 r1 (Heap.IsSliceOf.new ..) pl pu q3;show Ι (Κ X.prog X.w) X.A (subscriptTail e (.Slice lo hi Ξ p2) v (.ref s3.heap.objs.size)) (EP X pins σ Q) X.xe {s3 with heap:=s3.heap.push {cls:=.type "slice",data:=.fields #[vl,vu,.none]}};exact tail_any (ops:=[.ref s3.heap.objs.size,v]) ht hT hg (by with_unfolding_all rfl)
noncomputable def sC (xs:List V)(lo hi:Option Int):List V:=(xs.drop (HT.sIx xs.length 0 lo)).take (HT.sIx xs.length xs.length hi - HT.sIx xs.length 0 lo)
theorem oD (xs:List V)(lo hi:Option Int):(sC xs lo hi).length<=xs.length:=by unfold sC;rw[EV,List.length_drop];omega
end
noncomputable def ixN (n:Nat)(i:Int):Option Nat:=if 0<=i then(if i < n then Γ i.toNat else Ξ) else if -(n:Int)<=i then Γ (i+n).toNat else Ξ
noncomputable def atI {α:Type}(xs:List α)(i:Int):Option α:=(ixN xs.length i).bind fun j=>xs[j]?
theorem qA {n:Nat}{i:Int}{j:Nat}(h:ixN n i=Γ j):seqIndex? i n=Γ j/\j < n/\-(n:Int)<=i/\i < n:=by
 unfold ixN at h;by_cases h0:0<=i
 ·rw[c_ h0]at h;by_cases h1:i < n
  ·rw[c_ h1]at h;have e:i.toNat=j:=EF h;exact⟨by rw[seqIndex_of h0 h1,e],by omega,by omega,h1⟩
  ·rw[b_ h1]at h;cases h
 ·rw[b_ h0]at h;by_cases h1 : -(n:Int)<=i
  ·rw[c_ h1]at h;have e:(i+n).toNat=j:=EF h;exact⟨by rw[seqIndex_neg (by omega) h1,e],by omega,h1,by omega⟩
  ·rw[b_ h1]at h;cases h
theorem mT {α:Type}{xs:List α}{i:Int}{v:α}(h:atI xs i=Γ v):∃j,seqIndex? i xs.length=Γ j/\xs[j]? = Γ v/\j < xs.length/\-(xs.length:Int)<=i/\i < xs.length:=by
 unfold atI at h;cases e:ixN xs.length i with
 |none=>rw[e]at h;cases h
 |some j=>rw[e]at h;obtain⟨h1,h2,h3,h4⟩:=qA e;exact⟨j,h1,h,h2,h3,h4⟩
theorem mU {α:Type}{xs:List α}{j:Nat}{v:α}(h:xs[j]? = Γ v):atI xs (j:Int)=Γ v:=by
 have hj:j < xs.length:=(B_.mp h).1;have e:ixN xs.length (j:Int)=Γ j:=by unfold ixN;rw[c_ (by omega),c_ (by omega)];simp
 unfold atI;rw[e];exact h
theorem tM {α:Type}(xs:List α)(v:α):atI (xs++[v]) (-1)=Γ v:=by
 have hl:(xs++[v]).length=xs.length+1:=by simp
 have e:ixN (xs++[v]).length (-1)=Γ xs.length:=by unfold ixN;rw[hl,b_ (by decide),c_ (by omega)];congr 1;omega
 unfold atI;rw[e];show(xs++[v])[xs.length]? = Γ v;simp
def wF (b:Expr):Prop:=∀o i,subscripted b Θ o i=operate [o,i] (getItem o i)
def IxR (X:Cx)(r:R2):Prop:=
 ∀(value slice:Expr) (pins:List (Ψ×Obj)) (s:Ω) (σ:St) (H:Hp) (x y:V) (v u:Φ) (Q:VK),Inv X pins σ H s->RelV x v->RelV y u->r x y H Q->
  subscripted slice Θ v u=operate [v,u] (getItem v u)->Ι (Κ X.prog X.w) X.A (subscriptTail value slice v u) (EP X pins σ Q) X.xe s
def MtR (X:Cx)(id:String)(r:V->List V->Hp->VK->Prop):Prop:=
 ∀(pins:List (Ψ×Obj)) (s:Ω) (σ:St) (H:Hp) (x:V) (xs:List V) (v:Φ) (us:List Φ) (Q:VK),Inv X pins σ H s->RelV x v->Vals xs us->r x xs H Q->
  Ι (Κ X.prog X.w) X.A (call (.builtin id) (v::us)) (EP X pins σ Q) X.xe s
section
variable {X:Cx}{a b:Expr}{ta tb:TE}{pos:Pos}
theorem IxR.or {r r':R2}(h:IxR X r)(h':IxR X r'):IxR X (fun x y H Q=>r x y H Q∨r' x y H Q):=by
 intro value slice pins s σ H x y v u Q I rx ry q hs;rcases q with q|q
 ·exact h value slice pins s σ H x y v u Q I rx ry q hs
 ·exact h' value slice pins s σ H x y v u Q I rx ry q hs
theorem qB {r:R2}(hr:IxR X r)(ha:PE X a ta)(hb:PE X b tb)(hs:wF b):PE X (.Subscript a b pos) (tOp r ta tb):=by intro pins s σ H Q I h;exact Subscript_ (Ac ha hb I h fun v u s2 x y H2 I2 rx ry q=>hr a b pins s2 σ H2 x y v u Q I2 rx ry q (hs _ _))
def Cc (K:Frag):R2:=fun x y H Q=>∃p xs i v,x=.ref p/\y=.int i/\SqL K H p xs/\atI xs i=Γ v/\Q v H
def Cd (K:Frag):R2:=fun x y H Q=>∃p xs i v,x=.ref p/\y=.int i/\SqT K H p xs/\atI xs i=Γ v/\Q v H
def Ce:R2:=fun x y H Q=>∃z i c,x=.str z/\y=.int i/\z.length<=Ε/\atI z.cps.toList i=Γ c/\Q (.str ⟨#[c]⟩) H
theorem wG:IxR X (Cc X.K):=by
 intro value slice pins s σ H x y v u Q I rx ry h hs;obtain⟨p,xs,i,z,rfl,rfl,hq,he,q⟩:=h;cases rx;obtain⟨t,rfl⟩:=ry;obtain⟨its,r,pl,hz⟩:=I.list hq;obtain⟨j,h1,h2,h3,h4,h5⟩:=mT he;obtain⟨w,ew,rw'⟩:=r.get h2;have hl:=r.length;have hn:=jQ;have fin:EP X pins σ Q w s:=⟨z,H,I,rw',q⟩
 by_cases h0:0<=i
 ·have hj:i.toNat=j:=by rw[seqIndex_of h0 h5]at h1;exact EF h1
  exact item_listR pl.isList h0 (by omega) (by rw[hj];simpa using ew) fin hs
 ·have hj:(i+(its.toArray.size:Int)).toNat=j:=by rw[seqIndex_neg (by omega) h4]at h1;rw[z_,<- hl];exact EF h1
  exact subscriptTail_builtinR (x:=w) pl.isList.typeIs slot_list_getitem.lookup
   (wpAny_getItem_list_neg (Q:=fun r s'=>r=w/\EP X pins σ Q r s') pl.isList (by omega) (by rw[z_]<;>omega) (by omega) (by rw[hj];simpa using ew) ⟨rfl,fin⟩) hs
theorem mV:IxR X (Cd X.K):=by
 intro value slice pins s σ H x y v u Q I rx ry h hs;obtain⟨p,xs,i,z,rfl,rfl,hq,he,q⟩:=h;cases rx;obtain⟨t,rfl⟩:=ry;obtain⟨its,r,pl,hz⟩:=I.tuple hq;obtain⟨j,h1,h2,h3,h4,h5⟩:=mT he;obtain⟨w,ew,rw'⟩:=r.get h2;have hl:=r.length;have hn:=jQ;have fin:EP X pins σ Q w s:=⟨z,H,I,rw',q⟩
 exact subscriptTail_builtinR (x:=w) pl.typeIs slot_tuple_getitem.lookup
  (getItem_tuple (j:=j) (Q:=fun r s'=>r=w/\EP X pins σ Q r s') pl (by omega) (by omega) (by rw[z_,<- hl];exact h1) (by simpa using ew) ⟨rfl,fin⟩) hs
theorem An:IxR X Ce:=by
 intro value slice pins s σ H x y v u Q I rx ry h hs;obtain⟨z,i,c,rfl,rfl,hz,he,q⟩:=h;obtain⟨t,rfl⟩:=rx;obtain⟨t',rfl⟩:=ry;obtain⟨j,h1,h2,h3,h4,h5⟩:=mT he;have hl:z.cps.toList.length=z.length:=by simp[Str.length]
 rw[hl]at h1 h4 h5;have hn:=jQ
 exact tail_any (typeIs_str s z t) slot_str_getitem.lookup (getItem_str (c:=c) (by
  have e1:decide (i < -(2 ^ 63:Int))=Θ:=p_ (by omega);have e2:decide (i >= 2 ^ 63)=Θ:=p_ (by omega)
  rw[e1,e2,Bool.or_false]) (by rw[h1];simpa using h2) ⟨.str ⟨#[c]⟩,H,I.tok _,⟨_,rfl⟩,q⟩) hs
def rIx (K:Frag):R2:=fun x y H Q=>Cc K x y H Q∨Cd K x y H Q∨Ce x y H Q
theorem Ao:IxR X (rIx X.K):=wG.or (mV.or An)
theorem pN (its:List Φ)(n j:Nat)(u:Φ):θ (·.setIfInBounds j u) {cls:=.type "list",data:=.seq its.toArray n} = {cls:=.type "list",data:=.seq (its.set j u).toArray n}:=by simp[θ]
theorem Inv.lst {pins:List (Ψ×Obj)}{σ:St}{H:Hp}{s:Ω}{p:Ψ}{xs:List V}(I:Inv X pins σ H s)(h:H p=Γ (.lst xs)) :
  ∃(its:List Φ) (n:Nat),Vals xs its/\s.heap.get? p=Γ {cls:=.type "list",data:=.seq its.toArray n}/\xs.length<=Ε:=by
 obtain⟨z,its,n,r,e⟩:=I.hok p _ h;exact⟨its,n,r,e,z⟩
theorem Inv.lstUpd {pins:List (Ψ×Obj)}{σ:St}{H:Hp}{s:Ω}{p:Ψ}{xs ys:List V}{its its':List Φ}{n n':Nat}{f:Obj->Obj}(I:Inv X pins σ H s)(h:H p=Γ (.lst xs))
  (ho:s.heap.get? p=Γ {cls:=.type "list",data:=.seq its.toArray n}) (hf:f {cls:=.type "list",data:=.seq its.toArray n} = {cls:=.type "list",data:=.seq its'.toArray n'}) (r:Vals ys its') (hz:ys.length<=Ε) (t:Nat) :
  Inv X pins σ (upd H p (.lst ys)) {s with heap:=s.heap.update p f,toks:=t}:=by
 have e:(s.heap.update p f).get? p=Γ {cls:=.type "list",data:=.seq its'.toArray n'}:=by rw[Heap.get?_update_self f ho (by rw[hf]<;>rfl),hf]
 refine I.write (x:=p) (e:=p) (by rw[h];trivial) (.inl rfl) (fun b u hb q=>(Heap.get?_update_other _ _ (Ne.symm hb)).trans q) ⟨_,e⟩ ?_;exact⟨hz,its',n',r,e⟩
def Cf:V->V->V->Hp->(Hp->Prop)->Prop:=fun o i v H Q=>∃p xs k j,o=.ref p/\i=.int k/\H p=Γ (.lst xs)/\ixN xs.length k=Γ j/\Q (upd H p (.lst (xs.set j v)))
theorem set_list:zZ X Cf:=by
 intro pins s σ H o i v ov iv u Q I ro ri rv h;obtain⟨p,xs,k,j,rfl,rfl,hp,hj,q⟩:=h;cases ro;obtain⟨t,rfl⟩:=ri;obtain⟨its,n,r,ho,hz⟩:=I.lst hp;obtain⟨h1,h2,h3,h4⟩:=qA hj;have hl:=r.length;have hn:=jQ;have I':Inv X pins σ (upd H p (.lst (xs.set j v))) {s with heap:=s.heap.update p (θ (·.setIfInBounds j u))}:=
  I.lstUpd hp ho (pN its n j u) (r.set rv j) (by rw[List.length_set];exact hz) s.toks
 by_cases h0:0<=k
 ·have hk:k.toNat=j:=by rw[seqIndex_of h0 h4]at h1;exact EF h1
  exact PySem.W.ki_setAt ho h0 (by omega) (by rw[z_,<- hl];exact h4) (by rw[hk];exact⟨_,I',q⟩)
 ·have hk:(k+(its.toArray.size:Int)).toNat=j:=by rw[seqIndex_neg (by omega) h3]at h1;rw[z_,<- hl];exact EF h1
  exact PySem.W.ki_setBack ho (by omega) (by rw[z_,<- hl];exact h3) (by omega) (by rw[hk];exact⟨_,I',q⟩)
theorem mW (lo hi:Option Int)(n:Nat):(sliceBounds lo hi Ξ n).1=((HT.sIx n 0 lo:Nat):Int)/\(sliceBounds lo hi Ξ n).2.1=((HT.sIx n n hi:Nat):Int)/\(sliceBounds lo hi Ξ n).2.2=1:=by
 refine⟨?_,?_,rfl⟩
 ·cases lo with
  |none=>simp[sliceBounds,HT.sIx]
  |some i=>
   simp only[sliceBounds,HT.sIx,Option.getD_none,show(1:Int) > 0 by decide,if_true];by_cases h:i < 0
   ·simp only[h,if_true]<;>omega
   ·simp only[h,if_false]<;>omega
 ·cases hi with
  |none=>simp[sliceBounds,HT.sIx]
  |some i=>
   simp only[sliceBounds,HT.sIx,Option.getD_none,show(1:Int) > 0 by decide,if_true];by_cases h:i < 0
   ·simp only[h,if_true]<;>omega
   ·simp only[h,if_false]<;>omega
theorem lG (its:List Φ)(lo hi:Option Int):slicePick its.toArray lo hi Ξ=((its.drop (HT.sIx its.length 0 lo)).take (HT.sIx its.length its.length hi - HT.sIx its.length 0 lo)).toArray:=by obtain⟨h1,h2,h3⟩:=mW lo hi its.toArray.size;unfold slicePick;rw[h1,h2,h3];simp only[sliceRange_one,pick_run,z_]<;>rfl
def Ei (K:Frag):V->Option Int->Option Int->Hp->VK->Prop:=fun x lo hi H Q=>∃a xs,x=.ref a/\SqL K H a xs/\∀p,H p=Ξ->Q (.ref p) (upd H p (.lst (sC xs lo hi)))
theorem qC:SlR X (Ei X.K):=by intro pins s σ H x v vl vu lo hi sl Q I rx hs pl pu h;obtain⟨a,xs,rfl,hx,q⟩:=h;cases rx;obtain⟨its,r,ht,hz⟩:=I.list hx;have hlen:=r.length;refine⟨"list",_,slot_list_getitem.lookup,ht.isList.typeIs,?_⟩;refine wpAny_getItem_list_slice ht.isList hs pl pu .none (by simp) ?_ (by rw[z_]<;>omega);rw[lG,<- hlen];refine⟨.ref s.heap.objs.size,_,I.laid (t':=s.toks) (o:=.lst (sC xs lo hi)) (fun b ob q=>w_ _ q) (n_ _) ?_,rfl,q _ (I.hok.fresh (n_ _))⟩;exact⟨EN (oD xs lo hi) hz,_,0,(r.drop (HT.sIx xs.length 0 lo)).take (HT.sIx xs.length xs.length hi - HT.sIx xs.length 0 lo),EG _ rfl⟩
theorem iF:gK X (.type "list") (fun xs H Q=>∃p ys,xs=[.ref p]/\(SqL X.K H p ys∨SqT X.K H p ys)/\∀l,H l=Ξ->Q (.ref l) (upd H l (.lst ys))):=by
 intro pins s σ H xs us Q I r h;obtain⟨p,ys,rfl,hq,q⟩:=h;obtain⟨u,rfl,rx⟩:=vals1 r;cases rx;have fin:∀(its:List Φ),Vals ys its->ys.length<=Ε->∀(h':Heap) (c':Nat),(∀b o',s.heap.get? b=Γ o'->h'.get? b=Γ o')->
   h'.get? s.heap.objs.size=Γ {cls:=.type "list",dict:=Ξ,data:=.seq its.toArray c',slots:=#[]}->EP X pins σ Q (.ref s.heap.objs.size) {s with heap:=h'}:=fun its r' hz h' c' kp e=>
  ⟨.ref s.heap.objs.size,_,I.laid (t':=s.toks) kp (n_ _) (show fP X.prog X.w _ h' _ (.lst ys) from⟨hz,its,c',r',e⟩),rfl,q _ (I.hok.fresh (n_ _))⟩
 rcases hq with hq|hq
 ·obtain⟨its,r',pl,hz⟩:=I.list hq;have hlen:=r'.length;obtain⟨o,ho,hc,n,hd⟩:=pl.isList;exact call_list_seq p (.inl rfl) ho hc hd (fun h' c' kp e=>fin its r' hz h' c' kp e) (by simp only[z_]<;>omega)
 ·obtain⟨its,r',pl,hz⟩:=I.tuple hq;have hlen:=r'.length;obtain⟨o,ho,hc,n,hd⟩:=pl;exact call_list_seq p (.inr rfl) ho hc hd (fun h' c' kp e=>fin its r' hz h' c' kp e) (by simp only[z_]<;>omega)
theorem lH:gK X (.type "tuple") (fun xs H Q=>∃p ys,xs=[.ref p]/\((SqL X.K H p ys/\∀l,H l=Ξ->Q (.ref l) (upd H l (.tup ys)))∨(SqT X.K H p ys/\Q (.ref p) H))):=by
 intro pins s σ H xs us Q I r h;obtain⟨p,ys,rfl,h⟩:=h;obtain⟨u,rfl,rx⟩:=vals1 r;cases rx;rcases h with⟨hq,q⟩|⟨hq,q⟩
 ·obtain⟨its,r',pl,hz⟩:=I.list hq;have hlen:=r'.length;refine call_tuple_list pl.isList (fun h' kp=>?_) (by simp only[z_]<;>omega);have I1:Inv X pins σ H {s with heap:=h'}:=I.kept (t':=s.toks) kp;have I2:Inv X pins σ (upd H h'.objs.size (.tup ys)) {s with heap:=h'.push {cls:=.type "tuple",data:=.seq its.toArray}}:=
   I1.laid (t':=s.toks) (fun b o e=>w_ _ e) (n_ _) (show fP X.prog X.w _ _ _ (.tup ys) from⟨hz,its,r',IsTup.new _ _⟩)
  exact⟨.ref h'.objs.size,_,I2,rfl,q _ (I1.hok.fresh (n_ _))⟩
 ·obtain⟨its,r',pl,hz⟩:=I.tuple hq;exact call_tuple_same pl ⟨.ref p,H,I,rfl,q⟩
def tyV (K:Frag)(T:String)(x:V)(H:Hp):Prop:=match x with
 |.str _=>T = "str"
 |.int _=>T = "int"
 |.ref p=>(T = "list"/\∃xs,SqL K H p xs)∨(T = "tuple"/\∃o,K.lookup p=Γ o/\o.cls=.type "tuple"/\o.dict=Ξ)∨
   (T = "dict"/\((∃kvs,H p=Γ (.dK kvs))∨∃kvs,H p=Γ (.dT kvs)))∨(T = "set"/\∃S n,H p=Γ (.set S n))
 |_=>False
theorem tO {pins:List (Ψ×Obj)}{σ:St}{H:Hp}{s:Ω}{T:String}{x:V}{v:Φ}(I:Inv X pins σ H s)(r:RelV x v)(ty:tyV X.K T x H) :
  s.TypeIs v T/\∀a,v=.ref a->∃ob,s.heap.get? a=Γ ob/\ob.dict=Ξ:=by
 cases x with
 |str z=>obtain⟨t,rfl⟩:=r;cases(show T = "str" from ty);exact⟨typeIs_str s z t,fun _ e=>nomatch e⟩
 |int i=>obtain⟨t,rfl⟩:=r;cases(show T = "int" from ty);exact⟨typeIs_int s i t,fun _ e=>nomatch e⟩
 |ref p=>
  cases r;rcases ty with⟨rfl,xs,hq⟩|⟨rfl,o,hk,hc,hd⟩|⟨rfl,hk⟩|⟨rfl,S,n,hk⟩
  ·obtain⟨its,_,pl,_⟩:=I.list hq;refine⟨pl.isList.typeIs,fun a e=>?_⟩;cases e;obtain⟨o,n,e,c,hd,_⟩:=pl;exact⟨o,e,hd⟩
  ·refine⟨⟨o,I.kIn p o hk,hc⟩,fun a e=>?_⟩;cases e;exact⟨o,I.kIn _ o hk,hd⟩
  ·have z:∃o,s.heap.get? p=Γ o/\o.ExactDict:=by
    rcases hk with⟨kvs,hk⟩|⟨kvs,hk⟩
    ·obtain⟨_,_,_,_,o,_,_,e,ex,_⟩:=I.hok p _ hk;exact⟨o,e,ex⟩
    ·obtain⟨_,_,_,_,o,_,_,e,ex,_⟩:=I.hok p _ hk;exact⟨o,e,ex⟩
   obtain⟨o,e,ex⟩:=z;refine⟨⟨o,e,ex.1⟩,fun a e2=>?_⟩;cases e2;exact⟨o,e,ex.2.1⟩
  ·obtain⟨o,_,_,_,e,ex,_⟩:=I.hok p _ hk;refine⟨⟨o,e,ex.1⟩,fun a e2=>?_⟩;cases e2;exact⟨o,e,ex.2.1⟩
 |_=>exact False.elim ty
def Ej (K:Frag)(T:String)(r:V->List V->Hp->VK->Prop)(to:TE):TE:=fun σ H Q=>to σ H fun x H1=>tyV K T x H1/\r x [] H1 Q
def tBM (K:Frag)(T:String)(r:V->List V->Hp->VK->Prop)(to:TE)(t:TA):TE:=fun σ H Q=>to σ H fun x H1=>tyV K T x H1/\t σ H1 fun xs H2=>r x xs H2 Q
variable {o e:Expr}{es:List Expr}{to:TE}{t:TA}{name:Str}{apos cpos:Pos}{T id:String}{r:V->List V->Hp->VK->Prop}
theorem Ap (pa:PlainAttrs T)(slot:Slot T name id)(hty:typeOf (.builtin id)=pure (.type "method_descriptor")) (hm:MtR X id r) (ho:PE X o to)
  (hbase:attributeBase o name X.env (eval o X.env)=eval o X.env:=by rfl) (hline:(apos.endLine == cpos.line)=Δ:=by rfl):PE X (.Call (.Attribute o name apos) [] [] cpos) (Ej X.K T r to):=by
 intro pins s σ H Q I h;refine wpAny_Call_method0_late hbase hline (thn (ho pins s σ H _ I h) fun v s1 ⟨x,H1,I1,r1,ty,q1⟩=>?_);obtain⟨h1,h2⟩:=tO I1 r1 ty;exact⟨T,id,pa,slot,hty,h1,h2,Calls.callWith_builtin rfl (PySem.evalArgs_none (hm pins s1 σ H1 x [] v [] Q I1 r1 .nil q1))⟩
theorem qD (pa:PlainAttrs T)(slot:Slot T name id)(hty:typeOf (.builtin id)=pure (.type "method_descriptor")) (hm:MtR X id r) (ho:PE X o to) (ha:PA X (e::es) t)
  (hbase:attributeBase o name X.env (eval o X.env)=eval o X.env:=by rfl)
  (hfew:((backTo cpos (Μ (e::es) X.env)).all (fun x=>!x.1)&&(backToKw cpos (keywordEach [] X.env)).all (fun x=>x.1.isSome)
  &&decide ((e::es).length+([]:List Keyword).length+(if([]:List Keyword).isEmpty then 0 else 1) < 30))=Δ:=by rfl)
  (hline:(apos.endLine == cpos.line)=Δ:=by rfl) (hs:Μ (e::es) X.env=(Θ,eval e X.env)::Μ es X.env:=by rfl) (hplain:(backTo cpos (Μ es X.env)).any (·.1)=Θ:=by rfl) :
  PE X (.Call (.Attribute o name apos) (e::es) [] cpos) (tBM X.K T r to t):=by
 intro pins s σ H Q I h;refine wpAny_Call_method_late hbase hfew hline rfl (thn (ho pins s σ H _ I h) fun v s1 ⟨x,H1,I1,r1,ty,q1⟩=>?_);obtain⟨h1,h2⟩:=tO I1 r1 ty;refine⟨T,id,pa,slot,hty,h1,h2,?_⟩;have hA:=ha cpos pins s1 σ H1 _ I1 q1;rw[hs]at hA ⊢;refine Calls.callWith_builtin (by show(Θ||(backTo cpos (Μ es X.env)).any (·.1))=Θ;rw[hplain]<;>rfl) (Calls.evalArgs_plain ?_);exact thn hA fun us s2 ⟨vs,H2,I2,r2,q2⟩=>hm pins s2 σ H2 x vs v us Q I2 r1 r2 q2
end
def MtM (X:Cx)(id:String)(r:V->List V->Hp->VK->Prop):Prop:=
 ∀(pins:List (Ψ×Obj)) (s:Ω) (σ:St) (H:Hp) (x:V) (xs:List V) (v:Φ) (us:List Φ) (Q:VK),Inv X pins σ H s->RelV x v->Vals xs us->r x xs H Q->
  Ι (Κ X.prog X.w) X.A (call (.builtin id) (v::us)) (EP X pins σ Q) X.xe s
theorem Vals.one:∀ {x:V}{us:List Φ},Vals [x] us->∃u,us=[u]/\RelV x u
 |_,_,.cons r .nil=>⟨_,rfl,r⟩
theorem Vals.zero:∀ {us:List Φ},Vals [] us->us=[]
 |_,.nil=>rfl
theorem Vals.rep {xs:List V}{us:List Φ}(h:Vals xs us):∀k:Nat,Vals (Ρ k xs).flatten (Ρ k us).flatten
 |0=>.nil
 |k+1=>by rw[List.replicate_succ,List.replicate_succ,List.flatten_cons,List.flatten_cons];exact Vals.append h (Vals.rep h k)
theorem foldl_rep (its:List Φ):∀(k:Nat) (acc:List Φ),
  List.foldl (fun x1 x2=>x1++x2) acc.toArray (Ρ k its.toArray)=(acc++(Ρ k its).flatten).toArray
 |0,acc=>by simp
 |k+1,acc=>by
  have e:acc.toArray++its.toArray=(acc++its).toArray:=by simp
  have e2:(acc++its)++(Ρ k its).flatten=acc++(Ρ (k+1) its).flatten:=by rw[List.replicate_succ,List.flatten_cons,o_]
  rw[<- e2,<- foldl_rep its k (acc++its),<- e,List.replicate_succ,List.foldl_cons]
section
variable {X:Cx}{pins:List (Ψ×Obj)}{σ:St}{H:Hp}{s:Ω}{l b:Ψ}{xs ys zs:List V}
theorem Inv.lset {its its':List Φ}{n:Nat}{f:Array Φ->Array Φ}{t':Nat}(I:Inv X pins σ H s)(hH:H l=Γ (.lst xs))
  (e:s.heap.get? l=Γ {cls:=.type "list",data:=.seq its.toArray n}) (hf:f its.toArray=its'.toArray) (hv:Vals ys its') (hz:ys.length<=Ε) :
  Inv X pins σ (upd H l (.lst ys)) {s with heap:=s.heap.update l (θ f),toks:=t'}:=by
 have q:=PySem.IsL.update e f;rw[hf]at q;refine I.write (x:=l) (e:=l) (by rw[hH];exact trivial) (.inl rfl) (fun b' u hb hu=>(Heap.get?_update_other s.heap (θ f) (Ne.symm hb)).trans hu) ⟨_,q⟩ ?_;exact⟨hz,its',_,hv,q⟩
theorem Inv.lnew {its:List Φ}{t':Nat}(I:Inv X pins σ H s)(hv:Vals ys its)(hz:ys.length<=Ε) :
  Inv X pins σ (upd H s.heap.objs.size (.lst ys)) {s with heap:=s.heap.push {cls:=.type "list",data:=.seq its.toArray},toks:=t'}:=
 I.laid (fun _ _ q=>w_ _ q) (n_ _) ⟨hz,its,0,hv,EG _ rfl⟩
theorem Inv.fresh (I:Inv X pins σ H s):H s.heap.objs.size=Ξ:=I.hok.fresh (n_ _)
theorem Inv.lstM (I:Inv X pins σ H s)(hH:H l=Γ (.lst xs)):xs.length<=Ε/\∃(its:List Φ) (n:Nat),Vals xs its/\xs.length=its.length/\s.heap.get? l=Γ {cls:=.type "list",data:=.seq its.toArray n}:=by obtain⟨z,its,n,r,e⟩:=I.hok l _ hH;exact⟨z,its,n,r,r.length,e⟩
theorem tP {n:Nat}(h:n<=Ε):Builtin.List.listTooLong n=Θ:=by unfold Builtin.List.listTooLong;exact p_ (by omega)
end
section
variable {X:Cx}
def wH:V->List V->Hp->VK->Prop:=fun x vs H Q=>∃l xs y,x=.ref l/\vs=[y]/\H l=Γ (.lst xs)/\xs.length < Ε/\Q .non (upd H l (.lst (xs++[y])))
theorem lW:MtM X "list.append" wH:=by intro pins s σ H x vs v us Q I rx rv h;obtain⟨l,xs,y,rfl,rfl,hH,hz,q⟩:=h;cases rx;obtain⟨u,rfl,ru⟩:=rv.one;obtain⟨z,its,n,r,hl,e⟩:=I.lstM hH;refine call_meets F.slot_list_append ⟨_,e,rfl⟩ F.entry_list_append (F.args_list_append_2 _ _) (PySem.list_append l its.toArray n u (by rw[z_];omega)) ⟨e,?_⟩;refine⟨.non,_,I.lset (its':=its++[u]) hH e (by simp) (r.append (.cons ru .nil)) ?_,rfl,q⟩;rw[t_,EH];omega
def Aq:V->List V->Hp->VK->Prop:=fun x vs H Q=>∃l xs,x=.ref l/\vs=[]/\H l=Γ (.lst xs)/\Q .non (upd H l (.lst []))
theorem tQ:MtM X "list.clear" Aq:=by intro pins s σ H x vs v us Q I rx rv h;obtain⟨l,xs,rfl,rfl,hH,q⟩:=h;cases rx;have hus:=rv.zero;subst hus;obtain⟨z,its,n,r,hl,e⟩:=I.lstM hH;refine call_meets F.slot_list_clear ⟨_,e,rfl⟩ F.entry_list_clear (F.args_list_clear_1 _) (AutoSeq1.list_clear_list_0 l its.toArray n (by rw[z_];omega)) ⟨e,?_⟩;exact⟨.non,_,I.lset (its':=[]) (ys:=[]) hH e rfl .nil (ET _),rfl,q⟩
def Ek:R2:=fun x y H Q=>∃l b xs zs,x=.ref l/\y=.ref b/\H l=Γ (.lst xs)/\H b=Γ (.lst zs)/\xs.length+zs.length<=Ε/\∀p,H p=Ξ->Q (.ref p) (upd H p (.lst (xs++zs)))
theorem Ar:OpR X (binaryOp .Add) Ek:=by
 intro pins s σ H x y v u Q I rx ry h;obtain⟨l,b,xs,zs,rfl,rfl,hH,hB,hz,q⟩:=h;cases rx;cases ry;obtain⟨z,its,n,r,hl,e⟩:=I.lstM hH;obtain⟨z2,its2,n2,r2,hl2,e2⟩:=I.lstM hB;refine PySem.P.add_list e e2 ?_ (by rw[z_,z_];omega);have ea:its.toArray++its2.toArray=(its++its2).toArray:=by simp
 rw[ea];exact⟨.ref _,_,I.lnew (t':=s.toks) (r.append r2) (by rw[t_];omega),rfl,q _ I.fresh⟩
theorem len_rep {α:Type}(xs:List α)(k:Nat):(Ρ k xs).flatten.length=k*xs.length:=by
 induction k with
 |zero=>simp
 |succ k ih=>rw[List.replicate_succ,List.flatten_cons,t_,ih,Nat.succ_mul,Nat.add_comm]
end
end L2
namespace Att
open PySem PySem.W PySem.Calls PyProof.Rows
theorem kc {P:Params}{h:Heap}:∀(ns:List Int) (vs:List Φ),WellAll P h vs (ns.map WData.int)->IntsAre vs ns:=by
 intro ns
 induction ns with
 |nil=>intro vs w;rw[List.map_nil]at w;cases w;exact .nil
 |cons n ns ih=>
  intro vs w;rw[a_]at w;cases w with
  |cons a b=>cases a;exact .cons _ _ (ih _ b)
theorem sD {l:OpenLaw}{n:Nat}(hn:l.most=Γ n){P:Params}{h:Heap}{args:List WData}{vals:List Φ}
  (hpre:l.row.toRowW.claim.pre args=Δ) (hwl:WellAll P h vals args) :
  ∃a vs ns,vals=[η a]/\args=[WData.list (ns.map WData.int)]/\h.get? a=Γ {cls:=.type "list",data:=.seq vs.toArray}/\IntsAre vs ns/\ns.length<=n:=by
 have hsh:WShape.hasAll [] args [.list .int]=Δ:=(pre_splitW hpre).1;have hc:l.pre.holds [] {args:=args} = Δ:=(pre_splitW hpre).2;obtain⟨d,r,rfl,h1,h2⟩:=hasAllW_cons hsh;obtain rfl:=hasAllW_nil h2;obtain⟨xs,rfl,h3⟩:=hasW_list h1;obtain⟨ns,rfl⟩:=items_int h3;have hlen:ns.length<=n:=by
  unfold OpenLaw.pre at hc;have h4:(WTm.not (.lt (.lit (.int (n:Int))) (.len (.arg 0)))).holds [] {args:=[.list (ns.map .int)]} = Δ:=by have h4:=(holds_andW hc).1;rw[hn]at h4;exact h4
  have h5:=condW_of h4 (w_not (w_lt w_lit (w_len_list (w_arg rfl))));rw[f_]at h5;refine Nat.le_of_not_lt fun q=>?_;have q':(n:Int) < ((ns.length:Nat):Int):=by omega
  first
   | (rw[s_ q']at h5;exact absurd h5 (by decide))
   | (simp at h5;omega)
 cases hwl with
 |cons w1 w2=>
  cases w2;cases w1 with
  |list ho hall=>exact⟨_,_,ns,rfl,rfl,ho,kc ns _ hall,hlen⟩
theorem sE (l:OpenLaw)(args:List WData):l.row.toRowW.claim.post args (.bool Δ) args=Δ:=
 postW_of (r:=l.row.toRowW) (X:=(Δ == Δ))
  (show WShape.has [] (.bool Δ) .bool=Δ by first|rfl|decide|simp[WShape.has,WShape.arms,WShape.armsAll])
  (show(WTm.eq .res (.lit (.bool Δ))).value [] {args:=args,res:=Γ (.bool Δ),after:=args} = Γ (.bool (Δ == Δ)) from w_eq_bool (w_res rfl) w_lit) rfl
theorem attach_call {l:OpenLaw}{n:Nat}{q:Β}{loose:List Str}{XP:(Str->Option Φ)->Heap->Prop}{YP:Α->Heap->Prop}{d:DefRec}
  (hn:l.most=Γ n) (hdf:d.params.defaults=[])
  (call:∀(w:Α) (s₀ s₁:Ω) (mg mb:Str->Option Φ) (fa:Ψ) (o:Obj) (pm cd doc:Φ) (a:Ψ) (vs:List Φ) (ns:List Int),
   Ground q loose [] XP w s₀ mg mb s₁.heap->YP w s₁.heap->
   s₁.heap.get? fa=Γ o->o.data=.func (docDef d.name d.params d.body d.scope pm cd doc)->s₁.heap.CodeRec cd d.name->mg d.name=Γ (.ref fa)->
   s₁.heap.get? a=Γ {cls:=.type "list",data:=.seq vs.toArray}->IntsAre vs ns->ns.length<=n->s₁.gens = #[]->
   codeAny (Κ l.prog w) callerA (.call (.ref fa) ⟨[.ref a],[]⟩) (fun r s'=>r=.ok (.ret (.bool Δ))/\OldK s₁.heap s'.heap/\s'.os=s₁.os/\AllBare s'.gens) s₁) :
  WalkO q loose XP YP l.row.toRowW d [] (fun f vs=>PySem.call f vs):=by
 intro w s₀ s₁ mg mb G Y fa o pm cd doc dV kV ho hd hcd hD hmg hg args vals as hpre hlay hrd hwl hlo;obtain rfl:dV=.none:=Dflts.none hD hdf;obtain rfl:kV=.none:=Dflts.noKw hD;obtain⟨a,vs,ns,rfl,rfl,hobj,hints,hlen⟩:=sD hn hpre hwl;refine enter_call (codeAny_mono (call w s₀ s₁ mg mb fa o pm cd doc a vs ns G Y ho (fd_plain hd) hcd hmg hobj hints hlen hg) fun r s' hq=>?_);obtain⟨rfl,h2,h3,h4⟩:=hq;exact⟨.inl ⟨.bool Δ,.bool Δ,[],rfl,fun _=>rfl,.bool Δ,sE l _,fun _=>⟨List.Pairwise.nil,fun _ hm=>(nomatch hm)⟩⟩,h2,h3,h4⟩
end Att
namespace L2
open PySem PySem.Spec PyProof.Rows
def KL (K:Frag)(a:Ψ)(xs:List V):Prop:=
 ∃(its:List Φ) (n:Nat),K.lookup a=Γ {cls:=.type "list",data:=.seq its.toArray n}/\its.length<=Ε/\Vals xs its
def Ls (K:Frag)(H:Hp)(a:Ψ)(xs:List V):Prop:=Rd H a (.lst xs)∨KL K a xs
theorem lX:∀ {vs:List Φ}{ns:List Int},IntsAre vs ns->Vals (ns.map V.int) vs
 |_,_,.nil=>.nil
 |_,_,.cons n t h=>.cons ⟨t,rfl⟩ (lX h)
def As (H:Hp):Prop:=∀b,H b=Ξ∨∃o xs,H b=Γ (.frz o (.lst xs))
theorem tR {P:Β}{w:Α}{K:Frag}{mg mb:Str->Option Φ}{CX:CXT}{k:Nat}{fa a:Ψ}{fd:Ν}{x:Str}{sp:Sp}{s₁:Ω}{vs:List Φ}{ns:List Int}
  (KX:K.In s₁.heap) (hns:s₁.heap.Ns Ζ mg) (hb:s₁.heap.Ns builtinsNs mb) (hbb:∀x:Str,x≠"__name__"->mb x=bootBuiltins x) (hlim:s₁.heap.NoLimit) (hg:s₁.gens = #[])
  (ha:s₁.heap.get? a=Γ {cls:=.type "list",data:=.seq vs.toArray}) (hi:IntsAre vs ns) (hl:ns.length<=Ε) (hr:Room k callerA)
  (F:∀base:Heap,K.In base->base.Ns Ζ mg->FnOk P w K mg base CX k fa fd [x] sp) (hbind:∀(s:Ω) (u:Φ),BindsTo s fd ⟨[u],[]⟩ [(x,u)])
  (hsp:∀H:Hp,As H->Ls K H a (ns.map V.int)->sp [.ref a] H (fun v _=>v=.bl Δ) fun _ _ _=>False)
  (hCX:∀H e s',CX [] H s₁ (fun _ _ _=>False) e s'->False) :
  codeAny (Κ P w) callerA (.call (.ref fa) ⟨[.ref a],[]⟩) (fun r s'=>r=.ok (.ret (.bool Δ))/\OldK s₁.heap s'.heap/\s'.os=s₁.os/\AllBare s'.gens) s₁:=by
 have rv:=lX hi;have lenV:=hi.length
 -- from an abstract heap in which nothing but the script may be tracked
 have core:∀H:Hp,As H->Ls K H a (ns.map V.int)->HOk P w H s₁.heap->(∀b,H b≠Ξ->b=a)->(H a≠Ξ->K.lookup a=Ξ)->
   codeAny (Κ P w) callerA (.call (.ref fa) ⟨[.ref a],[]⟩) (fun r s'=>r=.ok (.ret (.bool Δ))/\OldK s₁.heap s'.heap/\s'.os=s₁.os/\AllBare s'.gens) s₁:=by
  intro H hO hS hok hA hK;have base_of:∀ {b:Ψ}{o:Obj},s₁.heap.get? b=Γ o->H b=Ξ->(mP s₁.heap H).get? b=Γ o:=fun e n=>sY e n;have noA:∀ {b:Ψ}{o:Obj}{es:Array DictEntry}{ep:Nat},s₁.heap.get? b=Γ o->o.data=.dict es ep->H b=Ξ:=fun {b o es ep} e d=>by
   cases q:H b with
   |none=>rfl
   |some u=>have e':b=a:=hA b (by rw[q];simp);subst e';rw[ha]at e;cases e;have d':Data.seq vs.toArray _=Data.dict es ep:=d;cases d'
  have nsK:∀ {b:Ψ}{m:Str->Option Φ},s₁.heap.Ns b m->(mP s₁.heap H).Ns b m:=fun {b m} ⟨o,es,ep,e,d,r⟩=>⟨o,es,ep,base_of e (noA e d),d,r⟩
  have hKb:K.In (mP s₁.heap H):=fun b o e=>base_of (KX b o e) (by
   cases q:H b with
   |none=>rfl
   |some u=>
    have e':b=a:=hA b (by rw[q];simp);subst e'
    rw[hK (by rw[q];simp)]at e;cases e)
  have hM:Mod K mg (mP s₁.heap H):=⟨hKb,nsK hns,⟨mb,nsK hb,hbb⟩,let ⟨mc,h1,h2⟩:=hlim;⟨mc,nsK h1,h2⟩⟩
  have e0:Env0 P w K mg (mP s₁.heap H) callerA [] s₁ H:=⟨rfl,hM,fun b o e=>wk e,Nat.le_of_eq (sj _ _),trivial,fun b hb=>absurd (show b∈([]:List Ψ) from hb) (by simp),hok,.of_eq hg⟩
  refine codeAny_mono ((F _ hKb (nsK hns)).run callerA [] s₁ H ⟨[.ref a],[]⟩ [.ref a] [.ref a] _ _ hr e0 (hbind s₁ (.ref a)) (.cons rfl .nil) (hsp H hO hS)) fun r s' h=>?_;cases r with
  |error e=>exact(hCX H e s' h).elim
  |ok fl=>
   cases fl with
   |next=>exact False.elim h
   |brk=>exact False.elim h
   |cont=>exact False.elim h
   |ret u=>
    obtain⟨v,H',os,bare,un,hok',r',q⟩:=h;have q':v=.bl Δ:=q;subst q';obtain rfl:u=Value.bool Δ:=r';refine⟨rfl,OldK.of_keep fun b o e=>?_,os,bare⟩;cases q:H b with
    |none=>exact un.keep b o e q (by intro z;exact absurd (show b∈([]:List Ψ) from z) (by simp)) (by simp)
    |some u=>
     rcases hO b with z|⟨ob,xs,z⟩
     ·rw[q]at z;cases z
     ·have z2:=un.frzs b ob _ z;obtain⟨e1,_⟩:=hok b _ z;obtain⟨e2,_⟩:=hok' b _ z2;rw[e]at e1;cases e1;exact e2
 cases hk:K.lookup a with
 |some o=>
  -- the script is one of the module's own objects
  have e:=KX a o hk;rw[ha]at e;cases e;refine core (fun _=>Ξ) (fun _=>.inl rfl) (.inr ⟨vs,_,hk,by rw[lenV];exact hl,rv⟩) (fun b u z=>by have z':(Ξ:Option HO)=Γ u:=z;cases z') (fun b z=>absurd rfl z) fun z=>absurd rfl z
 |none=>
  refine core (fun b=>if b=a then Γ (.frz {cls:=.type "list",data:=.seq vs.toArray} (.lst (ns.map V.int))) else Ξ) (fun b=>?_) (.inl (.inr ⟨{cls:=.type "list",data:=.seq vs.toArray},c_ rfl⟩)) (fun b u z=>?_) (fun b z=>?_) fun _=>hk
  ·by_cases hb:b=a
   ·exact .inr ⟨_,_,c_ hb⟩
   ·exact .inl (b_ hb)
  ·by_cases hb:b=a
   ·have z':=(c_ hb).symm.trans z;cases z';subst hb;exact⟨ha,by rw[f_];exact hl,vs,_,rv,ha⟩
   ·have z':=(b_ hb).symm.trans z;cases z'
  ·by_cases hb:b=a
   ·exact hb
   ·exact absurd (b_ hb) z
theorem wI {l:PySem.W.OpenLaw}{n k:Nat}{q:Β}{loose:List Str}{XP:(Str->Option Φ)->Heap->Prop}{YP:Α->Heap->Prop}{d:DefRec}{K:Params->Frag}{CX:Α->CXT}{sp:Α->Sp}{x:Str}
  (hn:l.most=Γ n) (hn2:n<=Ε) (hdf:d.params.defaults=[]) (hr:Room k callerA)
  (hY:∀(w:Α) (h:Heap),YP w h->(K w.params).In h)
  (F:∀(w:Α) (mg:Str->Option Φ) (fa:Ψ) (h:Heap),(K w.params).In h->h.Ns Ζ mg->mg d.name=Γ (.ref fa)->
   ∃fd:Ν,(∀(s:Ω) (u:Φ),BindsTo s fd ⟨[u],[]⟩ [(x,u)])/\
    ∀base:Heap,(K w.params).In base->base.Ns Ζ mg->FnOk l.prog w (K w.params) mg base (CX w) k fa fd [x] (sp w))
  (hsp:∀(w:Α) (H:Hp) (a:Ψ) (ns:List Int),ns.length<=n->As H->Ls (K w.params) H a (ns.map V.int)->sp w [.ref a] H (fun v _=>v=.bl Δ) fun _ _ _=>False)
  (hCX:∀(w:Α) (H:Hp) (s:Ω) (e:Φ) (s':Ω),CX w [] H s (fun _ _ _=>False) e s'->False) :
  PySem.W.WalkO q loose XP YP l.row.toRowW d [] (fun f vs=>PySem.call f vs):=by
 refine Att.attach_call hn hdf fun w s₀ s₁ mg mb fa o pm cd doc a vs ns G Y ho hd hcd hmg hobj hints hlen hg=>?_;have KX:=hY w _ Y;obtain⟨fd,hb,hF⟩:=F w mg fa _ KX G.T.g hmg;exact tR KX G.T.g G.T.b G.T.builtins G.T.nolimit hg hobj hints (EN hlen hn2) hr hF hb (fun H hO hS=>hsp w H a ns hlen hO hS) fun H e s'=>hCX w H s₁ e s'
noncomputable def gO (s:Stmt):Arguments:=match s with
 |.FunctionDef _ a _ _ _ _ _ _ _ _=>a
 |_=>{posonlyargs:=[],args:=[],vararg:=Ξ,kwonlyargs:=[],kw_defaults:=[],kwarg:=Ξ,defaults:=[]}
noncomputable def fY (s:Stmt):List Stmt:=match s with
 |.FunctionDef _ _ b _ _ _ _ _ _ _=>b
 |_=>[]
noncomputable def fg (s:Stmt):Scope:=match s with
 |.FunctionDef _ _ _ _ _ _ sc _ _ _=>sc
 |_=>{kind:=.function,names:=[],isGenerator:=Θ,isCoroutine:=Θ}
structure Fun (K:Frag)(x qual:Str)(st:Stmt)(f:Ψ)(fd:Ν):Prop where
 ex:∃(oc:Φ) (od:Option Ψ) (kV doc pm:Φ) (an:Option Ψ) (cdv ct:Φ) (osl:Array (Option Φ)),
  fd=PySem.W.fnOf x qual (gO st) (fY st) (fg st) .none kV doc pm an cdv ct/\K.lookup f=Γ ⟨oc,od,.func fd,osl⟩/\PySem.W.codeIn K cdv qual=Δ
 kp:PySem.W.keepIn K (.ref f)=Δ
section
variable {P:Β}{w:Α}{K:Frag}{mg:Str->Option Φ}{base:Heap}
theorem Fun.binds {x qual:Str}{st:Stmt}{f:Ψ}{fd:Ν}{ps:List Str}(F:Fun K x qual st f fd)
  (h:∀(kV doc pm:Φ) (an:Option Ψ) (cdv ct:Φ) (us:List Φ),us.length=ps.length->bindArgs (PySem.W.fnOf x qual (gO st) (fY st) (fg st) .none kV doc pm an cdv ct) ⟨us,[]⟩=pure (ps.zip us)):Binds K fd ps []:=by
 obtain⟨oc,od,kV,doc,pm,an,cdv,ct,osl,rfl,lk,hcd⟩:=F.ex;exact .all (h kV doc pm an cdv ct)
theorem kz {x qual:Str}{st:Stmt}{f:Ψ}{oc:Φ}{od an:Option Ψ}{osl:Array (Option Φ)}{kV doc pm cdv ct:Φ}(l:K.lookup f=Γ ⟨oc,od,.func (PySem.W.fnOf x qual (gO st) (fY st) (fg st) .none kV doc pm an cdv ct),osl⟩)
  (c:PySem.W.codeIn K cdv qual=Δ) (k:PySem.W.keepIn K (.ref f)=Δ):Fun K x qual st f (PySem.W.fnOf x qual (gO st) (fY st) (fg st) .none kV doc pm an cdv ct):=⟨⟨oc,od,kV,doc,pm,an,cdv,ct,osl,rfl,l,c⟩,k⟩
end
def dO (H H':Hp):Prop:=∀b o,H b=Γ o->H' b=Γ o
theorem dO.refl (H:Hp):dO H H:=fun _ _ h=>h
theorem dO.trans {H H1 H2:Hp}(a:dO H H1)(b:dO H1 H2):dO H H2:=fun c o h=>b c o (a c o h)
theorem dO.free {H H':Hp}(e:dO H H'){l:Ψ}(h:H' l=Option.none):H l=Option.none:=by
 cases q:H l with
 |none=>rfl
 |some o=>rw[e l o q]at h;cases h
theorem dO.seq {K:Frag}{H H':Hp}{a:Ψ}{xs:List V}(e:dO H H')(h:SqL K H a xs):SqL K H' a xs:=by
 rcases h with(h|⟨o,h⟩)|h
 ·exact .inl (.inl (e _ _ h))
 ·exact .inl (.inr ⟨o,e _ _ h⟩)
 ·exact .inr h
theorem fm {X:Cx}{e:Expr}{t t':TE}(h:PE X e t)(m:∀σ H Q,t' σ H Q->t σ H Q):PE X e t':=fun pins s σ H Q I q=>h pins s σ H Q I (m σ H Q q)
theorem jj {X:Cx}{e:Expr}{t t':TT}(h:PT X e t)(m:∀σ H Q,t' σ H Q->t σ H Q):PT X e t':=fun pins s σ H Q I q=>h pins s σ H Q I (m σ H Q q)
theorem mX {X:Cx}{e:List Expr}{t t':TA}(h:PA X e t)(m:∀σ H Q,t' σ H Q->t σ H Q):PA X e t':=fun pos pins s σ H Q I q=>h pos pins s σ H Q I (m σ H Q q)
theorem fS {X:Cx}{e:Stmt}{t t':TS}(h:PS X e t)(m:∀D σ H,t' D σ H->t D σ H):PS X e t':=fun pins s σ H D I q=>h pins s σ H D I (m D σ H q)
theorem jv {X:Cx}{e:List Stmt}{t t':TS}(h:PSs X e t)(m:∀D σ H,t' D σ H->t D σ H):PSs X e t':=fun pins s σ H D I q=>h pins s σ H D I (m D σ H q)
theorem tU {X:Cx}{tg e:Expr}{t t':TI}(h:PI X tg e t)(m:∀σ H Q,t' σ H Q->t σ H Q):PI X tg e t':=fun pins s σ H Q I q=>h pins s σ H Q I (m σ H Q q)
def cxC (X:Cx)(scope:Scope)(cl:List (Str×Ψ))(N:List Str)(C:Ψ)(s3:Ω)(H3:Hp)(fp:List Ψ)(xe:Φ->Ω->Prop:=fun _ _=>False):Cx:=
 {X with N:=N,s₀:=s3,H₀:=H3,env:=compEnvC scope cl C X.env,outer:=X.stack,ex:=fp,fn:=fun _=>Θ,pn:=[],xe:=xe}
structure CompSc (X:Cx)(scope:Scope)(cl:List (Str×Ψ))(Fr:List (Str×Nat))(Tg:List Str):Prop where
 clos:closureFor scope X.env=pure cl
 kind:scope.kind=.function
 nocell:∀y∈scope.names,y.2≠.cell
 loc:∀y∈scope.names,y.2=.local->scope.names.lookup y.1=Γ .local
 sub:∀x c,cl.lookup x=Γ c->X.env.cells.lookup x=Γ c
 has:∀x,((relabel scope X.env).names.lookup x=Γ .cell∨(relabel scope X.env).names.lookup x=Γ .free)->∃c,cl.lookup x=Γ c
 out:∀p∈Fr,X.N[p.2]? = Γ p.1/\(X.env.kindOf p.1=Γ .cell∨X.env.kindOf p.1=Γ .free)/\((relabel scope X.env).names.lookup p.1=Γ .cell∨(relabel scope X.env).names.lookup p.1=Γ .free)
noncomputable def stC (Fr:List (Str×Nat))(Tg:List Str)(σ:St):St:=Fr.map (fun p=>(σ[p.2]?).join)++Ρ Tg.length Ξ
section
variable {X:Cx}{scope:Scope}{cl:List (Str×Ψ)}{Fr:List (Str×Nat)}{Tg:List Str}{pins:List (Ψ×Obj)}{σ:St}{H3:Hp}{s3:Ω}{fp:List Ψ}
theorem Au (S:CompSc X scope cl Fr Tg)(I:Inv X pins σ H3 s3)(hf:∀b∈fp,ju X pins H3 b)(hfs:∀b∈fp,b < s3.heap.objs.size)(N:List Str)(xe:Φ->Ω->Prop):(cxC X scope cl N s3.heap.objs.size s3 H3 fp xe).Ok where
 mod:=I.ok.mod
 kind:=S.kind
 glob:=I.ok.glob
 blt:=I.ok.blt
 above:=n_ _
 inj:=fun x y c h1 h2=>I.ok.inj x y c (S.sub x c h1) (S.sub y c h2)
 has:=fun x h=>S.has x h
 cab:=fun x c h _=>absurd (show Θ=Δ from h) (by decide)
 hd:=I.ok.hd
 frames:=I.ok.frames
 stk:=.inl rfl
 exf:=fun b hb=>⟨x_ (hfs b hb),fun x c e z=>(hf b hb).2.2.2.2.1 x c (S.sub x c e) z⟩
 bs:=I.bs
 bsz:=EN I.ok.bsz I.sz
 noex:=fun b o e hb=>by
  rcases(hf b hb).2.2.2.1 with z|z
  ·exact I.ok.noex b o e z
  ·exact absurd (EI (l_ e) (EN I.ok.bsz z)) (EX _)
 exfs:=fun b hb z=>by
  rcases j_.mp (I.stkSub b z) with z|z
  ·exact(hf b hb).2.1 z
  ·exact(hf b hb).2.2.1 z
 funs:=I.stack
 frf:=I.stkFree
theorem sF (S:CompSc X scope cl Fr Tg)(I:Inv X pins σ H3 s3)(hf:∀b∈fp,ju X pins H3 b)(hfs:∀b∈fp,b < s3.heap.objs.size){h':Heap}{tk:Nat}
  (hns:h'.Ns s3.heap.objs.size (fun _=>Ξ)) (hk:∀b o,s3.heap.get? b=Γ o->h'.get? b=Γ o) (xe:Φ->Ω->Prop) :
  Inv (cxC X scope cl (Fr.map (·.1)++Tg) s3.heap.objs.size s3 H3 fp xe) [] (stC Fr Tg σ) H3 {s3 with heap:=h',toks:=tk} where
 ok:=Au S I hf hfs _ _
 os:=rfl
 bare:=I.bare
 base:=Un.kept hk
 loc:=by
  refine⟨_,hns,fun i x v e1 e2 e3=>?_⟩;have hi:i < Fr.length:=by
   by_cases hi:i < Fr.length
   ·exact hi
   ·unfold stC at e2;rw[List.getElem?_append_right (by simpa using hi),List.getElem?_replicate]at e2;split at e2<;>cases e2
  have e1':(Fr.map (·.1))[i]? = Γ x:=by rw[<- e1];exact(E3 (by simpa using hi)).symm
  have e2':(Fr.map (fun p=>(σ[p.2]?).join))[i]? = Γ (Γ v):=by rw[<- e2];exact(E3 (by simpa using hi)).symm
  rw[EL]at e1' e2';obtain⟨p,hp,rfl⟩:=E4.mp e1';rw[hp]at e2';have e2'':(σ[p.2]?).join=Γ v:=EF e2';have e4:σ[p.2]? = Γ (Γ v):=by
   cases q:σ[p.2]? with
   |none=>rw[q]at e2'';cases e2''
   |some y=>rw[q]at e2'';rw[show y=Γ v from e2'']
  obtain⟨o1,o2,o3⟩:=S.out p (EM hp);obtain⟨m,hn,hl⟩:=I.loc;have hv:Vis X.env.scope p.1:=by
   rcases o2 with o2|o2
   ·exact .inr (.inl o2)
   ·exact .inr (.inr o2)
  obtain⟨u,r,l⟩:=hl p.2 p.1 v o1 e4 hv;refine⟨u,r,.inr ⟨o3,?_⟩⟩;obtain⟨c,hc⟩:=S.has p.1 o3;refine⟨c,hc,?_⟩;have hc':=S.sub _ _ hc;rcases l with⟨k,_⟩|⟨_,c2,h2,z⟩
  ·rcases o2 with o2|o2<;>(rw[k]at o2;cases o2)
  ·rw[hc']at h2;cases h2;obtain⟨o,ho,hd⟩:=z;exact⟨o,hk _ _ ho,hd⟩
 cell:=fun x c e=>by obtain⟨v,o,ho,hd⟩:=I.cell x c (S.sub x c e);exact⟨v,o,hk _ _ ho,hd⟩
 free:=I.hok.fresh (n_ _)
 freeC:=fun x c e=>I.freeC x c (S.sub x c e)
 pin:=fun p hp=>absurd (show p∈([]:List (Ψ×Obj)) from hp) (by simp)
 hok:=I.hok.kept hk
 len:=by unfold stC;show _=(Fr.map (·.1)++Tg).length;simp
end
def PTs (X:Cx)(ifs:List Expr)(t:TT):Prop:=
 ∀(pins:List (Ψ×Obj)) (s:Ω) (σ:St) (H:Hp) (Q:Bool->Hp->Prop),Inv X pins σ H s->t σ H Q->
  Ι (Κ X.prog X.w) X.A (forIn ifs Δ fun c r=>if r=Δ then do let ok <- isTrue c X.env (eval c X.env);pure (ForInStep.yield ok) else pure (ForInStep.yield r)) (TP X pins σ Q) X.xe s
theorem j7 {M:Model}{A:Η}{E:Φ->Ω->Prop}{s:Ω}{env:Env}{Q:Bool->Ω->Prop}(h:Q Θ s):∀ifs:List Expr,
  Ι M A (forIn ifs Θ fun c r=>if r=Δ then do let ok <- isTrue c env (eval c env);pure (ForInStep.yield ok) else pure (ForInStep.yield r)) Q E s
 |[]=>by rw[List.forIn_nil];exact v_ h
 |c::cs=>by rw[List.forIn_cons];rw[b_ EC];exact i_ (v_ (j7 h cs))
theorem wJ {X:Cx}:PTs X [] (fun _ H Q=>Q Δ H):=fun pins s σ H Q I q=>by rw[List.forIn_nil];exact v_ ⟨H,I,q⟩
theorem tV {X:Cx}{c:Expr}{cs:List Expr}{t u:TT}(hc:PT X c t)(hr:PTs X cs u):PTs X (c::cs) (B2 t u):=fun pins s σ H Q I q=>by
 rw[List.forIn_cons,c_ rfl];refine i_ (i_ (thn (hc pins s σ H _ I q) fun b s1 ⟨H1,I1,q1⟩=>v_ ?_))
 induction b using zB with
 |true=>exact hr pins s1 σ H1 Q I1 q1
 |false=>exact j7 ⟨H1,I1,q1⟩ cs
def qE (wi:TI)(start:St->St)(g:TG)(tt:TT)(te:TE):TE:=fun σ H Q=>wi σ H fun J H1=>∀D,H1 D=Ξ->∃W:Nat->Nat->St->Hp->Prop,(∃m,W 0 m (start σ) (upd H1 D (.lst [])))/\
 ∀i m σ' H',W i m σ' H'->(J.stop i H'/\Q (.ref D) H')∨(J.go i H'/\∀x H2,J.yld i H' x H2->g x σ' H2 fun σ2 H3=>tt σ2 H3 fun b H4=>
  if b=Δ then te σ2 H4 fun v H5=>∃ys,H5 D=Γ (.lst ys)/\ys.length < Ε/\∃m',m' < m/\W (i+1) m' σ2 (upd H5 D (.lst (ys++[v])))
  else ∃m',m' < m/\W (i+1) m' σ2 H4)
section
variable {X:Cx}{scope:Scope}{cl:List (Str×Ψ)}{Fr:List (Str×Nat)}{Tg:List Str}{elt tg iter:Expr}{ifs:List Expr}{wi:TI}{g:TG}{tt:TT}{te:TE}{pos:Pos}
theorem mY (scope:Scope)(pos:Pos)(it acc:Φ)(env:Env) :
  compTurn (.ListComp elt [⟨tg,iter,ifs,0⟩] scope pos) 0 it acc env=(do
   standAt iter.pos
   match <- pyNext it with
   |none=>pure (.done .next)
   |some v=>
    letOwnedTupleGo tg it v
    assign tg env v
    let ok <- forIn ifs Δ fun c r=>if r=Δ then do let ok <- isTrue c env (eval c env);pure (ForInStep.yield ok) else pure (ForInStep.yield r)
    if ok=Δ then
     (do let _ <- call (.builtin "list.append") [acc,<- eval elt env])
    again (.compLoop (.ListComp elt [⟨tg,iter,ifs,0⟩] scope pos) 0 it acc env)):=by rfl
theorem kC {XE:Ψ->Ω->Hp->List Ψ->Φ->Ω->Prop}(hc:X.calm=Δ)(S:CompSc X scope cl Fr Tg)
  (hg:∀C s H fp,PG (cxC X scope cl (Fr.map (·.1)++Tg) C s H fp (XE C s H fp)) tg g) (ht:∀C s H fp,PTs (cxC X scope cl (Fr.map (·.1)++Tg) C s H fp (XE C s H fp)) ifs tt)
  (he:∀C s H fp,PE (cxC X scope cl (Fr.map (·.1)++Tg) C s H fp (XE C s H fp)) elt te)
  {pins:List (Ψ×Obj)}{σ:St}{H2:Hp}{s2:Ω}{it:Ψ}{fp:List Ψ}{tn:Nat->Heap->Prop}{J:It}{Q:VK} (I2:Inv X pins σ H2 s2) (T:Turn X.prog X.w X.K tg J fp it tn) (st2:tn 0 s2.heap)
  (f2:∀b∈fp,ju X pins H2 b)
  (q:∀D,H2 D=Ξ->∃W:Nat->Nat->St->Hp->Prop,(∃m,W 0 m (stC Fr Tg σ) (upd H2 D (.lst [])))/\
   ∀i m σ' H',W i m σ' H'->(J.stop i H'/\Q (.ref D) H')∨(J.go i H'/\∀x H2,J.yld i H' x H2->g x σ' H2 fun σ2 H3=>tt σ2 H3 fun b H4=>
    if b=Δ then te σ2 H4 fun v H5=>∃ys,H5 D=Γ (.lst ys)/\ys.length < Ε/\∃m',m' < m/\W (i+1) m' σ2 (upd H5 D (.lst (ys++[v])))
    else ∃m',m' < m/\W (i+1) m' σ2 H4))
  {E:Φ->Ω->Prop}{RR:Φ->Env->Result->Ω->Prop}
  (hR:∀D C s' H',(∃m,s'.heap.Ns C m)->Inv X pins σ H' s'->ju X pins H' C->Q (.ref D) H'->∀V:Env,V.locals=C->V.frame=X.env.frame->RR (.ref D) V (.ok .next) s')
  (hX:∀D C s3 H3,(∀s5 σ5 H5,Inv (cxC X scope cl (Fr.map (·.1)++Tg) C s3 H3 fp (XE C s3 H3 fp)) [] σ5 H5 s5->(∃m,s5.heap.Ns C m)/\Inv X pins σ H5 s5/\ju X pins H5 C)->∀e s',XE C s3 H3 fp e s'->
   notedBy (Κ X.prog X.w) X.A (compEnvC scope cl C X.env) (fun x s''=>∀V:Env,V.locals=C->V.frame=X.env.frame->RR (.ref D) V (.error x) s'') e s') :
  Ι (Κ X.prog X.w) X.A (newList []) (fun acc s₃=>Ι (Κ X.prog X.w) X.A (newFunctionEnv scope X.env.globals cl [] X.env.qual Ξ .none (Γ X.env)) (fun cenv s₄=>
   codeAny (Κ X.prog X.w) X.A (.compStart (.ListComp elt [⟨tg,iter,ifs,0⟩] scope pos) 0 (.ref it) acc {cenv with scope:=relabel scope X.env}) (RR acc cenv) s₄) E s₃) E s2:=by
 have fsz:∀b∈fp,b < s2.heap.objs.size:=fun b hb=>by obtain⟨o,e,_⟩:=T.obj _ _ st2 b hb;exact l_ e
 -- the accumulator
 refine wpAny_newObj_type ?_;have I3:Inv X pins σ (upd H2 s2.heap.objs.size (.lst [])) {s2 with heap:=s2.heap.push {cls:=.type "list",data:=.seq ([]:List Φ).toArray},toks:=s2.toks}:=I2.lnew (ys:=[]) (its:=[]) .nil (ET _);generalize hD:s2.heap.objs.size=D at I3 ⊢;have hDn:H2 D=Ξ:=by rw[<- hD];exact I2.fresh
 generalize hs3:({s2 with heap:=s2.heap.push {cls:=.type "list",data:=.seq ([]:List Φ).toArray},toks:=s2.toks}:Ω)=s3 at I3;have k3:∀b o,s2.heap.get? b=Γ o->s3.heap.get? b=Γ o:=fun b o e=>by rw[<- hs3];exact w_ _ e
 have sz3:s3.heap.objs.size=D+1:=by rw[<- hs3,<- hD];exact Heap.size_push ..
 have fszD:∀b∈fp,b < D:=fun b hb=>by rw[<- hD];exact fsz b hb
 have fsz3:∀b∈fp,b < s3.heap.objs.size:=fun b hb=>by rw[sz3];exact Nat.lt_succ_of_lt (fszD b hb)
 have f3:∀b∈fp,ju X pins (upd H2 D (.lst [])) b:=fun b hb=>by obtain⟨a1,a2⟩:=f2 b hb;refine⟨?_,a2⟩;rw[dM (x_ (fszD b hb))];exact a1
 obtain⟨W,⟨m0,w0⟩,turn⟩:=q D hDn;refine wpAny_newFunctionEnv S.nocell (by intro y hy;simp at hy) (fun h4 hns hsb=>codeAny_mono (R:=fun r s'=>∀V:Env,V.locals=s3.heap.objs.size->V.frame=X.env.frame->RR (.ref D) V r s') ?_ fun r s' z=>z _ rfl rfl) S.kind;have k4:∀b o,s3.heap.get? b=Γ o->h4.get? b=Γ o:=fun b o e=>
  hsb.extBut b o (x_ (l_ e)) (w_ _ e)
 have st4:tn 0 h4:=T.keep _ _ _ st2 fun b hb o e=>k4 b o (k3 b o e);have I4:=sF (fp:=fp) (h':=h4) (tk:=s3.toks+([]:List (Str×Φ)).length) S I3 f3 fsz3 (by simpa using hns) k4 (XE s3.heap.objs.size s3 (upd H2 D (.lst [])) fp);generalize hC:s3.heap.objs.size=C at I4 hns hsb ⊢;have hX':=hX D C s3 (upd H2 D (.lst []));generalize hZ:XE C s3 (upd H2 D (.lst [])) fp=Z at I4 hX';generalize hY:cxC X scope cl (Fr.map (·.1)++Tg) C s3 (upd H2 D (.lst [])) fp Z=Y at I4 hX';have yP:Y.prog=X.prog:=by rw[<- hY];rfl
 have yw:Y.w=X.w:=by rw[<- hY];rfl
 have yK:Y.K=X.K:=by rw[<- hY];rfl
 have yA:Y.A=X.A:=by rw[<- hY];rfl
 have yc:Y.calm=Δ:=by rw[<- hY];exact hc
 have yx:Y.xe=Z:=by rw[<- hY];rfl
 have ye:Y.env=compEnvC scope cl C X.env:=by rw[<- hY];rfl
 have yex:Y.ex=fp:=by rw[<- hY];rfl
 have ypn:Y.pn=[]:=by rw[<- hY];rfl
 have yfs:Y.fs=frs X.stack:=by rw[<- hY];rfl
 have yH:Y.H₀=upd H2 D (.lst []):=by rw[<- hY];rfl
 have ys₀:Y.s₀=s3:=by rw[<- hY];rfl
 have hg':PG Y tg g:=by rw[<- hY,<- hZ];exact hg _ _ _ _
 have ht':PTs Y ifs tt:=by rw[<- hY,<- hZ];exact ht _ _ _ _
 have he':PE Y elt te:=by rw[<- hY,<- hZ];exact he _ _ _ _
 have stat:∀ {H':Hp},(∀b∈fp,H' b=Ξ)->∀b∈fp,ju Y [] H' b:=fun hn b hb=>by have okY:=I4.ok;refine⟨hn b hb,(okY.exf b (by rw[yex];exact hb)).1,okY.exfs b (by rw[yex];exact hb),.inl (by rw[yex];exact hb),(okY.exf b (by rw[yex];exact hb)).2,fun p hp=>absurd hp (by rw[ypn];simp)⟩
 have fr0:∀b∈fp,(upd H2 D (.lst [])) b=Ξ:=fun b hb=>(f3 b hb).1
 -- back to the frame
 have back:∀(s5:Ω) (σ5:St) (H5:Hp),Inv Y [] σ5 H5 s5->(∃m,s5.heap.Ns C m)/\Inv X pins σ H5 s5/\ju X pins H5 C:=by
  intro s5 σ5 H5 I5;have hns5:∃m,s5.heap.Ns C m:=by obtain⟨m,hn,_⟩:=I5.loc;rw[ye]at hn;exact⟨m,hn⟩
  have un5:Un (frs X.stack) fp (upd H2 D (.lst [])) H5 s3.heap s5.heap:=by have u:=I5.base;rw[yfs,yex,yH,ys₀]at u;exact u
  have os5:s5.os=s3.os:=by have:=I5.os;rw[ys₀]at this;exact this
  have hok5:HOk X.prog X.w H5 s5.heap:=by have:=I5.hok;rw[yP,yw]at this;exact this
  have hch:∀b∈fp,(b∈X.ex∨X.s₀.heap.objs.size<=b)/\b≠X.env.locals/\(∀x c,X.env.cells.lookup x=Γ c->c≠b)/\∀p∈X.pn++pins,p.1≠b:=fun b hb=>by obtain⟨_,a1,_,a3,a4,a5⟩:=f3 b hb;exact⟨a3,a1,a4,a5⟩
  have free5:H5 C=Ξ:=by have:=I5.free;rw[ye]at this;exact this
  exact⟨hns5,I3.call' os5 un5 hok5 I5.bare hch,I3.fpOk (Nat.le_of_eq hC) free5⟩
 have nz:∀ {α:Type}{t:Sem α}{Q:α->Ω->Prop}{s:Ω},Ι (Κ X.prog X.w) X.A t Q Z s->Ι (Κ X.prog X.w) X.A t Q (notedBy (Κ X.prog X.w) X.A (compEnvC scope cl C X.env) fun x s''=>∀V:Env,V.locals=C->V.frame=X.env.frame->RR (.ref D) V (.error x) s'') s:=fun h=>wpAny_mono h (fun _ _ z=>z) fun e s' z=>hX' back e s' z;have loop:∀(s5:Ω) (σ5:St) (H5:Hp) (i m:Nat),Inv Y [] σ5 H5 s5->tn i s5.heap->(∀b∈fp,H5 b=Ξ)->W i m σ5 H5->
   codeAny (Κ X.prog X.w) X.A (.compLoop (.ListComp elt [⟨tg,iter,ifs,0⟩] scope pos) 0 (.ref it) (.ref D) (compEnvC scope cl C X.env)) (fun r s'=>∀V:Env,V.locals=C->V.frame=X.env.frame->RR (.ref D) V r s') s5:=by
  intro s5 σ5 H5 i m I5 st5 fr5 w5;refine codeAny_loop rfl (fun n s'=>∃i σ' H',Inv Y [] σ' H' s'/\tn i s'.heap/\(∀b∈fp,H' b=Ξ)/\W i n σ' H') ?_ m ⟨i,σ5,H5,I5,st5,fr5,w5⟩;rintro n s6 ⟨i,σ6,H6,I6,st6,fr6,w6⟩;show Ι _ X.A ((compTurn (.ListComp elt [⟨tg,iter,ifs,0⟩] scope pos) 0 (.ref it) (.ref D) (compEnvC scope cl C X.env)).onRaise (fun x=>do noteFrame x (compEnvC scope cl C X.env);theTreesLotGoes x)) _ _ s6;refine wpAny_noted ?_;rw[mY];refine i_ (wpAny_standAt (i_ ?_));have nx:∀ {α:Type}{t:Sem α}{Q:α->Ω->Prop}{E':Φ->Ω->Prop}{s:Ω},Ι (Κ X.prog X.w) X.A t Q (fun _ _=>False) s->Ι (Κ X.prog X.w) X.A t Q E' s:=fun h=>wpAny_mono h (fun _ _ z=>z) fun _ _ z=>z.elim;rcases turn i n σ6 H6 w6 with⟨stop,qn⟩|⟨go,step⟩
  ·have h:=T.done Y yP yw yK yc i [] s6 σ6 H6 (fun _ _=>False) I6 (stat fr6) st6 stop;rw[yA]at h;refine nx (thn h fun r s7 ⟨hr,I7⟩=>?_);subst hr;refine v_ ?_;obtain⟨b1,b2,b3⟩:=back s7 σ6 H6 I7;exact hR D C s7 H6 b1 b2 b3 qn
  ·have h:=T.item Y yP yw yK yc i [] s6 σ6 H6 (fun _ _=>False) I6 (stat fr6) st6 go;rw[yA]at h;refine nx (thn h fun r s7 ⟨u,hr,h7⟩=>?_);subst hr;refine i_ (nx (thn h7 fun _ s8 ⟨x,H8,I8,r8,y8,st8,fr8⟩=>?_));have I8':=I8.pinned (stat fr8) (T.obj _ _ st8);have h9:=hg' _ s8 σ6 H8 x u _ I8' r8 (step x H8 y8);rw[yP,yw,yA,yx,ye]at h9;refine i_ (nz (thn h9 fun _ s9 ⟨σ9,H9,I9,q9⟩=>?_));have h10:=ht' _ s9 σ9 H9 _ I9 q9;rw[yP,yw,yA,yx,ye]at h10;refine i_ (nz (thn h10 fun ok s10 ⟨H10,I10,q10⟩=>?_));have again:∀ {σ':St}{H':Hp}{s':Ω},Inv Y ([]++jP fp s8.heap) σ' H' s'->(∃m',m' < n/\W (i+1) m' σ' H')->∃m,m < n/\∃i σ' H',Inv Y [] σ' H' s'/\tn i s'.heap/\(∀b∈fp,H' b=Ξ)/\W i m σ' H':=fun {σ' H' s'} I' ⟨m',hm,w'⟩=>by refine⟨m',hm,i+1,σ',H',I'.unpinned,T.keep _ _ _ st8 fun b hb o e=>(I'.pin (b,o) (m_ _ (m_ _ (iD hb e)))).1,fun b hb=>?_,w'⟩;obtain⟨o,e,d⟩:=T.obj _ _ st8 b hb;exact(I'.pin (b,o) (m_ _ (m_ _ (iD hb e)))).2.1
   induction ok using zB with
   |false=>rw[b_ EC]at q10;refine i_ (v_ (v_ ⟨rfl,again I10 q10⟩))
   |true=>rw[c_ rfl]at q10;have h11:=he' _ s10 σ9 H10 _ I10 q10;rw[yP,yw,yA,yx,ye]at h11;refine i_ (i_ (nz (thn h11 fun y s11 ⟨v,H11,I11,r11,ys,ey,zy,q11⟩=>?_)));have h12:=lW (X:=Y) ([]++jP fp s8.heap) s11 σ9 H11 (.ref D) [v] (.ref D) [y] (fun v' H'=>v'=.non/\H'=upd H11 D (.lst (ys++[v]))) I11 rfl (.cons r11 .nil) ⟨D,ys,v,rfl,rfl,ey,zy,rfl,rfl⟩;rw[yP,yw,yA,yx]at h12;refine i_ (nz (thn h12 fun z s12 ⟨v12,H12,I12,r12,e12,e12'⟩=>?_));subst e12';exact v_ (v_ ⟨rfl,again I12 q11⟩)
 have start:=loop {s3 with heap:=h4,toks:=s3.toks+([]:List (Str×Φ)).length} (stC Fr Tg σ) (upd H2 D (.lst [])) 0 m0 I4 st4 fr0 w0;have e5:∀(s':Ω),s' = {s3 with heap:=h4,toks:=s3.toks+([]:List (Str×Φ)).length}->codeAny (Κ X.prog X.w) X.A (.compLoop (.ListComp elt [⟨tg,iter,ifs,0⟩] scope pos) 0 (.ref it) (.ref D) (compEnvC scope cl C X.env)) (fun r s'=>∀V:Env,V.locals=C->V.frame=X.env.frame->RR (.ref D) V r s') s':=by rintro _ rfl;exact start
 exact codeAny_compStart_list (e5 _ rfl) (T.self _ _ _ _ _ st4 (e5 _ rfl))
theorem mZ (hc:X.calm=Δ)(S:CompSc X scope cl Fr Tg)(hi:PI X tg iter wi)
  (hg:∀C s H fp,PG (cxC X scope cl (Fr.map (·.1)++Tg) C s H fp) tg g) (ht:∀C s H fp,PTs (cxC X scope cl (Fr.map (·.1)++Tg) C s H fp) ifs tt)
  (he:∀C s H fp,PE (cxC X scope cl (Fr.map (·.1)++Tg) C s H fp) elt te) (hs:∀x,foldedSetIterable iter X.env x=pure x:=by intro _;rfl) :
  PE X (.ListComp elt [⟨tg,iter,ifs,0⟩] scope pos) (qE wi (stC Fr Tg) g tt te):=by
 intro pins s σ H Q I h;rw[eval_ListComp];refine wpAny_comprehension_free (use:=Ξ) rfl hs S.clos S.kind S.loc (thn (hi pins s σ H _ I h) fun xv s1 h1=>thn h1 fun itv s2 h2=>?_);obtain⟨it,fp,tn,J,H2,rfl,I2,T,st2,f2,q⟩:=h2;refine kC (XE:=fun _ _ _ _ _ _=>False) (RR:=fun acc V=>compPost (Κ X.prog X.w) X.A X.xe Ξ (EP X pins σ Q) acc V.locals) hc S hg ht he I2 T st2 f2 q ?_ fun _ _ _ _ _ _ _ z=>z.elim;intro D C s' H' ⟨m,hn⟩ I' F' q' V hV _;subst hV;obtain⟨f0,f1,f2,f3,f4,f5⟩:=F';exact⟨m,hn,fun h' sb=>⟨.ref D,H',I'.turned (t':=s'.toks) (fun b o hb e=>(sb.2 b hb).trans e) f0 f1 f3 f4 f5,rfl,q'⟩⟩
theorem wK {y:Str}{py spos:Pos}{i:Nat}(hc:X.calm=Δ)(hN:X.N.Nodup)(hiN:X.N[i]? = Γ y)(hy:X.env.kindOf y=Γ .local)(S:CompSc X scope cl Fr Tg)(hi:PI X tg iter wi)
  (hg:∀C s H fp,PG (cxC X scope cl (Fr.map (·.1)++Tg) C s H fp) tg g) (ht:∀C s H fp,PTs (cxC X scope cl (Fr.map (·.1)++Tg) C s H fp) ifs tt)
  (he:∀C s H fp,PE (cxC X scope cl (Fr.map (·.1)++Tg) C s H fp) elt te)
  (hsw:swapsWith (.ListComp elt [⟨tg,iter,ifs,0⟩] scope pos) (Γ (.Name y py)) spos.line X.env=pure Δ) (hs:∀x,foldedSetIterable iter X.env x=pure x:=by intro _;rfl) :
  PS X (.Assign [.Name y py] (.ListComp elt [⟨tg,iter,ifs,0⟩] scope pos) spos) (fun D σ H=>qE wi (stC Fr Tg) g tt te σ H fun v H'=>D.nx (σ.set i (Γ v)) H'):=by
 intro pins s σ H D I h;rw[exec_Assign_Name_used _ _ _ _ hsw];refine i_ (wpAny_standAt (i_ ?_));show Ι _ X.A (do let _ <- comprehension (.ListComp elt [⟨tg,iter,ifs,0⟩] scope pos) scope X.env _ (newList []) Θ (eval iter X.env) (Γ (assign (.Name y py) X.env))) _ _ s
 refine i_ (thn (wpAny_comprehension_free (use:=Γ (assign (.Name y py) X.env)) (Q:=fun _ s'=>SP X pins D .next s') rfl hs S.clos S.kind S.loc
  (thn (hi pins s σ H _ I h) fun xv s1 h1=>thn h1 fun itv s2 h2=>?_)) fun _ s' hq=>v_ (v_ hq))
 obtain⟨it,fp,tn,J,H2,rfl,I2,T,st2,f2,q⟩:=h2;refine kC (Q:=fun v H'=>D.nx (σ.set i (Γ v)) H') (XE:=fun _ _ _ _ _ _=>False) (RR:=fun acc V=>compPost (Κ X.prog X.w) X.A X.xe (Γ (assign (.Name y py) X.env)) (fun _ s'=>SP X pins D .next s') acc V.locals) hc S hg ht he I2 T st2 f2 q ?_ fun _ _ _ _ _ _ _ z=>z.elim;intro D' C s' H' ⟨m,hn⟩ I' F' q' V hV _;subst hV;obtain⟨f0,f1,f2,f3,f4,f5⟩:=F';show Ι _ X.A (assign (.Name y py) X.env (.ref D')) _ _ _;refine wpAny_assign_Name (lM I' hN hiN (.inl hy) (show RelV (.ref D') (.ref D') from rfl) (fun s'' I'' ⟨a,sb,ha⟩=>?_) (.inr hy));have hCa:V.locals≠a:=by
  rcases ha with rfl|ha
  ·exact f1
  ·exact fun z=>f4 y a ha z.symm
 refine⟨m,hn.sameBut sb hCa,fun h' sb'=>⟨_,H',I''.turned (t':=s''.toks) (fun b o hb e=>(sb'.2 b hb).trans e) f0 f1 f3 f4 f5,q'⟩⟩
end
open PySem.SeqAt
section
variable {X:Cx}
theorem oE {x:Str}{n:Int}(h0 : -16000<=n)(h1:n<=16000)(hx:x.length<=1000):MulOk x n:=by
 refine⟨?_,fun hn _=>?_,fun hn _=>?_⟩
 ·rw[Bool.or_eq_false_iff];exact⟨p_ (by omega),p_ (by omega)⟩
 ·have:(1000:Int)<=(2 ^ 63 - 1) / n:=Int.le_ediv_of_mul_le (by omega) (by omega);omega
 ·have:x.length*n.toNat<=1000*16000:=Nat.mul_le_mul hx (by omega);unfold Builtin.Str.tooLong;exact p_ (by rw[sizeLine_eq];omega)
theorem pO:OpR X (binaryOp .Mult) (fun x y H Q=>∃i j,x=.str i/\y=.int j/\-16000<=j/\j<=16000/\i.length<=1000/\Q (.str (Txt.mul i j)) H):=by intro pins s σ H x y v u Q I rx ry h;obtain⟨i,j,rfl,rfl,h0,h1,hz,q⟩:=h;obtain⟨t,rfl⟩:=rx;obtain⟨t',rfl⟩:=ry;exact SB.mul (oE h0 h1 hz) fun t' tk=>⟨.str (Txt.mul i j),H,I.tok _,⟨_,rfl⟩,q⟩
noncomputable def ig (z:Str):List V:=z.cps.toList.map fun c=>.str ⟨#[c]⟩
theorem kD {z:Str}{acc':Array Φ}(hacc:ItemsOf (SignAt z) acc' z.cps.size):Vals (ig z) acc'.toList:=by
 have hl:acc'.toList.length=z.cps.toList.length:=by rw[Array.length_toList,Array.length_toList,hacc.1]
 have key:∀(cs:List Nat) (vs:List Φ),vs.length=cs.length->(∀(i:Nat) (v:Φ),vs[i]? = Γ v->∃c u,cs[i]? = Γ c/\v=Value.str ⟨#[c]⟩ u)->Vals (cs.map fun c=>V.str ⟨#[c]⟩) vs:=by
  intro cs
  induction cs with
  |nil=>
   intro vs hl _
   induction vs using zL with
   |nil=>exact .nil
   |cons _ _=>cases hl
  |cons c cs ih=>
   intro vs hl hv
   induction vs using zL with
   |nil=>cases hl
   |cons v vs=>
    obtain⟨c',u,e1,e2⟩:=hv 0 v rfl;have e1':c=c':=by simpa using e1
    subst e1' e2;exact .cons ⟨u,rfl⟩ (ih vs (by simpa using hl) fun i w hw=>by simpa using hv (i+1) w (by simpa using hw))
 refine key _ _ hl fun i v hv=>?_;obtain⟨c,u,e1,e2⟩:=hacc.2 i v (by rw[<- Array.getElem?_toList];exact hv);exact⟨c,u,by rw[Array.getElem?_toList];exact e1,e2⟩
theorem iZ (hc:X.calm=Δ):gK X (.type "list") (fun xs H Q=>∃z:Str,xs=[.str z]/\z.length<=Ε/\∀l,H l=Ξ->Q (.ref l) (upd H l (.lst (ig z)))):=by intro pins s σ H xs us Q I r h;obtain⟨z,rfl,hz,q⟩:=h;obtain⟨u,rfl,t,rfl⟩:=vals1 r;refine call_list_str (show X.A.handled=Ξ from I.ok.hd hc) z t (fun h' tk acc' c' kp e hacc=>?_) hz;have rv:=kD hacc;exact⟨.ref _,_,I.laid (t':=tk) kp (n_ _) (show fP X.prog X.w _ h' _ (.lst (ig z)) from⟨by unfold ig;simpa[Str.length] using hz,acc'.toList,c',rv,by simpa using e⟩),rfl,q _ (I.hok.fresh (n_ _))⟩
theorem kE (hc:X.calm=Δ):gK X (.type "tuple") (fun xs H Q=>∃z:Str,xs=[.str z]/\z.length<=Ε/\∀l,H l=Ξ->Q (.ref l) (upd H l (.tup (ig z)))):=by intro pins s σ H xs us Q I r h;obtain⟨z,rfl,hz,q⟩:=h;obtain⟨u,rfl,t,rfl⟩:=vals1 r;refine call_tuple_str (hsz:=hz) (show X.A.handled=Ξ from I.ok.hd hc) z t (fun h' tk acc kp hacc=>?_);have rv:=kD hacc;have I1:Inv X pins σ H {s with heap:=h',toks:=tk}:=I.kept (t':=tk) kp;exact⟨.ref _,_,I1.laid (t':=tk) (fun b o e=>w_ _ e) (n_ _) (show fP X.prog X.w _ _ _ (.tup (ig z)) from⟨by unfold ig;simpa[Str.length] using hz,acc.toList,rv,by simpa using IsTup.new h' acc⟩),rfl,q _ (I1.hok.fresh (n_ _))⟩
end
open PySem.W
section
variable {κ:Type} [DecidableEq κ]
noncomputable def jS (kvs:List (κ×V))(k:κ):Option V:=(kvs.find? fun kv=>decide (kv.1=k)).map (·.2)
noncomputable def putK (kvs:List (κ×V))(k:κ)(v:V):List (κ×V):=
 if(kvs.any fun kv=>decide (kv.1=k))=Δ then kvs.map (fun kv=>if kv.1=k then(kv.1,v) else kv) else kvs++[(k,v)]
theorem kF {p:κ×V}{r:List (κ×V)}{k:κ}(e:p.1=k):jS (p::r) k=Γ p.2:=by simp[jS,List.find?_cons,e]
theorem kG {p:κ×V}{r:List (κ×V)}{k:κ}(e:¬p.1=k):jS (p::r) k=jS r k:=by simp[jS,List.find?_cons,e]
theorem oF (k:κ):∀kvs:List (κ×V),(kvs.any fun kv=>decide (kv.1=k))=(jS kvs k).isSome
 |[]=>rfl
 |p::r=>by
  rw[List.any_cons];by_cases e:p.1=k
  ·simp only[kF e,s_ e,Bool.true_or,Option.isSome_some]
  ·rw[kG e,p_ e,Bool.false_or];exact oF k r
theorem iL (kvs:List (κ×V))(k:κ)(v:V):(putK kvs k v).length<=kvs.length+1:=by
 unfold putK;split
 ·rw[f_];omega
 ·rw[t_,List.length_cons,List.length_nil];omega
theorem lF.isSome_eq {o:Option V}{u:Option Φ}(r:lF o u):o.isSome=u.isSome:=by
 cases o with
 |none=>cases u with
  |none=>rfl
  |some _=>exact(show False from r).elim
 |some _=>cases u with
  |none=>exact(show False from r).elim
  |some _=>rfl
theorem KV.val {kvs:List (κ×V)}{vs:List (κ×Φ)}(r:KV kvs vs)(k:κ):lF (jS kvs k) (valueAt vs k):=by
 unfold KV at r
 induction r with
 |nil=>exact True.intro
 | @cons p q ps qs h t ih=>
  obtain⟨h1,h2⟩:=h;by_cases e:p.1=k
  ·have e':q.1=k:=h1.symm.trans e;have b:valueAt (q::qs) k=Γ q.2:=by simp[valueAt,List.find?_cons,e']
   rw[kF e,b];exact h2
  ·have e':¬q.1=k:=fun z=>e (h1.trans z);have b:valueAt (q::qs) k=valueAt qs k:=by simp[valueAt,List.find?_cons,e']
   rw[kG e,b];exact ih
theorem KV.any {kvs:List (κ×V)}{vs:List (κ×Φ)}(r:KV kvs vs)(k:κ):(kvs.any fun kv=>decide (kv.1=k))=vs.any fun kv=>decide (kv.1=k):=by
 unfold KV at r
 induction r with
 |nil=>rfl
 |cons h t ih=>rw[List.any_cons,List.any_cons,ih,h.1]
theorem KV.repl {kvs:List (κ×V)}{vs:List (κ×Φ)}(r:KV kvs vs)(k:κ){y:V}{u:Φ}(ry:RelV y u) :
  KV (kvs.map fun kv=>if kv.1=k then(kv.1,y) else kv) (vs.map fun kv=>if kv.1=k then(kv.1,u) else kv):=by
 unfold KV at r ⊢
 induction r with
 |nil=>exact .nil
 | @cons p q ps qs h t ih=>
  rw[a_,a_];refine .cons ?_ ih;obtain⟨h1,h2⟩:=h;by_cases e:p.1=k
  ·rw[c_ e,c_ (h1.symm.trans e)];exact⟨h1,ry⟩
  ·rw[b_ e,b_ (fun z=>e (h1.trans z))];exact⟨h1,h2⟩
theorem KV.put {kvs:List (κ×V)}{vs:List (κ×Φ)}(r:KV kvs vs)(k:κ){y:V}{u:Φ}(ry:RelV y u):KV (putK kvs k y) (stored vs k u):=by
 unfold putK stored;rw[r.any k];by_cases e:(vs.any fun kv=>decide (kv.1=k))=Δ
 ·rw[c_ e,c_ e];exact r.repl k ry
 ·rw[b_ e,b_ e];exact Paired.snoc r ⟨rfl,ry⟩
theorem KV.length {kvs:List (κ×V)}{vs:List (κ×Φ)}(r:KV kvs vs):kvs.length=vs.length:=Paired.length r
end
theorem lY {P:Β}{w:Α}{k:Key}{u:Φ}(r:RelV (kV k) u):(fA P w).is k u=Δ:=by
 cases k with
 |inl i=>obtain⟨t,e⟩:=(show ∃t,u=Value.int i t from r);subst e;exact om P w i t
 |inr x=>obtain⟨t,e⟩:=(show ∃t,u=Value.str x t from r);subst e;exact oq P w x t
theorem lZ {P:Β}{w:Α}:∀ {ks:List Key}{us:List Φ},Vals (ks.map kV) us->ItemsAre (fA P w) ks us
 |[],_,r=>by rw[List.map_nil]at r;cases r;exact .nil
 |k::ks,_,r=>by
  rw[a_]at r;cases r with
  |cons h t=>exact .cons (lY h) (lZ t)
abbrev KT (H:Hp):List (List Key×V)->List (List Key×Ψ×Φ)->Prop:=Paired fun p q=>p.1=q.1/\H q.2.1=Γ (.tup (p.1.map kV))/\RelV p.2 q.2.2
theorem KT.val {H:Hp}{kvs:List (List Key×V)}{xs:List (List Key×Ψ×Φ)}(r:KT H kvs xs)(k:List Key):lF (jS kvs k) ((atKey xs k).map (·.2)):=by
 induction r with
 |nil=>exact True.intro
 | @cons p q ps qs h t ih=>
  obtain⟨h1,_,h2⟩:=h;by_cases e:p.1=k
  ·have e':q.1=k:=h1.symm.trans e;have b:atKey (q::qs) k=Γ q.2:=by simp[atKey,List.find?_cons,e']
   rw[kF e,b];exact h2
  ·have e':¬q.1=k:=fun z=>e (h1.trans z);have b:atKey (q::qs) k=atKey qs k:=by simp[atKey,List.find?_cons,e']
   rw[kG e,b];exact ih
theorem KT.repl {H:Hp}{kvs:List (List Key×V)}{xs:List (List Key×Ψ×Φ)}(r:KT H kvs xs)(k:List Key){y:V}{u:Φ}(ry:RelV y u) :
  KT H (kvs.map fun kv=>if kv.1=k then(kv.1,y) else kv) (xs.map (putAt k u)):=by
 induction r with
 |nil=>exact .nil
 | @cons p q ps qs h t ih=>
  rw[a_,a_];refine .cons ?_ ih;obtain⟨h1,h2,h3⟩:=h;unfold putAt;by_cases e:p.1=k
  ·rw[c_ e,c_ (h1.symm.trans e)];exact⟨h1,h2,ry⟩
  ·rw[b_ e,b_ (fun z=>e (h1.trans z))];exact⟨h1,h2,h3⟩
theorem KT.put {H:Hp}{kvs:List (List Key×V)}{xs:List (List Key×Ψ×Φ)}(r:KT H kvs xs)(k:List Key){b:Ψ}{y:V}{u:Φ}(hb:H b=Γ (.tup (k.map kV)))(ry:RelV y u) :
  KT H (putK kvs k y) (storedH xs k b u):=by
 have e:(kvs.any fun kv=>decide (kv.1=k))=(atKey xs k).isSome:=by rw[oF,(r.val k).isSome_eq,Option.isSome_map]
 unfold putK storedH;rw[e];by_cases q:(atKey xs k).isSome=Δ
 ·rw[c_ q,c_ q];exact r.repl k ry
 ·rw[b_ q,b_ q];exact Paired.snoc r ⟨rfl,hb,ry⟩
theorem KT.keeps {H H':Hp}{kvs:List (List Key×V)}{xs:List (List Key×Ψ×Φ)}(r:KT H kvs xs)(ht:∀b ys,H b=Γ (.tup ys)->H' b=Γ (.tup ys)):KT H' kvs xs:=
 Paired.mapP r fun _ _ z=>⟨z.1,ht _ _ z.2.1,z.2.2⟩
section
variable {P:Β}{w:Α}{H:Hp}{h:Heap}{a:Ψ}
theorem yF {u:HO}(ok:HOk P w H h)(e:Rd H a u):fP P w H h a u:=e.ok ok
theorem jw {kvs:List (Key×V)}(ok:HOk P w H h)(e:Rd H a (.dK kvs)):kvs.length<=Ε/\(a == sysModules)=Θ/\∃vs,KV kvs vs/\h.DictOf (fA P w) a vs:=
 show fP P w H h a (.dK kvs) from yF ok e
theorem yG {kvs:List (Key×V)}(ok:HOk P w H h)(e:H a=Γ (.dK kvs)):kvs.length<=Ε/\(a == sysModules)=Θ/\∃vs,KV kvs vs/\h.DictOf (fA P w) a vs:=jw ok (.inl e)
theorem kH {ks:List Key}(ok:HOk P w H h)(e:H a=Γ (.tup (ks.map kV))):(tupleKind (fA P w)).is h ks a:=by
 obtain⟨_,its,r,o,h1,h2,n,h3⟩:=(show fP P w H h a (.tup (ks.map kV)) from ok a _ e)
 exact⟨o,its.toArray,n,h1,h2,h3,by simpa using lZ r⟩
theorem l0 {kvs:List (List Key×V)}(ok:HOk P w H h)(e:Rd H a (.dT kvs)):kvs.length<=Ε/\(a == sysModules)=Θ/\
  ∃xs,KT H kvs xs/\h.DictOfH (tupleKind (fA P w)) a xs:=by
 obtain⟨z,y,xs,r,o,es,ep,h1,h2,h3,h4,h5⟩:=(show fP P w H h a (.dT kvs) from yF ok e)
 refine⟨z,y,xs,r,o,es,ep,h1,h2,h3,h4,fun x hx=>?_,h5⟩;have all:∀ {l:List (List Key×V)}{m:List (List Key×Ψ×Φ)},KT H l m->∀x∈m,(tupleKind (fA P w)).is h x.1 x.2.1:=by
  intro l m q
  induction q with
  |nil=>intro x hx;exact nomatch hx
  | @cons p q ps qs hq t ih=>
   intro x hx;rcases j_.mp hx with e|hx
   ·subst e;exact kH ok (by rw[<- hq.1];exact hq.2.1)
   ·exact ih x hx
 exact all r x hx
theorem Cg {kvs:List (List Key×V)}(ok:HOk P w H h)(e:H a=Γ (.dT kvs)):kvs.length<=Ε/\(a == sysModules)=Θ/\
  ∃xs,KT H kvs xs/\h.DictOfH (tupleKind (fA P w)) a xs:=l0 ok (.inl e)
end
def ng (H:Hp)(a:Ψ)(y:V)(r:Option V):Prop:=
 (∃kvs k,Rd H a (.dK kvs)/\y=kV k/\r=jS kvs k)∨∃kvs k b,Rd H a (.dT kvs)/\y=.ref b/\H b=Γ (.tup (k.map kV))/\r=jS kvs k
def wL (H:Hp)(a:Ψ)(y v:V)(H':Hp):Prop:=
 (∃kvs k,H a=Γ (.dK kvs)/\y=kV k/\kvs.length < Ε/\H'=upd H a (.dK (putK kvs k v)))∨
 ∃kvs k b,H a=Γ (.dT kvs)/\y=.ref b/\H b=Γ (.tup (k.map kV))/\kvs.length < Ε/\H'=upd H a (.dT (putK kvs k v))
section
variable {X:Cx}{pins:List (Ψ×Obj)}{σ:St}{H:Hp}{s:Ω}{a:Ψ}{y v:V}{u r:Φ}{o:Option V}{A:Η}{E:Φ->Ω->Prop}
theorem Inv.big (I:Inv X pins σ H s):sysModules < s.heap.objs.size:=by have h:Ζ < s.heap.objs.size:=(I.mod.glob.keeps I.bk).lt;exact Nat.lt_trans (by decide) h
theorem sG {Q:Φ->Ω->Prop}(hu:A.units+1 < cLine)(I:Inv X pins σ H s)(g:ng H a y (Γ v))(ry:RelV y u)(h:∀w' s',Inv X pins σ H s'->RelV v w'->Q w' s') :
  Ι (Κ X.prog X.w) A (getItem (.ref a) u) Q E s:=by
 rcases g with⟨kvs,k,e,ey,l⟩|⟨kvs,k,b,e,ey,eb,l⟩
 ·subst ey;obtain⟨z,hd,vs,rel,dd⟩:=jw I.hok e;obtain⟨w',hw,rw'⟩:=lF.some_of (v:=v) (o:=valueAt vs k) (by rw[l];exact rel.val k);exact wpAny_getItem_of (lY ry) dd.mapOf hw (h w' _ (I.tok _) rw')
 ·subst ey;cases(show u=η b from ry);obtain⟨z,hd,xs,rel,dd⟩:=l0 I.hok e;obtain⟨w',hw,rw'⟩:=lF.some_of (v:=v) (o:=(atKey xs k).map (·.2)) (by rw[l];exact rel.val k);obtain⟨p,hp,hp2⟩:=E4.mp hw;refine wpAny_getItem_heap (tupleKind_room_in1 hu) (kH I.hok eb) dd hp ?_;rw[hp2];exact h w' _ (I.tok _) rw'
theorem El {Q:Φ->Ω->Prop}(hu:A.units+1 < cLine)(I:Inv X pins σ H s)(g:ng H a y o)(ry:RelV y u)(h:∀s',Inv X pins σ H s'->Q (.bool o.isSome) s') :
  Ι (Κ X.prog X.w) A (compareOp .In u (.ref a)) Q E s:=by
 rcases g with⟨kvs,k,e,ey,l⟩|⟨kvs,k,b,e,ey,eb,l⟩
 ·subst ey;obtain⟨z,hd,vs,rel,dd⟩:=jw I.hok e;refine wpAny_in_of (lY ry) hd dd.mapOf ?_;rw[<- (rel.val k).isSome_eq,<- l];exact h _ (I.tok _)
 ·subst ey;cases(show u=η b from ry);obtain⟨z,hd,xs,rel,dd⟩:=l0 I.hok e;refine wpAny_in_heap (tupleKind_room_in1 hu) (kH I.hok eb) hd dd ?_;have q:=(rel.val k).isSome_eq;rw[Option.isSome_map]at q;rw[<- q,<- l];exact h _ (I.tok _)
theorem wM {Q:Φ->Ω->Prop}(hu:A.units+1 < cLine)(I:Inv X pins σ H s)(g:ng H a y o)(ry:RelV y u)(h:∀s',Inv X pins σ H s'->Q (.bool (!o.isSome)) s') :
  Ι (Κ X.prog X.w) A (compareOp .NotIn u (.ref a)) Q E s:=by
 rcases g with⟨kvs,k,e,ey,l⟩|⟨kvs,k,b,e,ey,eb,l⟩
 ·subst ey;obtain⟨z,hd,vs,rel,dd⟩:=jw I.hok e;refine wpAny_notIn_of (lY ry) hd dd.mapOf ?_;rw[<- (rel.val k).isSome_eq,<- l];exact h _ (I.tok _)
 ·subst ey;cases(show u=η b from ry);obtain⟨z,hd,xs,rel,dd⟩:=l0 I.hok e;refine wpAny_notIn_heap (tupleKind_room_in1 hu) (kH I.hok eb) hd dd ?_;have q:=(rel.val k).isSome_eq;rw[Option.isSome_map]at q;rw[<- q,<- l];exact h _ (I.tok _)
theorem nh {h':Heap}{t':Nat}{ob:HO}(I:Inv X pins σ H s)(mu:Mut (H a))(hs:Heap.SameBut a s.heap h')(he:∃q,h'.get? a=Γ q)(new:fP X.prog X.w (upd H a ob) h' a ob) :
  Inv X pins σ (upd H a ob) {s with heap:=h',toks:=t'}:=
 I.write (x:=a) (e:=a) mu (.inl rfl) (fun b q hb z=>(hs.2 b hb).trans z) he new
theorem pP {P:Β}{w:Α}{H':Hp}{h':Heap}{kvs:List (Key×V)}{vs:List (Key×Φ)}(z:kvs.length<=Ε)(hd:(a == sysModules)=Θ)(rel:KV kvs vs)(dd:h'.DictOf (fA P w) a vs) :
  fP P w H' h' a (.dK kvs):=⟨z,hd,vs,rel,dd⟩
theorem l9 {H':Hp}{Q:Unit->Ω->Prop}(hu:A.units+1 < cLine)(I:Inv X pins σ H s)(g:wL H a y v H')(ry:RelV y u)(rv:RelV v r)(h:∀s',Inv X pins σ H' s'->Q () s') :
  Ι (Κ X.prog X.w) A (setItem (.ref a) u r) Q E s:=by
 rcases g with⟨kvs,k,e,ey,l,eH⟩|⟨kvs,k,b,e,ey,eb,l,eH⟩
 ·subst ey eH;obtain⟨z,hd,vs,rel,dd⟩:=yG I.hok e;have hz:vs.length<=Ε:=by rw[<- rel.length];exact z
  have hl:(putK kvs k v).length<=Ε:=by have:=iL kvs k v;omega
  refine wpAny_setItem_pairs (hsz:=hz) (lY ry) dd fun h' dd' hs=>h _ ?_;have he:∃q,h'.get? a=Γ q:=let ⟨q,_,_,hq,_⟩:=dd';⟨q,hq⟩;exact nh I (by rw[e];exact True.intro) hs he (pP hl hd (rel.put k rv) dd')
 ·subst ey eH;cases(show u=η b from ry);obtain⟨z,hd,xs,rel,dd⟩:=Cg I.hok e;have hz:xs.length<=Ε:=by rw[<- Paired.length rel];exact z
  have hl:(putK kvs k v).length<=Ε:=by have:=iL kvs k v;omega
  refine wpAny_setItem_heap (hsz:=hz) (tupleKind_room_in1 hu) (kH I.hok eb) dd fun h' dd' hs=>h _ ?_;obtain⟨q,es,ep,hq,h2,h3,h4,_,h5⟩:=dd';refine nh I (by rw[e];exact True.intro) hs ⟨q,hq⟩ ⟨hl,hd,_,(rel.put k eb rv).keeps fun c ys ec=>?_,q,es,ep,hq,h2,h3,h4,h5⟩;rw[dM (BZ ec e (fun z=>nomatch z))];exact ec
end
def Ci (i:Expr):Prop:=∀ov iv,subscripted i Θ ov iv=operate [ov,iv] (getItem ov iv)
theorem wN {prog:Β}{w:Α}{A:Η}{E:Φ->Ω->Prop}{s:Ω}{env:Env}{value slice:Expr}{pos:Pos}{T id:String}{Q:Φ->Ω->Prop}
  (hl:typeLookup (.type T) "__getitem__" = pure (Γ (.builtin id))) (hs:Ci slice)
  (h:Ι (Κ prog w) A (eval value env) (fun o s₁=>Ι (Κ prog w) A (eval slice env) (fun i s₂=>s₂.TypeIs o T/\Ι (Κ prog w) A (getItem o i) Q E s₂) E s₁) E s) :
  Ι (Κ prog w) A (eval (.Subscript value slice pos) env) Q E s:=by
 refine Subscript_ (wpAny_mono h (fun o s₁ h₁=>wpAny_mono h₁ (fun i s₂ h₂=>?_) fun _ _ x=>x) fun _ _ x=>x);obtain⟨hT,h₂⟩:=h₂;unfold subscriptTail;refine i_ ?_;rw[getitemInPython_of_ne hT.not_modules];refine i_ (wpAny_specialOf hT hl ?_);have fin:Ι (Κ prog w) A (subscripted slice Θ o i) (fun r s₃=>Ι (Κ prog w) A (letTemporaryGo value o r >>= fun _=>pure r) Q E s₃) E s₂:=by rw[hs o i];exact wpAny_operating (wpAny_mono h₂ (fun r s₃ h₃=>i_ (wpAny_letTemporaryGo (v_ h₃))) fun _ _ x=>x)
 first
  | exact v_ (i_ fin)
  | exact i_ (v_ (i_ fin))
  | exact i_ fin
theorem oG {X:Cx}{pins:List (Ψ×Obj)}{σ:St}{H:Hp}{s:Ω}{a:Ψ}{y:V}{o:Option V}(I:Inv X pins σ H s)(g:ng H a y o):s.TypeIs (.ref a) "dict":=by
 rcases g with⟨kvs,k,e,_,_⟩|⟨kvs,k,b,e,_,_,_⟩
 ·obtain⟨_,_,vs,_,dd⟩:=jw I.hok e;exact dd.typeIs
 ·obtain⟨_,_,xs,_,dd⟩:=l0 I.hok e;exact dd.typeIs
def Cj (td ty:TE):TE:=fun σ H Q=>td σ H fun x H1=>ty σ H1 fun y H2=>∃a v,x=.ref a/\ng H2 a y (Γ v)/\Q v H2
def Em (ty td:TE):TE:=fun σ H Q=>ty σ H fun y H1=>td σ H1 fun x H2=>∃a o,x=.ref a/\ng H2 a y o/\Q (.bl o.isSome) H2
def wO (ty td:TE):TE:=fun σ H Q=>ty σ H fun y H1=>td σ H1 fun x H2=>∃a o,x=.ref a/\ng H2 a y o/\Q (.bl (!o.isSome)) H2
def Ck (td ty tv:TE):TS:=fun D σ H=>tv σ H fun v H1=>td σ H1 fun x H2=>ty σ H2 fun y H3=>∃a H4,x=.ref a/\wL H3 a y v H4/\D.nx σ H4
section
variable {X:Cx}{o i e value:Expr}{pos pos' tpos:Pos}{td ty tv:TE}
theorem wQ (hu:X.A.units+1 < cLine)(ho:PE X o td)(hi:PE X i ty)(hs:Ci i):PE X (.Subscript o i pos) (Cj td ty):=by intro pins s σ H Q I h;refine wN PySem.F.slot_dict_getitem.lookup hs (thn (ho pins s σ H _ I h) fun u s1 ⟨x,H1,I1,rx,q1⟩=>thn (hi pins s1 σ H1 _ I1 q1) fun iv s2 ⟨y,H2,I2,ry,a,v,ex,g,q2⟩=>?_);subst ex;obtain rfl:u=η a:=rx;exact⟨oG I2 g,sG hu I2 g ry fun w' s3 I3 rw'=>⟨v,H2,I3,rw',q2⟩⟩
theorem tX (hu:X.A.units+1 < cLine)(hi:PE X i ty)(ho:PE X o td):PC X .In i o (Em ty td):=by intro pins s σ H Q I h;refine thn (hi pins s σ H _ I h) fun iv s1 ⟨y,H1,I1,ry,q1⟩=>thn (ho pins s1 σ H1 _ I1 q1) fun u s2 ⟨x,H2,I2,rx,a,ov,ex,g,q2⟩=>?_;subst ex;obtain rfl:u=η a:=rx;exact El hu I2 g ry fun s3 I3=>⟨.bl ov.isSome,H2,I3,rfl,q2⟩
theorem md (hu:X.A.units+1 < cLine)(hi:PE X i ty)(ho:PE X o td):PC X .NotIn i o (wO ty td):=by intro pins s σ H Q I h;refine thn (hi pins s σ H _ I h) fun iv s1 ⟨y,H1,I1,ry,q1⟩=>thn (ho pins s1 σ H1 _ I1 q1) fun u s2 ⟨x,H2,I2,rx,a,ov,ex,g,q2⟩=>?_;subst ex;obtain rfl:u=η a:=rx;exact wM hu I2 g ry fun s3 I3=>⟨.bl (!ov.isSome),H2,I3,rfl,q2⟩
theorem qF (hu:X.A.units+1 < cLine)(ho:PE X o td)(hi:PE X i ty)(hv:PE X value tv)(hs:swapsWith value (Γ (.Subscript o i pos')) pos.line X.env=pure Θ) :
  PS X (.Assign [.Subscript o i pos'] value pos) (Ck td ty tv):=by
 intro pins s σ H D I h;refine wpAny_Assign_Subscript (thn (hv pins s σ H _ I h) fun r s1 ⟨v,H1,I1,rv,q1⟩=>thn (ho pins s1 σ H1 _ I1 q1) fun u s2 ⟨x,H2,I2,rx,q2⟩=>thn (hi pins s2 σ H2 _ I2 q2) fun iv s3 ⟨y,H3,I3,ry,a,H4,ex,g,q3⟩=>?_) hs;subst ex;obtain rfl:u=η a:=rx;exact l9 hu I3 g ry rv fun s4 I4=>⟨σ,H4,I4,q3⟩
end
theorem tY {P:Β}{w:Α}{H:Hp}(h:Heap)(hb:sysModules < h.objs.size):fP P w H (h.push {cls:=.type "dict",data:=.dict #[]}) h.objs.size (.dK []):=
 ⟨ET _,beq_eq_false_iff_ne.mpr (Ne.symm (x_ hb)),[],.nil,Heap.DictOf.new h⟩
def Av:TE:=fun _ H Q=>∀p,H p=Ξ->Q (.ref p) (upd H p (.dK []))
section
variable {X:Cx}{pos:Pos}
theorem oH:PE X (.Dict [] [] pos) Av:=fun pins s σ H Q I h=>
 wpAny_Dict_empty ⟨.ref s.heap.objs.size,_,I.laid (a:=s.heap.objs.size) (o:=.dK []) (t':=s.toks) (fun _ _ q=>w_ _ q) (n_ _) (tY s.heap I.big),rfl,h _ (I.hok.fresh (n_ _))⟩
end
noncomputable def gX (kvs more:List (Key×V)):List (Key×V):=more.foldl (fun acc kv=>putK acc kv.1 kv.2) kvs
theorem KV.merge:∀ {more:List (Key×V)}{rs:List (Key×Φ)}{kvs:List (Key×V)}{vs:List (Key×Φ)},KV more rs->KV kvs vs->KV (gX kvs more) (merged vs rs):=by
 intro more rs kvs vs r;unfold KV at r
 induction r generalizing kvs vs with
 |nil=>intro q;exact q
 | @cons p q ps qs h t ih=>
  intro r0;have e:KV (putK kvs p.1 p.2) (stored vs q.1 q.2):=by have:=r0.put p.1 h.2;rw[<- h.1];exact this
  exact ih e
theorem ij:∀(more kvs:List (Key×V)),(gX kvs more).length<=kvs.length+more.length
 |[],kvs=>by show kvs.length<=kvs.length+0;omega
 |p::r,kvs=>by have h1:=ij r (putK kvs p.1 p.2);have h2:=iL kvs p.1 p.2;show(gX (putK kvs p.1 p.2) r).length<=_;rw[List.length_cons];omega
def IsD (H:Hp)(a:Ψ):Prop:=(∃kvs,Rd H a (.dK kvs))∨∃kvs,Rd H a (.dT kvs)
theorem t4 {X:Cx}{pins:List (Ψ×Obj)}{σ:St}{H:Hp}{s:Ω}{a:Ψ}(I:Inv X pins σ H s)(d:IsD H a) :
  s.TypeIs (.ref a) "dict"/\(∀b,η a=.ref b->∃ob,s.heap.get? b=Γ ob/\ob.dict=Ξ)/\(a == sysModules)=Θ:=by
 rcases d with⟨kvs,e⟩|⟨kvs,e⟩
 ·obtain⟨_,hd,vs,_,dd⟩:=jw I.hok e;refine⟨dd.typeIs,fun b q=>?_,hd⟩;cases q;obtain⟨ob,_,_,h1,h2,_⟩:=dd;exact⟨ob,h1,h2.2.1⟩
 ·obtain⟨_,hd,xs,_,dd⟩:=l0 I.hok e;refine⟨dd.typeIs,fun b q=>?_,hd⟩;cases q;obtain⟨ob,_,_,h1,h2,_⟩:=dd;exact⟨ob,h1,h2.2.1⟩
open PySem.Builtin PySem.Builtin.Str
end L2
namespace L2.Zp
open PySem
end L2.Zp
namespace L2
open PySem PySem.Spec PyProof.Rows
end L2
namespace L2.Zp
open PySem
end L2.Zp
namespace L2
open PySem PySem.Spec PyProof.Rows
end L2
namespace L2.Se
open PySem
open PyProof.Rows
section
variable {prog:Β}{w:Α}{A:Η}{E:Φ->Ω->Prop}{s:Ω}
instance:Inhabited Str:=⟨⟨#[]⟩⟩
end
end L2.Se
namespace L2.Sv
open PySem PyProof.Rows
end L2.Sv
namespace L2
open PySem PySem.Spec PyProof.Rows PySem.SeqAt
end L2
namespace L2.Sx
open PySem PyProof.Rows
noncomputable def dd (σ:List Str)(v:Str):List Str:=if σ.any (· == v) then σ else σ++[v]
theorem Aw (σ:List Str)(v k:Str):(dd σ v).any (· == k)=(σ.any (· == k)||decide (k=v)):=by
 unfold dd;by_cases h:σ.any (· == v)=Δ
 ·rw[c_ h];by_cases e:k=v
  ·subst e;rw[h];simp
  ·rw[p_ e,Bool.or_false]
 ·rw[b_ h,List.any_append];by_cases e:k=v
  ·subst e;simp
  ·have hb:(v == k)=Θ:=by simpa using fun z:v=k=>e z.symm
   simp[hb,e]
theorem t5 (σ:List Str)(v:Str):(dd σ v).length=if σ.any (· == v)=Δ then σ.length else σ.length+1:=by
 unfold dd;by_cases h:σ.any (· == v)=Δ
 ·rw[c_ h,c_ h]
 ·rw[b_ h,b_ h,t_];rfl
theorem yI:∀(l σ:List Str),(l.foldl dd σ).length<=σ.length+l.length
 |[],σ=>n_ _
 |v::l,σ=>by have h:=yI l (dd σ v);have h2:=t5 σ v;rw[List.foldl_cons,List.length_cons];split at h2<;>omega
section
variable {prog:Β}{w:Α}{A:Η}{E:Φ->Ω->Prop}{s:Ω}{R:Result->Ω->Prop}{I:Ψ}{fp wr:List Ψ}{G:Array GenState->Array GenState->Prop}{n:Nat}{P:Nat->Φ->Prop}{St:Nat->Ω->Prop}
def SetS (prog:Β)(w:Α)(h:Heap)(a:Ψ)(σ:List Str):Prop:=h.SetOf (PySem.strKind prog w) a (fun k=>σ.any (· == k)) σ.length
theorem SetS.moved {h h':Heap}{a:Ψ}{σ:List Str}(hS:SetS prog w h a σ)(k:∀o,h.get? a=Γ o->h'.get? a=Γ o):SetS prog w h' a σ:=by obtain⟨o,es,ep,t,ho,D⟩:=hS;exact⟨o,es,ep,t,k o ho,D⟩
theorem isS (x:Str)(t:Tok):(PySem.strKind prog w).is x (.str x t)=Δ:=by show(x == x)=Δ;simp
theorem loop (W:WalksS prog w A.in1 I fp wr G n P St)(a:Ψ)(ha:a∉fp){ns:List Str}(hv:∀i v,P i v->∃t,v=.str (ns.getD i ⟨#[]⟩) t)(hn:ns.length=n)(hb:n+1 < scanBound) :
  ∀(k i:Nat) (s:Ω),n - i=k->i<=n->St i s->SetS prog w s.heap a ((ns.take i).foldl dd [])->
   (∀s',Moved (a::wr) G s s'->SetS prog w s'.heap a (ns.foldl dd [])->R (.ok (.ret .none)) s')->
   codeAny (Κ prog w) A (.builtin "set.update.loop" ⟨[.ref a,.ref I],[]⟩) R s:=by
 have haw:a∉wr:=fun z=>ha (W.sub _ z);have sub:∀b∈wr,b∈a::wr:=fun b z=>q_ _ z;intro k
 induction k with
 |zero=>
  intro i s hk hi hst hS hR;have e:i=n:=by omega
  subst e;rw[<- hn,List.take_length]at hS;refine codeAny_builtin F.entry_set_update_loop ?_;rw[Around.under_plainId F.plain_set_update_loop _];show Ι _ A.in1 (pyNext (.ref I) >>= _) _ _ s;exact i_ (W.done s _ _ hst fun s' hm=>show Ι _ A.in1 (ret Value.none) _ _ s' from v_ (hR s' (hm.mono sub) (hS.moved fun o e=>hm.heap a o haw e)))
 |succ k ih=>
  intro i s hk hi hst hS hR;have hlt:i < n:=by omega
  refine codeAny_builtin F.entry_set_update_loop ?_;rw[Around.under_plainId F.plain_set_update_loop _];show Ι _ A.in1 (pyNext (.ref I) >>= _) _ _ s;refine i_ (W.item i s _ _ hlt hst fun v s' hP hst' hm=>?_);obtain⟨t,rfl⟩:=hv i v hP;have hS1:SetS prog w s'.heap a ((ns.take i).foldl dd []):=hS.moved fun o e=>hm.heap a o haw e;show Ι _ A.in1 (holding [Value.str (ns.getD i ⟨#[]⟩) t] (setAdd a (.str (ns.getD i ⟨#[]⟩) t)) >>= _) _ _ s';unfold setAdd;refine i_ (ES (ES (i_ ((PySem.strKind prog w).pyHash (isS _ _) ?_))));have hlen:=yI (ns.take i) [];rw[EV,List.length_nil]at hlen;refine wpAny_setAddHashed_of (knd:=PySem.strKind prog w) (s:={s' with toks:=s'.toks+1}) (isS _ _) rfl hS1 (by omega) fun h' hsb hS2=>?_;have et:(ns.take (i+1)).foldl dd []=dd ((ns.take i).foldl dd []) (ns.getD i ⟨#[]⟩):=by
   have hi':i < ns.length:=by omega
   rw[List.take_succ,List.foldl_append,EK hi',EO,EK hi'];rfl
  have hS3:SetS prog w h' a ((ns.take (i+1)).foldl dd []):=by unfold SetS;rw[et];exact SetOf_congr hS2 (fun k'=>by rw[Aw]) (by rw[t5])
  refine v_ ⟨plainId_quiet F.plain_set_update_loop _,ih (i+1) _ (by omega) hlt (W.frame _ s' _ _ hst' (Nat.le_succ _) fun b hb o e=>?_) hS3 fun s'' hm'' hS''=>?_⟩
  ·rw[hsb.2 b fun z=>ha (z ▸ hb)];exact e
  ·refine hR s'' (Moved.trans W.gtrans ((hm.mono sub).then_heap (Nat.le_succ _) fun b o hb e=>?_) hm'') hS'';rw[hsb.2 b fun z=>hb (z ▸ EY)];exact e
noncomputable abbrev oN (led:Bool):Obj:={cls:=.type "set",dict:=Ξ,data:=.set #[] 0 (.fresh 0 0 led)}
theorem call_set {l:Ψ}{items:Array Φ}{ns:List Str}{Q:Φ->Ω->Prop}(hh:A.handled=Ξ)(hl:s.heap.IsList l items)(hi:∀(i:Nat)(v:Φ),items[i]? = Γ v->∃t,v=Value.str (ns.getD i ⟨#[]⟩) t)(hlen:ns.length=items.size)(hb:items.size+1 < scanBound)
  (h:∀(h':Heap) (tk:Nat),SetS prog w h' s.heap.objs.size (ns.foldl dd [])->(∀b o,b < s.heap.objs.size->s.heap.get? b=Γ o->h'.get? b=Γ o)->Q (.ref s.heap.objs.size) {s with heap:=h',toks:=tk}) :
  Ι (Κ prog w) A (call (.type "set") [.ref l]) Q E s:=by
 obtain⟨c,tl,mro⟩:=F.called_set.mro;have made:=F.called_set.made;have sub:=F.called_set.sub;refine wpAny_call (codeAny_of_tree (show Ι _ _ (callAny (.type "set") _) _ _ _ from v_ ⟨Code.quiet_builtin _ (by decide +kernel),codeAny_builtin F.entry_type_call ?_⟩));rw[Around.under_plain (weight_type_call_type "set" [.ref l] []) rfl];have n1:=F.called_set.notType;have n2:=F.called_set.canCreate;have n3:=F.typeCall_set_1 (.ref l)
 repeat (any_goals (first|assumption|wp_step))
 refine codeAny_mono (code_set_new_1 (.ref l) (E:=E) (Q₁:=fun obj s1=>∃led,obj=.ref s.heap.objs.size/\s1 = {s with heap:=s.heap.push (oN led)}) fun led=>⟨led,rfl,rfl⟩) fun r s1 hr=>?_;cases r with
 |error e=>exact hr
 |ok fl=>
  cases fl with
  |ret obj=>
   obtain⟨led,rfl,rfl⟩:=hr;have gS:(s.heap.push (oN led)).get? s.heap.objs.size=Γ (oN led):=EG _ rfl;have hT:Shared.TypeIs {s with heap:=s.heap.push (oN led)} (.ref s.heap.objs.size) "set":=⟨_,gS,rfl⟩
   have i1:=F.called_set.init.lookup;have i2:=F.called_set.init.bind (.ref s.heap.objs.size)
   repeat (any_goals (first|assumption|wp_step))
   refine codeAny_mono (codeAny_call_builtin (R:=wants (fun r s2=>r=.none/\∃h' tk,s2 = {s with heap:=h',toks:=tk}/\SetS prog w h' s.heap.objs.size (ns.foldl dd [])/\
     (∀b o,b < s.heap.objs.size->s.heap.get? b=Γ o->h'.get? b=Γ o)) E) F.called_set.init.plain F.entry_set_init (check_set_init_1 hT ?_)) fun r2 s2 hr2=>?_
   ·obtain⟨ol,hol,hcl,nl,hdl⟩:=hl;obtain⟨ocls,odict,odata,oslots⟩:=ol;simp only at hcl hdl;subst hcl;subst hdl;have hol1:(s.heap.push (oN led)).get? l=Γ {cls:=.type "list",dict:=odict,data:=.seq items nl,slots:=oslots}:=w_ _ hol;have w1:=F.sub_list_set;have w2:=F.sub_list_frozenset;have w3:(Value.type "list" == Value.type "dict")=Θ:=by decide
    have hl1:(s.heap.push (oN led)).IsList l items:=⟨_,hol1,rfl,nl,rfl⟩
    unfold Builtin.«set.__init__» noKeywords Builtin.Frozenset.updateFrom;generalize hPI:pyIter=PI
    wp_walk
    subst hPI;refine wpAny_pyIter_list hl1 (i_ (wpAny_runValue ?_));have lS:l < s.heap.objs.size:=l_ hol;have nI:l≠(s.heap.push (oN led)).objs.size:=by rw[Heap.size_push];exact x_ (Nat.lt_succ_of_lt lS)
    have aS:s.heap.objs.size∉[(s.heap.push (oN led)).objs.size,l]:=by
     rw[Heap.size_push];intro z;rcases j_.mp z with z|z
     ·exact x_ (Nat.lt_succ_self _) z
     ·exact Nat.ne_of_gt lS (C_.mp z)
    have f0:SetS prog w (s.heap.push (oN led)) s.heap.objs.size []:=SetOf_congr ((setObjOf_fresh (knd:=PySem.strKind prog w) led).setOf gS (by unfold scanBound;omega)) (fun _=>rfl) rfl;refine loop ((Walks.list (show A.in1.in1.in1.handled=Ξ by simp[hh]) _ l nI items).toS) s.heap.objs.size aS (ns:=ns) hi hlen hb (items.size - 0) 0 _ (by omega) (ET _)
     ⟨⟨_,EG _ rfl,rfl,rfl⟩,(hl1.push _)⟩ (f0.moved fun o e=>w_ _ e) ?_
    intro s' hm hS';obtain⟨h',g',d',tk',os'⟩:=s';have eg:g'=s.gens:=hm.gens;have ed:d'=s.drawn:=hm.drawn;have eo:os'=s.os:=hm.os;subst eg ed eo;show Ι _ _ _ _ _ _;refine v_ (show Ι _ _ (ret Value.none) _ _ _ from v_ ⟨rfl,h',tk',rfl,hS',fun b o hb e=>?_⟩);refine hm.heap b o (fun z=>?_) (w_ _ (w_ _ e));rcases j_.mp z with z|z
    ·exact x_ hb z
    ·have:=C_.mp z;rw[Heap.size_push]at this;exact x_ (Nat.lt_succ_of_lt hb) this
   ·cases r2 with
    |error e=>exact hr2
    |ok fl2=>
     cases fl2 with
     |ret r=>
      obtain⟨rfl,h',tk,rfl,hS',hk'⟩:=hr2
      repeat (any_goals (first|assumption|wp_step))
      exact h _ _ hS' hk'
     |_=>exact hr2.elim
  |_=>exact hr.elim
theorem call_len {a:Ψ}{σ:List Str}{Q:Φ->Ω->Prop}(hS:SetS prog w s.heap a σ)(h:∀t tk,Q (.int σ.length t) {s with toks:=tk}):Ι (Κ prog w) A (call (.builtin "len") [.ref a]) Q E s:=by obtain⟨o,es,ep,t,ho,hex,hd,_,_,hb,hf,hn⟩:=hS;refine call_len_set ho hex hd hf (by unfold scanBound at hb;omega) ?_;rw[hn];exact h _ _
end
end L2.Sx
namespace L2
open PySem PySem.Spec PyProof.Rows
section
variable {X:Cx}{e:Expr}{p p' pos pos':Pos}{t:TE}
theorem wR {ns:List Str}:∀ {us:List Φ},Vals (ns.map V.str) us->∀(i:Nat) (v:Φ),us[i]? = Γ v->∃t,v=Value.str (ns.getD i ⟨#[]⟩) t:=by
 induction ns with
 |nil=>intro us r i v h;cases r;simp at h
 |cons n ns ih=>
  intro us r i v h;cases r with
  |cons r rs=>
   obtain⟨t,rfl⟩:=r;cases i with
   |zero=>exact⟨t,by simpa using h.symm⟩
   |succ j=>simpa using ih rs j v (by simpa using h)
theorem wU (hc:X.calm=Δ)(g1:Gl X "len") (m1:X.mg "len" = Ξ) (g2:Gl X "set") (m2:X.mg "set" = Ξ) (he:PE X e t) (hst:∀es,Μ (e::es) X.env=(Θ,eval e X.env)::Μ es X.env) :
  PE X (.Call (.Name "len" p) [.Call (.Name "set" p') [e] [] pos'] [] pos) (fun σ H Q=>t σ H fun v H1=>∃(l:Ψ) (ns:List Str),v=.ref l/\SqL X.K H1 l (ns.map V.str)/\ns.length < 1000/\Q (.int ((ns.foldl Sx.dd []).length:Nat)) H1):=by
 intro pins s σ H Q I h;refine E1 (ji (u:=.builtin "len") I g1 m1 (by decide +kernel) ?_ (by decide) (by decide));refine PyProof.Rows.callWith_builtin1 ?_ rfl rfl;show Ι _ _ (spliced ((Θ,eval (.Call (.Name "set" p') [e] [] pos') X.env)::backTo pos (Μ [] X.env))) _ _ s;have key:Ι (Κ X.prog X.w) X.A (eval (.Call (.Name "set" p') [e] [] pos') X.env) (fun u s1=>∃(a:Ψ) (ns:List Str) (H1:Hp),u=.ref a/\Inv X pins σ H1 s1/\Sx.SetS X.prog X.w s1.heap a (ns.foldl Sx.dd [])/\Q (.int ((ns.foldl Sx.dd []).length:Nat)) H1) X.xe s:=by refine E1 (ji (u:=.type "set") I g2 m2 (by decide +kernel) ?_ (by decide) (by decide));refine PyProof.Rows.callWith_type1 ?_ (hst []) rfl;rw[hst []];show Ι _ _ (spliced ((Θ,eval e X.env)::backTo pos' (Μ [] X.env))) _ _ s;refine Calls.spliced_cons (thn (he pins s σ H _ I h) fun u s1 ⟨x,H1,I1,r1,l,ns,ex,hq,hn,q1⟩=>?_);subst ex;cases r1;refine Calls.spliced_nil ?_;obtain⟨its,r',pl,hz⟩:=I1.list hq;have hl:=r'.length;rw[f_]at hl;refine Sx.call_set (I1.ok.hd hc) pl.isList (fun i v hv=>wR r' i v (by simpa using hv)) (by rw[z_];exact hl) (by rw[z_];unfold scanBound;omega) fun h' tk hS hk=>⟨_,ns,H1,rfl,I1.kept (t':=tk) fun b o e=>hk b o (l_ e) e,hS,q1⟩
 refine Calls.spliced_cons (thn key fun u s1 ⟨a,ns,H1,eu,I1,hS,q1⟩=>?_);subst eu;refine Calls.spliced_nil ?_;exact Sx.call_len hS fun t tk=>⟨.int _,H1,I1.tok _,⟨_,rfl⟩,q1⟩
end
section
variable {X:Cx}
def qG:V->List V->Hp->VK->Prop:=fun x vs H Q=>∃d o kvs more,x=.ref d/\vs=[.ref o]/\d≠o/\H d=Γ (.dK kvs)/\Rd H o (.dK more)/\kvs.length+more.length<=Ε/\Q .non (upd H d (.dK (gX kvs more)))
theorem sH:MtM X "dict.update" qG:=by intro pins s σ H x vs v us Q I rx rv h;obtain⟨d,o,kvs,more,rfl,rfl,hne,hd,ho,hz,q⟩:=h;cases rx;obtain⟨u,rfl,ru⟩:=rv.one;cases ru;obtain⟨z1,s1,v1,r1,D1⟩:=yG I.hok hd;obtain⟨z2,s2,v2,r2,D2⟩:=jw I.hok ho;have e1:=r1.length;have e2:=r2.length;refine call_meetsIn F.slot_dict_update D1.typeIs F.entry_dict_update (F.args_dict_update_2 _ _) (meets_dict_update (fA X.prog X.w) d o hne s2) ⟨v1,v2,D1,D2,by rw[<- e1,<- e2];exact hz,fun h' D1' D2' sb=>?_⟩;have he:∃q,h'.get? d=Γ q:=let ⟨q,_,_,hq,_⟩:=D1';⟨q,hq⟩;have hl:=ij more kvs;exact⟨.non,_,nh (t':=s.toks) I (by rw[hd];exact True.intro) sb he (pP (by omega) s1 (r2.merge r1) D1'),rfl,q⟩
end
end L2
namespace L2.Dp
open PySem PyProof.Rows
section
variable {prog:Β}{w:Α}{A:Η}{E:Φ->Ω->Prop}{s:Ω}
theorem sI:typeLookup (.type "list") "keys" = pure Ξ:=by rw[typeLookup_type,builtinLookup_eq_fast];kernel_rfl
theorem sJ {a:Ψ}{o:Obj}{xs:Array Φ}{k:Nat}{Q:Option Φ->Ω->Prop}(hx:s.heap.get? a=Γ o)(hc:o.cls=.type "list") (hdat:o.data=.seq xs k) (hd:o.dict=Ξ) (hA:A.handled=Ξ)
  (h:∀h' tk,(∀b o,s.heap.get? b=Γ o->h'.get? b=Γ o)->Q Ξ {s with heap:=h',toks:=tk}):Ι (Κ prog w) A (getAttr? (.ref a) "keys") Q E s:=by
 obtain⟨c,dct,dat,sl⟩:=o;simp only at hc hdat hd;subst hc hdat hd;obtain⟨hp,g,d,tk,os⟩:=s;have hT:∀tk',(⟨hp,g,d,tk',os⟩:Ω).TypeIs (.ref a) "list":=fun _=>⟨_,hx,rfl⟩
 have f1:=sub_AttributeError;have f3:=F.slot_list_getattribute.lookup;have f4:=F.slot_list_getattribute.bind (.ref a);have f5:=am_list_getattr_none;unfold getAttr? getAttrBy? getAttrBy
 repeat (any_goals (first|assumption|exact hT _|((with_reducible show Ι _ _ (call (Value.builtin "list.__getattribute__") _ _) _ _ _);refine call_meets F.slot_list_getattribute (hT _) am_entry_list_getattribute (F.args_list_getattribute_2 _ _) (meets_getattribute_miss_list a xs k sl "keys" _ sI (by decide) (by size_fits)) ⟨hx,hA,fun h' tk' e hx'=>?_⟩)|wp_step))
 obtain⟨t',u',he⟩:=hx'.there;show Ι _ _ (getattributeRaised _ _ _ _ _ _ _) _ _ _;unfold getattributeRaised
 repeat (any_goals (first|assumption|wp_step))
 exact h _ _ hx'.of.keeps
theorem kI:entryFor table "dict.update.loop" = Γ Builtin.«dict.update.loop»:=entryFor_of_tree (by kernel_rfl)
theorem iG:plainId "dict.update.loop" = Δ:=by decide +kernel
variable {K:Type} [DecidableEq K]{knd:KeyKind prog w K}{I:Ψ}{fp wr:List Ψ}{G:Array GenState->Array GenState->Prop}{n:Nat}{P:Nat->Φ->Prop}{St:Nat->Ω->Prop}{R:Result->Ω->Prop}
def PairAt (knd:KeyKind prog w K)(h:Heap)(b:Ψ)(p:K×Φ):Prop:=∃(key:Φ) (od:Option Ψ) (m:Nat) (sl:Array (Option Φ)),h.get? b=Γ {cls:=.type "tuple",dict:=od,data:=.seq #[key,p.2] m,slots:=sl}/\knd.is p.1 key=Δ
theorem PairAt.keep {h h':Heap}{b:Ψ}{p:K×Φ}(x:PairAt knd h b p)(k:∀o,h.get? b=Γ o->h'.get? b=Γ o):PairAt knd h' b p:=by obtain⟨key,od,m,sl,e,hk⟩:=x;exact⟨key,od,m,sl,k _ e,hk⟩
theorem loop (W:WalksS prog w A.in1 I fp wr G n P St)(d:Ψ)(hd:d∉fp){bs:List Ψ}{kvs:List (K×Φ)}(hv:∀i v,P i v->∃b,v=.ref b/\bs[i]? = Γ b)(hn:kvs.length=n)(hb:n<=Ε)(nb:∀b∈bs,b≠d/\b∉wr) :
  ∀(k i:Nat) (s:Ω),n - i=k->i<=n->St i s->s.heap.DictOf knd d (merged [] (kvs.take i))->(∀(j:Nat) (b:Ψ) (p:K×Φ),bs[j]? = Γ b->kvs[j]? = Γ p->PairAt knd s.heap b p)->
   (∀s',Moved (d::wr) G s s'->s'.heap.DictOf knd d (merged [] kvs)->R (.ok (.ret .none)) s')->
   codeAny (Κ prog w) A (.builtin "dict.update.loop" ⟨[.ref d,.ref I,rawInt i,.none],[]⟩) R s:=by
 have haw:d∉wr:=fun z=>hd (W.sub _ z);have sub:∀b∈wr,b∈d::wr:=fun b z=>q_ _ z;intro k
 induction k with
 |zero=>
  intro i s hk hi hst hS hT hR;have e:i=n:=by omega
  subst e;rw[<- hn,List.take_length]at hS;refine codeAny_builtin kI ?_;rw[Around.under_plainId iG _];show Ι _ A.in1 (pyNext (.ref I) >>= _) _ _ s;refine i_ (W.done s _ _ hst fun s' hm=>?_);show Ι _ A.in1 (Builtin.Dict.addKeywords d [] >>= fun _=>ret Value.none) _ _ s';obtain⟨o,es,ep,ho,r⟩:=hS;exact i_ (v_ (v_ (hR s' (hm.mono sub) ⟨o,es,ep,hm.heap d o haw ho,r⟩)))
 |succ k ih=>
  intro i s hk hi hst hS hT hR;have hlt:i < n:=by omega
  refine codeAny_builtin kI ?_;rw[Around.under_plainId iG _];show Ι _ A.in1 (pyNext (.ref I) >>= _) _ _ s;refine i_ (W.item i s _ _ hlt hst fun v s' hP hst' hm=>?_);obtain⟨b,rfl,hbi⟩:=hv i v hP;have hki:kvs[i]? = Γ kvs[i]:=EK (by omega);have hT':∀(j:Nat) (b:Ψ) (p:K×Φ),bs[j]? = Γ b->kvs[j]? = Γ p->PairAt knd s'.heap b p:=fun j b p h1 h2=>(hT j b p h1 h2).keep fun o e=>hm.heap b o (nb b (EM h1)).2 e;obtain⟨key,od,m,sl,hg,hkey⟩:=hT' i b _ hbi hki;have hS1:s'.heap.DictOf knd d (merged [] (kvs.take i)):=by obtain⟨o,es,ep,ho,r⟩:=hS;exact⟨o,es,ep,hm.heap d o haw ho,r⟩
  have hlen:=merged_length_le [] (kvs.take i);rw[EV,List.length_nil]at hlen;have et:=merged_take_succ [] kvs i _ hki;generalize hDS:dictSet=DS;obtain⟨hp,gg,dd,tk,os⟩:=s';have hTy:(⟨hp,gg,dd,tk,os⟩:Ω).TypeIs (.ref b) "tuple":=⟨_,hg,rfl⟩
  have nTL:(Value.type "tuple" == Value.type "list")=Θ:=by decide
  show Ι _ A.in1 ((holding [η b] ((Builtin.Dict.pairItems (.ref b)).tryCatch _ >>= _)) >>= _) _ _ _;refine i_ (ES (i_ (wpAny_tryCatch ?_)));unfold Builtin.Dict.pairItems;refine i_ (wpAny_typeOf hTy ?_);rw[c_ (by decide)]
  repeat (any_goals (first|assumption|wp_step))
  subst hDS;refine wpAny_dictSet_pairs (s:=⟨hp,gg,dd,tk,os⟩) hkey hS1 (fun h' hD hsb=>?_) (by omega);have hkp:∀b' o,b'≠d->hp.get? b'=Γ o->h'.get? b'=Γ o:=fun b' o hb' e=>by rw[hsb.2 b' hb'];exact e
  refine v_ ⟨plainId_quiet iG _,?_⟩;refine ih (i+1) _ (by omega) hlt (W.frame _ ⟨hp,gg,dd,tk,os⟩ _ _ hst' (Nat.le_succ _) fun b' hb' o e=>hkp b' o (fun z=>hd (z ▸ hb')) e) (by rw[et];exact hD) (fun j b' p h1 h2=>(hT' j b' p h1 h2).keep fun o e=>hkp b' o (nb b' (EM h1)).1 e) fun s'' hm'' hS''=>?_;exact hR s'' (Moved.trans W.gtrans ((hm.mono sub).then_heap (Nat.le_succ _) fun b' o hb' e=>hkp b' o (fun z=>hb' (z ▸ EY)) e) hm'') hS''
theorem call_dict {l:Ψ}{its:Array Φ}{lm:Nat}{lsl:Array (Option Φ)}{bs:List Ψ}{kvs:List (K×Φ)}{Q:Φ->Ω->Prop}(hh:A.handled=Ξ)(hl:s.heap.get? l=Γ {cls:=.type "list",dict:=Ξ,data:=.seq its lm,slots:=lsl}) (hi:∀(i:Nat) (v:Φ),its[i]? = Γ v->∃b,v=η b/\bs[i]? = Γ b)
  (hlen:kvs.length=its.size) (hb:its.size<=Ε) (hT:∀(j:Nat) (b:Ψ) (p:K×Φ),bs[j]? = Γ b->kvs[j]? = Γ p->PairAt knd s.heap b p) (hbl:∀b∈bs,b < s.heap.objs.size)
  (h:∀(h':Heap) (tk:Nat),h'.DictOf knd s.heap.objs.size (merged [] kvs)->(∀b o,b < s.heap.objs.size->s.heap.get? b=Γ o->h'.get? b=Γ o)->Q (.ref s.heap.objs.size) {s with heap:=h',toks:=tk}) :
  Ι (Κ prog w) A (call (.type "dict") [.ref l]) Q E s:=by
 refine callType_codes (Q₁:=fun obj s₁=>obj=.ref s.heap.objs.size/\s₁ = {s with heap:=s.heap.push {cls:=.type "dict",data:=.dict #[]}}) F.kt_called_dict (F.kt_typeCall_dict_1 _) F.entry_dict_init (kt_code_dict_new _ ⟨rfl,rfl⟩) ?_;rintro obj s₁ ⟨rfl,rfl⟩;have hnew:(s.heap.push {cls:=.type "dict",data:=.dict #[]}).DictOf knd s.heap.objs.size []:=Heap.DictOf.new s.heap;have hl1:(s.heap.push {cls:=.type "dict",data:=.dict #[]}).get? l=Γ {cls:=.type "list",dict:=Ξ,data:=.seq its lm,slots:=lsl}:=w_ _ hl;have hll:l < s.heap.objs.size:=l_ hl;refine⟨hnew.typeIs,F.args_dict_init_2 _ _,?_⟩;unfold Builtin.«dict.__init__»;refine i_ ?_;unfold Builtin.Dict.selfAndRest;refine i_ (wpAny_notOrdered_dict hnew.typeIs ?_);show Ι _ _ (pure (s.heap.objs.size,[η l])) _ _ _;refine v_ ?_;show Ι _ _ (Builtin.Dict.updateFrom "dict.__init__" s.heap.objs.size (.ref l) [] .none) _ _ _;unfold Builtin.Dict.updateFrom;have hTl:Shared.TypeIs {s with heap:=s.heap.push {cls:=.type "dict",data:=.dict #[]}} (.ref l) "list":=⟨_,hl1,rfl⟩
 refine i_ (wpAny_typeOf hTl ?_);rw[c_ (by decide)];refine i_ (sJ hl1 rfl rfl rfl (by simp[hh]) fun h1 tk1 hk1=>?_);simp only[Option.isNone_none,if_true];have hl2:h1.IsList l its:=⟨_,hk1 _ _ hl1,rfl,lm,rfl⟩
 have sz:s.heap.objs.size < h1.objs.size:=l_ (hk1 _ _ (EG _ rfl));refine i_ (wpAny_rule ?_);refine i_ (wpAny_pyIter_list hl2 (v_ ⟨plainId_quiet iG _,?_⟩));have nI:l≠h1.objs.size:=x_ (Nat.lt_trans hll sz);have keep1:∀b o,s.heap.get? b=Γ o->h1.get? b=Γ o:=fun b o e=>hk1 b o (w_ _ e);refine loop (A:=A.in1) (n:=its.size) (bs:=bs) (kvs:=kvs) ((Walks.list (show A.in1.in1.handled=Ξ by simp[hh]) h1.objs.size l nI its).toS) s.heap.objs.size (fun z=>?_) hi hlen hb (fun b hb=>⟨x_ (hbl b hb),fun z=>?_⟩) (its.size - 0) 0 _ (by omega) (ET _) ⟨⟨_,EG _ rfl,rfl,rfl⟩,hl2.push _⟩ ?_ (fun j b p e1 e2=>(hT j b p e1 e2).keep fun o e=>w_ _ (keep1 b o e)) fun s' hm hD=>?_
 ·rcases j_.mp z with z|z
  ·exact x_ sz z
  ·exact Nat.ne_of_gt hll (C_.mp z)
 ·exact x_ (Nat.lt_trans (hbl b hb) sz) (C_.mp z)
 ·obtain⟨o,es,ep,ho,r⟩:=hnew;exact⟨o,es,ep,w_ _ (hk1 _ _ ho),r⟩
 ·obtain⟨h',g',d',tk',os'⟩:=s';have eg:g'=s.gens:=hm.gens;have ed:d'=s.drawn:=hm.drawn;have eo:os'=s.os:=hm.os;subst eg ed eo;refine⟨rfl,h h' tk' hD fun b o hb e=>?_⟩;refine hm.heap b o (fun z=>?_) (w_ _ (keep1 b o e));rcases j_.mp z with z|z
  ·exact x_ hb z
  ·exact x_ (Nat.lt_trans hb sz) (C_.mp z)
end
end L2.Dp
namespace L2
open PySem PySem.Spec PyProof.Rows
inductive PrsAt (K:Frag)(H:Hp):List Ψ->List (Key×V)->Prop where
 | nil:PrsAt K H [] []
 | cons {a:Ψ}{k:Key}{v:V}{as:List Ψ}{kvs:List (Key×V)}:SqT K H a [kV k,v]->PrsAt K H as kvs->PrsAt K H (a::as) ((k,v)::kvs)
section
variable {X:Cx}
theorem t6 {pins:List (Ψ×Obj)}{σ:St}{H:Hp}{s:Ω}(I:Inv X pins σ H s):∀ {as:List Ψ}{kvs:List (Key×V)},PrsAt X.K H as kvs->∃rs:List (Key×Φ),KV kvs rs/\rs.length=as.length/\(∀b∈as,b < s.heap.objs.size)/\
  ∀(j:Nat) (b:Ψ) (p:Key×Φ),as[j]? = Γ b->rs[j]? = Γ p->Dp.PairAt (fA X.prog X.w) s.heap b p
 |_,_,.nil=>⟨[],.nil,rfl,(fun b h=>by cases h),fun j b p h=>by cases h⟩
 |_,_,.cons (a:=a) (k:=k) (v:=v) h1 h2=>by
  obtain⟨rs,r1,r2,r3,r4⟩:=t6 I h2;obtain⟨its,rv,tp,_⟩:=I.tuple h1;obtain⟨o,ho,hc,m,hd⟩:=tp;obtain⟨u1,u2,rfl,ru1,ru2⟩:∃u1 u2,its=[u1,u2]/\RelV (kV k) u1/\RelV v u2:=by
   cases rv with
   |cons a1 rv=>
    cases rv with
    |cons a2 rv=>cases rv;exact⟨_,_,rfl,a1,a2⟩
  refine⟨(k,u2)::rs,.cons ⟨rfl,ru2⟩ r1,by rw[List.length_cons,List.length_cons,r2],fun b hb=>?_,fun j b p e1 e2=>?_⟩
  ·rcases j_.mp hb with rfl|hb
   ·exact l_ ho
   ·exact r3 b hb
  ·cases j with
   |zero=>cases e1;cases e2;obtain⟨c,dct,dat,sl⟩:=o;simp only at hc hd;subst hc hd;exact⟨u1,dct,m,sl,ho,lY ru1⟩
   |succ j=>exact r4 j b p e1 e2
theorem me:∀ {as:List Ψ}{us:List Φ},Vals (as.map V.ref) us->us=as.map η
 |[],_,.nil=>rfl
 |a::as,_,.cons r rs=>by rw[me rs];obtain rfl:_=η a:=r;rfl
theorem pQ (hc:X.calm=Δ):gK X (.type "dict") (fun xs H Q=>∃(p:Ψ) (as:List Ψ) (kvs:List (Key×V)),xs=[.ref p]/\SqL X.K H p (as.map V.ref)/\PrsAt X.K H as kvs/\∀a,H a=Ξ->Q (.ref a) (upd H a (.dK (gX [] kvs)))):=by
 intro pins s σ H xs us Q I r h;obtain⟨p,as,kvs,rfl,hq,hp,q⟩:=h;obtain⟨u,rfl,rx⟩:=r.one;cases rx;obtain⟨its,rv,pl,hz⟩:=I.list hq;obtain⟨o,m,ho,hcl,hdi,hda⟩:=pl;have e:=me rv;subst e;obtain⟨rs,r1,r2,r3,r4⟩:=t6 I hp;obtain⟨c,dct,dat,sl⟩:=o;simp only at hcl hdi hda;subst hcl hdi hda;rw[f_]at hz;have hl:=ij kvs [];have hkl:=r1.length;rw[List.length_nil]at hl;refine Dp.call_dict (knd:=fA X.prog X.w) (bs:=as) (kvs:=rs) (I.ok.hd hc) ho (fun i v hv=>?_) (by rw[z_,f_];exact r2) (by rw[z_,f_];exact hz) r4 r3 fun h' tk hD hk=>?_
 ·have hv:(as.map η)[i]? = Γ v:=by simpa using hv
  rw[EL]at hv;obtain⟨b,hb,rfl⟩:=E4.mp hv;exact⟨b,rfl,hb⟩
 ·exact⟨.ref _,_,I.laid (a:=s.heap.objs.size) (o:=.dK (gX [] kvs)) (t':=tk) (fun b u e=>hk b u (l_ e) e) (n_ _) (pP (by omega) (beq_eq_false_iff_ne.mpr (Ne.symm (x_ I.big))) (KV.merge r1 .nil) hD),rfl,q _ (I.hok.fresh (n_ _))⟩
theorem j8:∀ns:List Int,preSum (fun i=>ns.getD i 0) ns.length=ns.sum
 |[]=>rfl
 |n::ns=>by rw[List.length_cons,PySem.W.kdu_shift,List.sum_cons,<- j8 ns];rfl
theorem t7 {pins:List (Ψ×Obj)}{σ:St}{H:Hp}{s:Ω}{A:Η}{E:Φ->Ω->Prop}{a:Ψ}{kvs:List (Key×V)}{Q:Φ->Ω->Prop}(I:Inv X pins σ H s)(e:Rd H a (.dK kvs))
  (h:∀v s',Inv X pins σ H s'->s'.heap.IsValuesView v a->Q (.ref v) s'):Ι (Κ X.prog X.w) A (call (.builtin "dict.values") [.ref a]) Q E s:=by
 obtain⟨z,hd,vs,rel,dd⟩:=jw I.hok e;refine call_meetsIn F.slot_dict_values dd.typeIs F.entry_dict_values (F.args_dict_values_1 _) (meets_dict_values (fA X.prog X.w) a hd) ⟨⟨_,dd⟩,?_⟩;exact h _ _ (I.kept (t':=s.toks) fun b o q=>w_ _ q) ⟨_,EG _ rfl,rfl,rfl⟩
theorem Cm {pins:List (Ψ×Obj)}{σ:St}{H:Hp}{s:Ω}{A:Η}{E:Φ->Ω->Prop}{a v:Ψ}{kvs:List (Key×V)}{ns:List Int}{Q:Φ->Ω->Prop}(hh:A.handled=Ξ)(I:Inv X pins σ H s)(e:Rd H a (.dK kvs))(en:kvs.map (·.2)=ns.map V.int)(hv:s.heap.IsValuesView v a)
  (h:∀t s',Inv X pins σ H s'->Q (.int ns.sum t) s'):Ι (Κ X.prog X.w) A (call (.builtin "sum") [.ref v]) Q E s:=by
 obtain⟨z,hd,vs,rel,dd⟩:=jw I.hok e;obtain⟨ep,hat⟩:=dd.dictAt;have hlen:vs.length=ns.length:=by rw[<- rel.length,<- f_ (f:=V.int),<- en,f_]
 refine call_sum_walkG (wpAny_pyIter_values (kvs:=vs) (ep:=ep) hv hat ?_);refine⟨s.heap.objs.size,_,_,vs.length,_,_,fun i=>ns.getD i 0,rfl,Walks.dictValues (knd:=fA X.prog X.w) (show A.in1.handled=Ξ by simp[hh]) s.heap.objs.size a (x_ hat.lt_size) vs ep,⟨⟨_,EG _ rfl,rfl,rfl⟩,hat.push _⟩,fun b hb=>?_,fun i u hu=>?_,fun h' tk t' hk=>?_⟩
 ·show b < (s.heap.push _).objs.size;rw[Heap.size_push];rcases j_.mp hb with e|hb
  ·rw[e];exact Nat.lt_succ_self _
  ·rw[C_.mp hb];exact Nat.lt_succ_of_lt hat.lt_size
 ·obtain⟨k,hx⟩:=hu;have:∀ {kvs:List (Key×V)}{vs:List (Key×Φ)}{ns:List Int}{i:Nat},KV kvs vs->kvs.map (·.2)=ns.map V.int->vs[i]? = Γ (k,u)->∃t,u=.int (ns.getD i 0) t:=by
   intro kvs vs ns i r;unfold KV at r
   induction r generalizing ns i with
   |nil=>intro _ h;simp at h
   | @cons p q ps qs h t ih=>
    intro en hx
    induction ns using zL with
    |nil=>cases en
    |cons n ns=>
     rw[a_,a_,List.cons.injEq]at en;cases i with
     |zero=>rw[List.getElem?_cons_zero]at hx;cases hx;have h2:=h.2;rw[en.1]at h2;obtain⟨t,h2⟩:=h2;exact⟨t,h2⟩
     |succ i=>have hx:qs[i]? = Γ (k,u):=hx;exact ih (ns:=ns) (i:=i) en.2 hx
  exact this rel en hx
 ·rw[hlen,j8]
  exact h t' _ (I.kept (t':=tk) fun b o q=>hk b o (fun z=>by
   have:=C_.mp z
   exact x_ (l_ q) this) (w_ _ q))
theorem wV {o:Expr}{p pos apos cpos:Pos}{td:TE}(hc:X.calm=Δ)(g1:Gl X "sum") (m1:X.mg "sum" = Ξ) (ho:PE X o td) (hbase:attributeBase o "values" X.env (eval o X.env)=eval o X.env) (hline:(apos.endLine == cpos.line)=Δ) :
  PE X (.Call (.Name "sum" p) [.Call (.Attribute o "values" apos) [] [] cpos] [] pos) (fun σ H Q=>td σ H fun x H1=>∃(a:Ψ) (kvs:List (Key×V)) (ns:List Int),x=.ref a/\Rd H1 a (.dK kvs)/\kvs.map (·.2)=ns.map V.int/\Q (.int ns.sum) H1):=by
 intro pins s σ H Q I h;refine E1 (ji (u:=.builtin "sum") I g1 m1 (by decide +kernel) ?_ (by decide) (by decide));refine PyProof.Rows.callWith_builtin1 ?_ rfl rfl;show Ι _ _ (spliced ((Θ,eval (.Call (.Attribute o "values" apos) [] [] cpos) X.env)::backTo pos (Μ [] X.env))) _ _ s;have key:Ι (Κ X.prog X.w) X.A (eval (.Call (.Attribute o "values" apos) [] [] cpos) X.env) (fun u s1=>∃(a v:Ψ) (kvs:List (Key×V)) (ns:List Int) (H1:Hp),u=.ref v/\Inv X pins σ H1 s1/\Rd H1 a (.dK kvs)/\kvs.map (·.2)=ns.map V.int/\s1.heap.IsValuesView v a/\Q (.int ns.sum) H1) X.xe s:=by refine wpAny_Call_method0_late hbase hline (thn (ho pins s σ H _ I h) fun u s1 ⟨x,H1,I1,r1,a,kvs,ns,ex,rd,en,q1⟩=>?_);subst ex;obtain rfl:u=η a:=r1;obtain⟨t1,t2,_⟩:=t4 I1 (.inl ⟨kvs,rd⟩);exact⟨"dict","dict.values",PySem.F.plainAttrs_dict,PySem.F.slot_dict_values,PySem.F.type_dict_values,t1,t2,Calls.callWith_builtin rfl (PySem.evalArgs_none (t7 I1 rd fun v s2 I2 hv=>⟨a,v,kvs,ns,H1,rfl,I2,rd,en,hv,q1⟩))⟩
 refine Calls.spliced_cons (thn key fun u s1 ⟨a,v,kvs,ns,H1,eu,I1,rd,en,hv,q1⟩=>?_);subst eu;refine Calls.spliced_nil ?_;exact Cm (I1.ok.hd hc) I1 rd en hv fun t s2 I2=>⟨.int _,H1,I2,⟨_,rfl⟩,q1⟩
theorem wW {o e:Expr}{apos cpos:Pos}{td te:TE}(ho:PE X o td)(he:PE X e te)(hbase:attributeBase o "update" X.env (eval o X.env)=eval o X.env) (hline:(apos.endLine == cpos.line)=Δ) (hst:Μ [e] X.env=[(Θ,eval e X.env)]) :
  PE X (.Call (.Attribute o "update" apos) [e] [] cpos) (fun σ H Q=>td σ H fun x H1=>∃a,x=.ref a/\IsD H1 a/\te σ H1 fun y H2=>qG x [y] H2 Q):=by
 intro pins s σ H Q I h;have htr:backTo cpos (Μ [e] X.env)=[(Θ,eval e X.env)]:=by rw[hst];rfl
 refine wpAny_Call_method1_late hbase hline htr (thn (ho pins s σ H _ I h) fun u s1 ⟨x,H1,I1,r1,a,ex,d,q1⟩=>?_);subst ex;obtain rfl:u=η a:=r1;obtain⟨t1,t2,_⟩:=t4 I1 d;refine⟨"dict","dict.update",PySem.F.plainAttrs_dict,PySem.F.slot_dict_update,PySem.F.type_dict_update,t1,t2,?_⟩;refine Calls.callWith_builtin rfl (Calls.evalArgs_plain (Calls.spliced_cons (thn (he pins s1 σ H1 _ I1 q1) fun fv s2 ⟨y,H2,I2,ry,q2⟩=>Calls.spliced_nil ?_)));exact sH pins s2 σ H2 (.ref a) [y] (.ref a) [fv] Q I2 rfl (.cons ry .nil) q2
end
open PySem.SeqAt
section
variable {X:Cx}
theorem Inv.dct {pins:List (Ψ×Obj)}{σ:St}{H:Hp}{s:Ω}{p:Ψ}{kvs:List (Key×V)}(I:Inv X pins σ H s)(e:Rd H p (.dK kvs)):kvs.length<=Ε/\(p == sysModules)=Θ/\∃vs o es ep,KV kvs vs/\s.heap.get? p=Γ o/\o.data=.dict es ep/\s.heap.DictAt (fA X.prog X.w) p vs ep:=by obtain⟨h1,h2,vs,kv,o,es,ep,ho,c,hd,r⟩:=e.ok I.hok;exact⟨h1,h2,vs,o,es,ep,kv,ho,hd,o,es,ho,c,hd,r⟩
theorem KV.len {κ:Type}{kvs:List (κ×V)}{vs:List (κ×Φ)}(r:KV kvs vs):kvs.length=vs.length:=Paired.length r
theorem sL:gK X (.builtin "len") (fun xs H Q=>∃(p:Ψ) (kvs:List (Key×V)),xs=[.ref p]/\Rd H p (.dK kvs)/\Q (.int kvs.length) H):=by intro pins s σ H xs us Q I r h;obtain⟨p,kvs,rfl,hp,q⟩:=h;obtain⟨u,rfl,rx⟩:=vals1 r;cases rx;obtain⟨hz,lo,vs,o,es,ep,kv,ho,hd,hm⟩:=I.dct hp;have hs:Ε=16777216:=sizeLine_eq;have hl:=kv.len;exact call_len_dict lo hm.dictOf (by omega) ⟨.int kvs.length,H,I.tok _,⟨_,by rw[hl]⟩,q⟩
end
inductive D where
 | non|bl (b:Bool)|int (i:Int)|str (x:Str)|tup (ds:List D)|lst (own:Bool) (ds:List D)|exc (c:Str)|dct (own:Bool) (ks:List Key) (ds:List D)
 deriving Inhabited
mutual
noncomputable def er:D->D
 |.tup ds=>.tup (ers ds)
 |.lst _ ds=>.lst Θ (ers ds)
 |.dct _ ks ds=>.dct Θ ks (ers ds)
 |.non=>.non
 |.bl b=>.bl b
 |.int i=>.int i
 |.str x=>.str x
 |.exc c=>.exc c
noncomputable def ers:List D->List D
 |[]=>[]
 |d::ds=>er d::ers ds
end
mutual
noncomputable def fE:D->Bool
 |.tup ds=>cA ds
 |.lst _ _=>Θ
 |.dct _ _ _=>Θ
 |.non=>Δ
 |.bl _=>Δ
 |.int _=>Δ
 |.str _=>Δ
 |.exc _=>Δ
noncomputable def cA:List D->Bool
 |[]=>Δ
 |d::ds=>fE d&&cA ds
end
mutual
noncomputable def fB:D->Bool
 |.lst o ds=>o&&fF ds
 |.tup ds=>fF ds
 |.dct o _ ds=>o&&fF ds
 |.non=>Δ
 |.bl _=>Δ
 |.int _=>Δ
 |.str _=>Δ
 |.exc _=>Δ
noncomputable def fF:List D->Bool
 |[]=>Δ
 |d::ds=>fB d&&fF ds
end
theorem gP:∀ds:List D,ers ds=ds.map er
 |[]=>rfl
 |d::ds=>by rw[ers,gP ds];rfl
theorem fO:∀ds:List D,cA ds=ds.all fE
 |[]=>rfl
 |d::ds=>by rw[cA,fO ds];rfl
theorem gk (ds:List D):(ers ds).length=ds.length:=by rw[gP,f_]
mutual
theorem t8:∀ {d:D},fE d=Δ->er d=d
 |.non,_=>rfl
 |.bl _,_=>rfl
 |.int _,_=>rfl
 |.str _,_=>rfl
 |.exc _,_=>rfl
 |.tup ds,h=>by rw[er,gm (ds:=ds) h]
 |.lst o ds,h=>by cases(show Θ=Δ from h)
 |.dct o ks ds,h=>by cases(show Θ=Δ from h)
theorem gm:∀ {ds:List D},cA ds=Δ->ers ds=ds
 |[],_=>rfl
 |d::ds,h=>by have h':(fE d&&cA ds)=Δ:=h;rw[d_]at h';rw[ers,t8 h'.1,gm h'.2]
end
inductive Exc where
 | stuck|exc (c:Str)
abbrev Res (α:Type):=Except Exc α
noncomputable abbrev stk {α:Type}:Res α:=.error .stuck
noncomputable def bnd {α β:Type}(x:Res α)(f:α->Res β):Res β:=match x with
 |.ok a=>f a
 |.error e=>.error e
noncomputable def grd {α:Type}(c:Bool)(x:Res α):Res α:=if c=Δ then x else stk
def PO' {α:Type}(ex:Str->Prop)(x:Res α)(k:α->Prop):Prop:=match x with
 |.ok a=>k a
 |.error (.exc c)=>ex c
 |.error .stuck=>False
theorem PO'.bnd {α β:Type}{ex:Str->Prop}{x:Res α}{f:α->Res β}{k:β->Prop}(h:PO' ex (bnd x f) k):PO' ex x fun a=>PO' ex (f a) k:=by
 cases x with
 |ok a=>exact h
 |error e=>cases e<;>exact h
theorem PO'.grd {α:Type}{ex:Str->Prop}{c:Bool}{x:Res α}{k:α->Prop}(h:PO' ex (grd c x) k):c=Δ/\PO' ex x k:=by
 unfold L2.grd at h
 induction c using zB with
 |true=>exact⟨rfl,h⟩
 |false=>exact False.elim h
theorem PO'.mono {α:Type}{ex:Str->Prop}{x:Res α}{k k':α->Prop}(h:PO' ex x k)(m:∀a,k a->k' a):PO' ex x k':=by
 cases x with
 |ok a=>exact m a h
 |error e=>cases e<;>exact h
theorem PO'.mk {α β:Type}{ex:Str->Prop}{x:Res α}{f:α->Res β}{k:β->Prop}(h:PO' ex x fun a=>PO' ex (f a) k):PO' ex (L2.bnd x f) k:=by
 cases x with
 |ok a=>exact h
 |error e=>cases e<;>exact h
theorem PO'.eq {α:Type}{ex:Str->Prop}{x:Res α}{k:α->Prop}(h:PO' ex x k):PO' ex x fun a=>x=.ok a/\k a:=by
 cases x with
 |ok a=>exact⟨rfl,h⟩
 |error e=>cases e<;>exact h
theorem PO'.ok {α:Type}{ex:Str->Prop}{a:α}{k:α->Prop}(h:PO' ex (.ok a:Res α) k):k a:=h
theorem PO'.no {α:Type}{ex:Str->Prop}{k:α->Prop}(h:PO' ex (stk:Res α) k):False:=h
inductive LD where
 | l (xs:List V)|d (kvs:List (Key×V))
noncomputable abbrev LD.o:LD->HO
 |.l xs=>.lst xs
 |.d kvs=>.dK kvs
theorem KL.sq {K:Frag}{H:Hp}{a:Ψ}{xs:List V}(h:KL K a xs):SqL K H a xs:=by obtain⟨its,n,h1,h2,h3⟩:=h;exact .inr ⟨_,its.toArray,n,h1,rfl,rfl,rfl,by simpa using h2,by simpa using h3⟩
theorem Inv.ls {X:Cx}{pins:List (Ψ×Obj)}{σ:St}{H:Hp}{s:Ω}{a:Ψ}{xs:List V}(I:Inv X pins σ H s)(h:Ls X.K H a xs) :
  xs.length<=Ε/\∃(its:List Φ) (n:Nat),Vals xs its/\s.heap.get? a=Γ {cls:=.type "list",data:=.seq its.toArray n}:=by
 rcases h with h|⟨its,n,h1,h2,h3⟩
 ·obtain⟨z,its,n,r,e⟩:=h.ok I.hok;exact⟨z,its,n,r,e⟩
 ·exact⟨by rw[h3.length];exact h2,its,n,h3,I.kIn _ _ h1⟩
noncomputable def nameIn (K:Frag)(C:Ψ):Option Str:=match K.lookup C with
 |some ⟨_,_,.cls cd,_⟩=>Γ cd.name
 |_=>Ξ
noncomputable def XU:HO:=.ext fun _=>True
def XO (K:Frag)(H:Hp)(a:Ψ)(c:Str):Prop:=∃(C:Ψ) (o:Obj) (vs:Array Φ),PySem.W.nsIn K Ζ c=Γ (Γ (.ref C))/\nameIn K C=Γ c/\H a=Γ (.frz o XU)/\o.cls=.ref C/\o.data=.fields vs
def SqE (K:Frag)(H:Hp)(a:Ψ):List V ⊕ Str->Prop
 |.inl xs=>SqT K H a xs
 |.inr c=>XO K H a c
mutual
inductive HRep (K:Frag)(S:Ψ->Prop)(H:Hp):V->D->Prop where
 | non:HRep K S H .non .non
 | bl (b:Bool):HRep K S H (.bl b) (.bl b)
 | int (i:Int):HRep K S H (.int i) (.int i)
 | str (x:Str):HRep K S H (.str x) (.str x)
 | exc {a:Ψ}{c:Str}:SqE K H a (.inr c)->HRep K S H (.ref a) (.exc c)
 | tup {a:Ψ}{xs:List V}{ds:List D}:SqT K H a xs->HReps K S H xs ds->HRep K S H (.ref a) (.tup ds)
 | lst {a:Ψ}{xs:List V}{o:Bool}{ds:List D}:S a->Rd H a (.lst xs)->HReps K S H xs ds->HRep K S H (.ref a) (.lst o ds)
 | lstK {a:Ψ}{xs:List V}{o:Bool}{ds:List D}:KL K a xs->HReps K S H xs ds->HRep K S H (.ref a) (.lst o ds)
 | dct {a:Ψ}{kvs:List (Key×V)}{o:Bool}{ks:List Key}{ds:List D}:S a->Rd H a (.dK kvs)->kvs.map (·.1)=ks->HReps K S H (kvs.map (·.2)) ds->HRep K S H (.ref a) (.dct o ks ds)
inductive HReps (K:Frag)(S:Ψ->Prop)(H:Hp):List V->List D->Prop where
 | nil:HReps K S H [] []
 | cons {v:V}{d:D}{vs:List V}{ds:List D}:HRep K S H v d->HReps K S H vs ds->HReps K S H (v::vs) (d::ds)
end
mutual
inductive MRep (K:Frag)(F:Ψ->Prop)(H:Hp):V->D->List Ψ->Prop where
 | non:MRep K F H .non .non []
 | bl (b:Bool):MRep K F H (.bl b) (.bl b) []
 | int (i:Int):MRep K F H (.int i) (.int i) []
 | str (x:Str):MRep K F H (.str x) (.str x) []
 | exc {a:Ψ}{c:Str}:SqE K H a (.inr c)->MRep K F H (.ref a) (.exc c) []
 | tup {a:Ψ}{xs:List V}{ds:List D}{f:List Ψ}:SqT K H a xs->MReps K F H xs ds f->MRep K F H (.ref a) (.tup ds) f
 | lstS {a:Ψ}{xs:List V}{ds:List D}:F a->Rd H a (.lst xs)->MReps K F H xs ds []->MRep K F H (.ref a) (.lst Θ ds) []
 | lstK {a:Ψ}{xs:List V}{ds:List D}:KL K a xs->MReps K F H xs ds []->MRep K F H (.ref a) (.lst Θ ds) []
 | lstO {a:Ψ}{xs:List V}{ds:List D}{f:List Ψ}:¬F a->H a=Γ (.lst xs)->MReps K F H xs ds f->MRep K F H (.ref a) (.lst Δ ds) (a::f)
 | dctS {a:Ψ}{kvs:List (Key×V)}{ks:List Key}{ds:List D}:F a->Rd H a (.dK kvs)->kvs.map (·.1)=ks->MReps K F H (kvs.map (·.2)) ds []->MRep K F H (.ref a) (.dct Θ ks ds) []
 | dctO {a:Ψ}{kvs:List (Key×V)}{ks:List Key}{ds:List D}{f:List Ψ}:¬F a->H a=Γ (.dK kvs)->kvs.map (·.1)=ks->MReps K F H (kvs.map (·.2)) ds f->MRep K F H (.ref a) (.dct Δ ks ds) (a::f)
inductive MReps (K:Frag)(F:Ψ->Prop)(H:Hp):List V->List D->List Ψ->Prop where
 | nil:MReps K F H [] [] []
 | cons {v:V}{d:D}{f:List Ψ}{vs:List V}{ds:List D}{g:List Ψ}:MRep K F H v d f->MReps K F H vs ds g->MReps K F H (v::vs) (d::ds) (f++g)
end
theorem dO.rd {H H':Hp}{a:Ψ}{u:HO}(e:dO H H')(h:Rd H a u):Rd H' a u:=by
 rcases h with h|⟨o,h⟩
 ·exact .inl (e _ _ h)
 ·exact .inr ⟨o,e _ _ h⟩
theorem dO.seqT {K:Frag}{H H':Hp}{a:Ψ}{xs:List V ⊕ Str}(e:dO H H')(h:SqE K H a xs):SqE K H' a xs:=by
 cases xs with
 |inl xs=>
  rcases h with h|h
  ·exact .inl (e.rd h)
  ·exact .inr h
 |inr c=>obtain⟨C,o,vs,h0,h1,h2,h3⟩:=h;exact⟨C,o,vs,h0,h1,e _ _ h2,h3⟩
theorem SqE.upd {K:Frag}{H:Hp}{a l:Ψ}{xs:List V ⊕ Str}{ys zs:List V}(hl:H l=Γ (.lst ys))(h:SqE K H a xs):SqE K (upd H l (.lst zs)) a xs:=by
 cases xs with
 |inl xs=>
  rcases h with h|h
  ·have:a≠l:=by rintro rfl;rcases h with h|⟨o,h⟩<;>(rw[hl]at h;cases h)
   refine .inl ?_;unfold Rd;rw[dM this];exact h
  ·exact .inr h
 |inr c=>
  obtain⟨C,o,vs,h0,h1,h2,h3⟩:=h;have:a≠l:=by rintro rfl;rw[hl]at h2;cases h2
  exact⟨C,o,vs,h0,h1,by rw[dM this];exact h2,h3⟩
theorem Rd.some {H:Hp}{a:Ψ}{u:HO}(h:Rd H a u):H a≠Ξ:=by rcases h with h|⟨o,h⟩<;>(rw[h];simp)
section
variable {K:Frag}{S S' F F':Ψ->Prop}{H H':Hp}
theorem HRep.step (hl:∀a (u:LD),S a->Rd H a u.o->S' a/\Rd H' a u.o)(ht:∀a xs,SqE K H a xs->SqE K H' a xs){v:V}{d:D}(h:HRep K S H v d):HRep K S' H' v d:=
 HRep.rec (motive_1:=fun v d _=>HRep K S' H' v d) (motive_2:=fun v d _=>HReps K S' H' v d) .non .bl .int .str (fun h=>.exc (ht _ (.inr _) h)) (fun h1 _ i=>.tup (ht _ (.inl _) h1) i)
  (fun h0 h1 _ i=>.lst (hl _ (.l _) h0 h1).1 (hl _ (.l _) h0 h1).2 i) (fun h1 _ i=>.lstK h1 i) (fun h0 h1 h2 _ i=>.dct (hl _ (.d _) h0 h1).1 (hl _ (.d _) h0 h1).2 h2 i) .nil (fun _ _ i j=>.cons i j) h
theorem HReps.step (hl:∀a (u:LD),S a->Rd H a u.o->S' a/\Rd H' a u.o)(ht:∀a xs,SqE K H a xs->SqE K H' a xs){v:List V}{d:List D}(h:HReps K S H v d):HReps K S' H' v d:=
 HReps.rec (motive_1:=fun v d _=>HRep K S' H' v d) (motive_2:=fun v d _=>HReps K S' H' v d) .non .bl .int .str (fun h=>.exc (ht _ (.inr _) h)) (fun h1 _ i=>.tup (ht _ (.inl _) h1) i)
  (fun h0 h1 _ i=>.lst (hl _ (.l _) h0 h1).1 (hl _ (.l _) h0 h1).2 i) (fun h1 _ i=>.lstK h1 i) (fun h0 h1 h2 _ i=>.dct (hl _ (.d _) h0 h1).1 (hl _ (.d _) h0 h1).2 h2 i) .nil (fun _ _ i j=>.cons i j) h
theorem HRep.mono {v:V}{d:D}(h:HRep K S H v d)(hS:∀a,S a->S' a)(e:dO H H'):HRep K S' H' v d:=h.step (fun a xs s r=>⟨hS a s,e.rd r⟩) fun a xs s=>e.seqT s
theorem HReps.mono {v:List V}{d:List D}(h:HReps K S H v d)(hS:∀a,S a->S' a)(e:dO H H'):HReps K S' H' v d:=h.step (fun a xs s r=>⟨hS a s,e.rd r⟩) fun a xs s=>e.seqT s
theorem HReps.tight {v:List V}{d:List D}(h:HReps K S H v d):HReps K (fun a=>S a/\H a≠Ξ) H v d:=h.step (fun a xs s r=>⟨⟨s,r.some⟩,r⟩) fun a xs s=>s
theorem HRep.frozen {v:V}{d:D}(h:HRep K F H v d):MRep K F H v (L2.er d) []:=
 HRep.rec (motive_1:=fun v d _=>MRep K F H v (L2.er d) []) (motive_2:=fun v d _=>MReps K F H v (L2.ers d) []) .non .bl .int .str (fun h=>.exc h) (fun h1 _ i=>.tup h1 i) (fun h0 h1 _ i=>.lstS h0 h1 i) (fun h1 _ i=>.lstK h1 i) (fun h0 h1 h2 _ i=>.dctS h0 h1 h2 i) .nil (fun _ _ i j=>.cons (f:=[]) (g:=[]) i j) h
theorem HReps.frozen {v:List V}{d:List D}(h:HReps K F H v d):MReps K F H v (L2.ers d) []:=
 HReps.rec (motive_1:=fun v d _=>MRep K F H v (L2.er d) []) (motive_2:=fun v d _=>MReps K F H v (L2.ers d) []) .non .bl .int .str (fun h=>.exc h) (fun h1 _ i=>.tup h1 i) (fun h0 h1 _ i=>.lstS h0 h1 i) (fun h1 _ i=>.lstK h1 i) (fun h0 h1 h2 _ i=>.dctS h0 h1 h2 i) .nil (fun _ _ i j=>.cons (f:=[]) (g:=[]) i j) h
theorem ke {a b:Bool}(h:(a&&b)=Δ):a=Δ/\b=Δ:=by rwa [d_]at h
theorem HRep.free {v:V}{d:D}(n:fE d=Δ)(h:HRep K S H v d):MRep K F H v d []:=
 HRep.rec (motive_1:=fun v d _=>fE d=Δ->MRep K F H v d []) (motive_2:=fun v d _=>cA d=Δ->MReps K F H v d []) (fun _=>.non) (fun b _=>.bl b) (fun b _=>.int b) (fun b _=>.str b) (fun h _=>.exc h) (fun h1 _ i n=>.tup h1 (i n)) (fun _ _ _ _ n=>nomatch n) (fun _ _ _ n=>nomatch n) (fun _ _ _ _ _ n=>nomatch n) (fun _=>.nil) (fun _ _ i j n=>.cons (f:=[]) (g:=[]) (i (ke n).1) (j (ke n).2)) h n
theorem HReps.free {v:List V}{d:List D}(n:cA d=Δ)(h:HReps K S H v d):MReps K F H v d []:=
 HReps.rec (motive_1:=fun v d _=>fE d=Δ->MRep K F H v d []) (motive_2:=fun v d _=>cA d=Δ->MReps K F H v d []) (fun _=>.non) (fun b _=>.bl b) (fun b _=>.int b) (fun b _=>.str b) (fun h _=>.exc h) (fun h1 _ i n=>.tup h1 (i n)) (fun _ _ _ _ n=>nomatch n) (fun _ _ _ n=>nomatch n) (fun _ _ _ _ _ n=>nomatch n) (fun _=>.nil) (fun _ _ i j n=>.cons (f:=[]) (g:=[]) (i (ke n).1) (j (ke n).2)) h n
theorem gE {p:Ψ->Prop}:∀a∈([]:List Ψ),p a:=fun _ h=>nomatch h
theorem MRep.read {v:V}{d:D}{f:List Ψ}(hF:∀a,F a->S a)(hf:∀a∈f,S a)(h:MRep K F H v d f):HRep K S H v d:=
 MRep.rec (motive_1:=fun v d f _=>(∀a∈f,S a)->HRep K S H v d) (motive_2:=fun v d f _=>(∀a∈f,S a)->HReps K S H v d) (fun _=>.non) (fun b _=>.bl b) (fun b _=>.int b) (fun b _=>.str b) (fun h _=>.exc h) (fun h1 _ i hf=>.tup h1 (i hf))
  (fun h0 h1 _ i _=>.lst (hF _ h0) h1 (i gE)) (fun h1 _ i _=>.lstK h1 (i gE)) (fun _ h1 _ i hf=>.lst (hf _ (.head _)) (.inl h1) (i fun b hb=>hf b (.tail _ hb))) (fun h0 h1 h2 _ i _=>.dct (hF _ h0) h1 h2 (i gE)) (fun _ h1 h2 _ i hf=>.dct (hf _ (.head _)) (.inl h1) h2 (i fun b hb=>hf b (.tail _ hb))) (fun _=>.nil)
  (fun _ _ i j hf=>.cons (i fun a ha=>hf a (k_ _ ha)) (j fun a ha=>hf a (m_ _ ha))) h hf
theorem MReps.read {v:List V}{d:List D}{f:List Ψ}(hF:∀a,F a->S a)(hf:∀a∈f,S a)(h:MReps K F H v d f):HReps K S H v d:=
 MReps.rec (motive_1:=fun v d f _=>(∀a∈f,S a)->HRep K S H v d) (motive_2:=fun v d f _=>(∀a∈f,S a)->HReps K S H v d) (fun _=>.non) (fun b _=>.bl b) (fun b _=>.int b) (fun b _=>.str b) (fun h _=>.exc h) (fun h1 _ i hf=>.tup h1 (i hf))
  (fun h0 h1 _ i _=>.lst (hF _ h0) h1 (i gE)) (fun h1 _ i _=>.lstK h1 (i gE)) (fun _ h1 _ i hf=>.lst (hf _ (.head _)) (.inl h1) (i fun b hb=>hf b (.tail _ hb))) (fun h0 h1 h2 _ i _=>.dct (hF _ h0) h1 h2 (i gE)) (fun _ h1 h2 _ i hf=>.dct (hf _ (.head _)) (.inl h1) h2 (i fun b hb=>hf b (.tail _ hb))) (fun _=>.nil)
  (fun _ _ i j hf=>.cons (i fun a ha=>hf a (k_ _ ha)) (j fun a ha=>hf a (m_ _ ha))) h hf
theorem ia {α:Type}{x:Option α}{y:α}(h:x=Γ y):x≠Ξ:=fun e=>nomatch h.symm.trans e
theorem MRep.step (hl:∀a (u:LD),F a->Rd H a u.o->F' a/\Rd H' a u.o)(ht:∀a xs,SqE K H a xs->SqE K H' a xs){v:V}{d:D}{f:List Ψ}(k:∀a∈f,¬F a->H a≠Ξ->¬F' a/\H' a=H a)
  (h:MRep K F H v d f):MRep K F' H' v d f:=
 MRep.rec (motive_1:=fun v d f _=>(∀a∈f,¬F a->H a≠Ξ->¬F' a/\H' a=H a)->MRep K F' H' v d f) (motive_2:=fun v d f _=>(∀a∈f,¬F a->H a≠Ξ->¬F' a/\H' a=H a)->MReps K F' H' v d f) (fun _=>.non) (fun b _=>.bl b) (fun b _=>.int b) (fun b _=>.str b)
  (fun h _=>.exc (ht _ (.inr _) h)) (fun h1 _ i k=>.tup (ht _ (.inl _) h1) (i k)) (fun h0 h1 _ i _=>.lstS (hl _ (.l _) h0 h1).1 (hl _ (.l _) h0 h1).2 (i gE)) (fun h1 _ i _=>.lstK h1 (i gE))
  (fun h0 h1 _ i k=>.lstO (k _ (.head _) h0 (ia h1)).1 ((k _ (.head _) h0 (ia h1)).2.trans h1) (i fun b hb=>k b (.tail _ hb))) (fun h0 h1 h2 _ i _=>.dctS (hl _ (.d _) h0 h1).1 (hl _ (.d _) h0 h1).2 h2 (i gE)) (fun h0 h1 h2 _ i k=>.dctO (k _ (.head _) h0 (ia h1)).1 ((k _ (.head _) h0 (ia h1)).2.trans h1) h2 (i fun b hb=>k b (.tail _ hb))) (fun _=>.nil)
  (fun _ _ i j k=>.cons (i fun a ha=>k a (k_ _ ha)) (j fun a ha=>k a (m_ _ ha))) h k
theorem MReps.step (hl:∀a (u:LD),F a->Rd H a u.o->F' a/\Rd H' a u.o)(ht:∀a xs,SqE K H a xs->SqE K H' a xs){v:List V}{d:List D}{f:List Ψ}(k:∀a∈f,¬F a->H a≠Ξ->¬F' a/\H' a=H a)
  (h:MReps K F H v d f):MReps K F' H' v d f:=
 MReps.rec (motive_1:=fun v d f _=>(∀a∈f,¬F a->H a≠Ξ->¬F' a/\H' a=H a)->MRep K F' H' v d f) (motive_2:=fun v d f _=>(∀a∈f,¬F a->H a≠Ξ->¬F' a/\H' a=H a)->MReps K F' H' v d f) (fun _=>.non) (fun b _=>.bl b) (fun b _=>.int b) (fun b _=>.str b)
  (fun h _=>.exc (ht _ (.inr _) h)) (fun h1 _ i k=>.tup (ht _ (.inl _) h1) (i k)) (fun h0 h1 _ i _=>.lstS (hl _ (.l _) h0 h1).1 (hl _ (.l _) h0 h1).2 (i gE)) (fun h1 _ i _=>.lstK h1 (i gE))
  (fun h0 h1 _ i k=>.lstO (k _ (.head _) h0 (ia h1)).1 ((k _ (.head _) h0 (ia h1)).2.trans h1) (i fun b hb=>k b (.tail _ hb))) (fun h0 h1 h2 _ i _=>.dctS (hl _ (.d _) h0 h1).1 (hl _ (.d _) h0 h1).2 h2 (i gE)) (fun h0 h1 h2 _ i k=>.dctO (k _ (.head _) h0 (ia h1)).1 ((k _ (.head _) h0 (ia h1)).2.trans h1) h2 (i fun b hb=>k b (.tail _ hb))) (fun _=>.nil)
  (fun _ _ i j k=>.cons (i fun a ha=>k a (k_ _ ha)) (j fun a ha=>k a (m_ _ ha))) h k
theorem wX {p:Ψ->Prop}{x:Ψ}{f:List Ψ}(h:p x)(i:∀a∈f,p a):∀a∈x::f,p a:=by
 intro b hb;rcases j_.mp hb with rfl|hb
 ·exact h
 ·exact i b hb
theorem Cn {p:Ψ->Prop}{f g:List Ψ}(h:∀a∈f,p a)(i:∀a∈g,p a):∀a∈f++g,p a:=fun b hb=>(u_.mp hb).elim (h b) (i b)
theorem MRep.own {v:V}{d:D}{f:List Ψ}(h:MRep K F H v d f):∀a∈f,¬F a/\∃u,H a=Γ u:=
 MRep.rec (motive_1:=fun _ _ f _=>∀a∈f,¬F a/\∃u,H a=Γ u) (motive_2:=fun _ _ f _=>∀a∈f,¬F a/\∃u,H a=Γ u) gE (fun _=>gE) (fun _=>gE) (fun _=>gE) (fun _=>gE) (fun _ _ i=>i) (fun _ _ _ _=>gE) (fun _ _ _=>gE)
  (fun h0 h1 _ i=>wX ⟨h0,_,h1⟩ i) (fun _ _ _ _ _=>gE) (fun h0 h1 _ _ i=>wX ⟨h0,_,h1⟩ i) gE (fun _ _ i j=>Cn i j) h
theorem MReps.own {v:List V}{d:List D}{f:List Ψ}(h:MReps K F H v d f):∀a∈f,¬F a/\∃u,H a=Γ u:=
 MReps.rec (motive_1:=fun _ _ f _=>∀a∈f,¬F a/\∃u,H a=Γ u) (motive_2:=fun _ _ f _=>∀a∈f,¬F a/\∃u,H a=Γ u) gE (fun _=>gE) (fun _=>gE) (fun _=>gE) (fun _=>gE) (fun _ _ i=>i) (fun _ _ _ _=>gE) (fun _ _ _=>gE)
  (fun h0 h1 _ i=>wX ⟨h0,_,h1⟩ i) (fun _ _ _ _ _=>gE) (fun h0 h1 _ _ i=>wX ⟨h0,_,h1⟩ i) gE (fun _ _ i j=>Cn i j) h
mutual
theorem qH:∀ {d:D},fE d=Δ->fB d=Δ
 |.non,_=>rfl
 |.bl _,_=>rfl
 |.int _,_=>rfl
 |.str _,_=>rfl
 |.exc _,_=>rfl
 |.tup ds,h=>fG (ds:=ds) h
 |.lst o ds,h=>nomatch h
 |.dct o ks ds,h=>nomatch h
theorem fG:∀ {ds:List D},cA ds=Δ->fF ds=Δ
 |[],_=>rfl
 |d::ds,h=>by have h':(fE d&&cA ds)=Δ:=h;rw[d_]at h';show(fB d&&fF ds)=Δ;rw[qH h'.1,fG h'.2];rfl
end
mutual
theorem MRep.aownF:∀ {v:V}{d:D}{f:List Ψ},MRep K F H v d f->fB d=Δ->(∀a∈f,¬F' a)->MRep K F' H v d f
 |_,_,_,.non,_,_=>.non
 |_,_,_,.bl b,_,_=>.bl b
 |_,_,_,.int i,_,_=>.int i
 |_,_,_,.str x,_,_=>.str x
 |_,_,_,.exc h,_,_=>.exc h
 |_,_,_,.tup h1 h2,n,k=>.tup h1 (MReps.aownF h2 n k)
 |_,_,_,.lstS _ _ _,n,_=>nomatch n
 |_,_,_,.lstK _ _,n,_=>nomatch n
 |_,_,_,.lstO h0 h1 h2,n,k=>.lstO (k _ (.head _)) h1 (MReps.aownF h2 n fun a ha=>k a (.tail _ ha))
 |_,_,_,.dctS _ _ _ _,n,_=>nomatch n
 |_,_,_,.dctO h0 h1 h2 h3,n,k=>.dctO (k _ (.head _)) h1 h2 (MReps.aownF h3 n fun a ha=>k a (.tail _ ha))
theorem MReps.aownF:∀ {v:List V}{d:List D}{f:List Ψ},MReps K F H v d f->fF d=Δ->(∀a∈f,¬F' a)->MReps K F' H v d f
 |_,_,_,.nil,_,_=>.nil
 |_,_,_,.cons h1 h2,n,k=>.cons (MRep.aownF h1 (ke n).1 fun a ha=>k a (k_ _ ha)) (MReps.aownF h2 (ke n).2 fun a ha=>k a (m_ _ ha))
end
theorem HReps.ind {P:List V->List D->Prop}(n:P [] [])(c:∀v d vs ds,HRep K S H v d->HReps K S H vs ds->P vs ds->P (v::vs) (d::ds)){vs:List V}{ds:List D}(h:HReps K S H vs ds):P vs ds:=
 HReps.rec (motive_1:=fun _ _ _=>True) (motive_2:=fun v d _=>P v d) trivial (fun _=>trivial) (fun _=>trivial) (fun _=>trivial) (fun _=>trivial) (fun _ _ _=>trivial) (fun _ _ _ _=>trivial) (fun _ _ _=>trivial) (fun _ _ _ _ _=>trivial) n (fun a b _ j=>c _ _ _ _ a b j) h
theorem MReps.ind {P:List V->List D->List Ψ->Prop}(n:P [] [] [])(c:∀v d f vs ds g,MRep K F H v d f->MReps K F H vs ds g->P vs ds g->P (v::vs) (d::ds) (f++g)){vs:List V}{ds:List D}{f:List Ψ}(h:MReps K F H vs ds f):P vs ds f:=
 MReps.rec (motive_1:=fun _ _ _ _=>True) (motive_2:=fun v d f _=>P v d f) trivial (fun _=>trivial) (fun _=>trivial) (fun _=>trivial) (fun _=>trivial) (fun _ _ _=>trivial) (fun _ _ _ _=>trivial) (fun _ _ _=>trivial) (fun _ _ _ _=>trivial) (fun _ _ _ _ _=>trivial) (fun _ _ _ _ _=>trivial) n (fun a b _ j=>c _ _ _ _ _ _ a b j) h
theorem HReps.length {vs:List V}{ds:List D}(h:HReps K S H vs ds):vs.length=ds.length:=
 HReps.ind (P:=fun v d=>v.length=d.length) rfl (fun _ _ _ _ _ _ j=>congrArg (· + 1) j) h
theorem HReps.get {i:Nat}{vs:List V}{ds:List D}{d:D}(h:HReps K S H vs ds)(e:ds[i]? = Γ d):∃v,vs[i]? = Γ v/\HRep K S H v d:=
 HReps.ind (P:=fun vs ds=>∀i d,ds[i]? = Γ d->∃v,vs[i]? = Γ v/\HRep K S H v d) (fun i d e=>nomatch (show Ξ=Γ d from e)) (fun v d _ _ a _ j i d e=>by
  cases i with
  |zero=>exact⟨_,rfl,EF e ▸ a⟩
  |succ i=>exact j i d e) h i d e
theorem HReps.getV {i:Nat}{vs:List V}{ds:List D}{v:V}(h:HReps K S H vs ds)(e:vs[i]? = Γ v):∃d,ds[i]? = Γ d/\HRep K S H v d:=
 HReps.ind (P:=fun vs ds=>∀i v,vs[i]? = Γ v->∃d,ds[i]? = Γ d/\HRep K S H v d) (fun i d e=>nomatch (show Ξ=Γ d from e)) (fun v d _ _ a _ j i d e=>by
  cases i with
  |zero=>exact⟨_,rfl,EF e ▸ a⟩
  |succ i=>exact j i d e) h i v e
theorem HReps.append {vs ws:List V}{ds es:List D}(h:HReps K S H vs ds)(h':HReps K S H ws es):HReps K S H (vs++ws) (ds++es):=
 HReps.ind (P:=fun v d=>HReps K S H (v++ws) (d++es)) h' (fun _ _ _ _ a _ j=>.cons a j) h
theorem HReps.take {vs:List V}{ds:List D}(n:Nat)(h:HReps K S H vs ds):HReps K S H (vs.take n) (ds.take n):=
 HReps.ind (P:=fun v d=>∀n,HReps K S H (v.take n) (d.take n)) (fun n=>by cases n<;>exact .nil) (fun _ _ _ _ a _ j n=>by
  cases n with
  |zero=>exact .nil
  |succ n=>exact .cons a (j n)) h n
theorem HReps.drop {vs:List V}{ds:List D}(n:Nat)(h:HReps K S H vs ds):HReps K S H (vs.drop n) (ds.drop n):=
 HReps.ind (P:=fun v d=>∀n,HReps K S H (v.drop n) (d.drop n)) (fun n=>by cases n<;>exact .nil) (fun _ _ _ _ a b j n=>by
  cases n with
  |zero=>exact .cons a b
  |succ n=>exact j n) h n
theorem MReps.length {vs:List V}{ds:List D}{f:List Ψ}(h:MReps K F H vs ds f):vs.length=ds.length:=
 MReps.ind (P:=fun v d _=>v.length=d.length) rfl (fun _ _ _ _ _ _ _ _ j=>congrArg (· + 1) j) h
theorem MReps.append {vs ws:List V}{ds es:List D}{f g:List Ψ}(h:MReps K F H vs ds f)(h':MReps K F H ws es g):MReps K F H (vs++ws) (ds++es) (f++g):=
 MReps.ind (P:=fun v d f=>MReps K F H (v++ws) (d++es) (f++g)) h' (fun _ _ _ _ _ _ a _ j=>by
  rw[o_]
  exact .cons a j) h
theorem HRep.lstR {v:V}{o:Bool}{ds:List D}(h:HRep K S H v (.lst o ds)):∃a xs,v=.ref a/\SqL K H a xs/\HReps K S H xs ds:=by
 cases h with
 |lst h0 h1 h2=>exact⟨_,_,rfl,.inl h1,h2⟩
 |lstK h1 h2=>exact⟨_,_,rfl,h1.sq,h2⟩
theorem HRep.lstL {v:V}{o:Bool}{ds:List D}(h:HRep K S H v (.lst o ds)):∃a xs,v=.ref a/\Ls K H a xs/\HReps K S H xs ds:=by
 cases h with
 |lst h0 h1 h2=>exact⟨_,_,rfl,.inl h1,h2⟩
 |lstK h1 h2=>exact⟨_,_,rfl,.inr h1,h2⟩
theorem HRep.tupR {v:V}{ds:List D}(h:HRep K S H v (.tup ds)):∃a xs,v=.ref a/\SqT K H a xs/\HReps K S H xs ds:=by
 cases h with
 |tup h1 h2=>exact⟨_,_,rfl,h1,h2⟩
theorem HRep.intR {v:V}{i:Int}(h:HRep K S H v (.int i)):v=.int i:=by cases h;rfl
theorem HRep.blR {v:V}{i:Bool}(h:HRep K S H v (.bl i)):v=.bl i:=by cases h;rfl
theorem HRep.strR {v:V}{i:Str}(h:HRep K S H v (.str i)):v=.str i:=by cases h;rfl
theorem HRep.nonR {v:V}(h:HRep K S H v .non):v=.non:=by cases h;rfl
theorem HReps.ints {vs:List V}{ns:List Int}(h:HReps K S H vs (ns.map .int)):vs=ns.map .int:=
 HReps.ind (P:=fun v d=>∀ns:List Int,d=ns.map .int->v=ns.map .int) (fun ns e=>by
  induction ns using zL with
  |nil=>rfl
  |cons n ns=>exact nomatch e) (fun _ _ _ _ a _ j ns e=>by
  induction ns using zL with
  |nil=>exact nomatch e
  |cons n ns=>
   obtain⟨h1,h2⟩:=List.cons.inj e;subst h1;rw[j ns h2,a.intR]
   rfl) h ns rfl
theorem HReps.strs {vs:List V}{ns:List Str}(h:HReps K S H vs (ns.map .str)):vs=ns.map .str:=
 HReps.ind (P:=fun v d=>∀ns:List Str,d=ns.map .str->v=ns.map .str) (fun ns e=>by
  induction ns using zL with
  |nil=>rfl
  |cons n ns=>exact nomatch e) (fun _ _ _ _ a _ j ns e=>by
  induction ns using zL with
  |nil=>exact nomatch e
  |cons n ns=>
   obtain⟨h1,h2⟩:=List.cons.inj e;subst h1;rw[j ns h2,a.strR]
   rfl) h ns rfl
theorem HReps.bls {vs:List V}{ns:List Bool}(h:HReps K S H vs (ns.map .bl)):vs=ns.map .bl:=
 HReps.ind (P:=fun v d=>∀ns:List Bool,d=ns.map .bl->v=ns.map .bl) (fun ns e=>by
  induction ns using zL with
  |nil=>rfl
  |cons n ns=>exact nomatch e) (fun _ _ _ _ a _ j ns e=>by
  induction ns using zL with
  |nil=>exact nomatch e
  |cons n ns=>
   obtain⟨h1,h2⟩:=List.cons.inj e;subst h1;rw[j ns h2,a.blR]
   rfl) h ns rfl
theorem HReps.ofInts:∀(ns:List Int),HReps K S H (ns.map .int) (ns.map .int)
 |[]=>.nil
 |n::ns=>.cons (.int n) (HReps.ofInts ns)
end
theorem dO.upd {H:Hp}{a:Ψ}{o:HO}(h:H a=Ξ):dO H (upd H a o):=fun b u e=>by rw[dM (gi e h)];exact e
theorem zD:type_of% @D.casesOn.{0}:=@D.casesOn.{0}
inductive BOp where
 | add|sub|mul|fdiv|mod|pow
 deriving DecidableEq
inductive COp where
 | eq|ne|lt|le|gt|ge|in_|nin|is_|isn
 deriving DecidableEq
inductive Kd where
 | str|int|bool|list|tuple
 deriving DecidableEq
inductive Bi where
 | len|sum|min2|max2|maxl|sorted|list|tuple|ord|int|all|any|str|set|abs
 deriving DecidableEq
inductive Mt where
 | join|index|starts
 deriving DecidableEq
inductive Tg where
 | nm (i:Nat)|tp (ts:List Tg)
structure Gm where
 N:List Str
 kd:List NameKind
 gl:List Nat
 df:Bool
 cm:Bool:=Δ
 rs:Bool:=Δ
 tr:Bool:=Θ
 io:Option Nat:=Ξ
mutual
inductive IR where
 | c (d:D)
 | g (n:Nat) (d:D)
 | v (i:Nat)
 | bin (op:BOp) (a b:IR)
 | neg (a:IR)
 | cmp (op:COp) (a b:IR)
 | chain (op op':COp) (a b c:IR)
 | and_ (a b:IR)
 | or_ (a b:IR)
 | not_ (a:IR)
 | tup (es:List IR)
 | lst (es:List IR)
 | idx (a i:IR)
 | sl (a:IR) (lo hi:Option IR)
 | call (f:Nat) (es:List IR)
 | bi (f:Bi) (es:List IR)
 | dnew
 | dget (a k:IR)
 | din (n:Bool) (k a:IR)
 | isi (a:IR) (k:Kd)
 | lset (a:IR)
 | dsum (a:IR)
 | mth (m:Mt) (o:IR) (es:List IR)
 | comp (G:Gm) (fr:List Nat) (tg:Tg) (src:Sr) (ifs:List IR) (elt:IR)
inductive Sr where
 | rng1 (n:IR)|val (e:IR)
end
inductive IS where
 | asg (tg:Tg) (e:IR)
 | setix (i:Nat) (k e:IR)
 | app (i:Nat) (e:IR)
 | dset (i:Nat) (k e:IR)
 | reti (i:Nat) (e:IR)
 | cio (j f:Nat) (es:List IR) (i:Nat) (es2:List IR) (th:Option Nat)
 | mov (j i:Nat)
 | mvx (j i k:Nat)
 | dsety (i:Nat) (k e:IR)
 | dsetp (i:Nat) (k:IR) (j:Nat) (e:IR)
 | clrA (a b i:Nat)
 | dof (j:Nat) (e:IR)
 | dupd (i j:Nat)
 | ret (e:IR)
 | if_ (t:IR) (a b:List IS)
 | for_ (tg:Tg) (src:Sr) (body:List IS)
 | never
abbrev Ev:=List (Option D)
inductive Fl where
 | nx (τ:Ev)|rt (d:D)|bk (τ:Ev)|ct (τ:Ev)|ri (d:D) (ks:List Key) (vs:List D)
noncomputable def ik {α:Type}(xs:List α)(lo hi:Option Int):List α:=(xs.drop (HT.sIx xs.length 0 lo)).take (HT.sIx xs.length xs.length hi - HT.sIx xs.length 0 lo)
noncomputable def f7 (n:Nat):Bool:=decide (n<=Ε)
noncomputable def hU (n:Nat):Bool:=decide (n < Ε)
noncomputable def opB:BOp->D->D->Res D
 |.add,.int a,.int b=>.ok (.int (a+b))
 |.add,.str a,.str b=>grd (f7 (a.length+b.length)) (.ok (.str (a++b)))
 |.add,.lst _ a,.lst _ b=>grd (f7 (a.length+b.length)) (.ok (.lst Δ (a++b)))
 |.sub,.int a,.int b=>.ok (.int (a - b))
 |.mul,.int a,.int b=>grd (decide (-(2 ^ 64) < a/\a < 2 ^ 64)||decide (-(2 ^ 64) < b/\b < 2 ^ 64)) (.ok (.int (a*b)))
 |.mul,.str a,.int b=>grd (decide (-16000<=b/\b<=16000/\a.length<=1000)) (.ok (.str (Txt.mul a b)))
 |.mul,.lst _ a,.int b=>grd (decide (0<=b/\b<=16000/\a.length<=1000)) (.ok (.lst Δ (List.flatten (Ρ b.toNat a))))
 |.fdiv,.int a,.int b=>grd (decide (0 < b/\b < 1073741824)) (.ok (.int (a / b)))
 |.mod,.int a,.int b=>grd (decide (0 < b)) (.ok (.int (a % b)))
 |.pow,.int a,.int b=>grd (decide (0<=b/\b<=1000000/\a.natAbs < 2 ^ 64)) (.ok (.int (a ^ b.toNat)))
 |_,_,_=>stk
noncomputable def gx:D->D->Res D
 |.lst _ ds,.int i=>match atI ds i with
  |some d=>.ok d
  |none=>stk
 |.tup ds,.int i=>match atI ds i with
  |some d=>.ok d
  |none=>stk
 |.str z,.int i=>grd (f7 z.length) (match atI z.cps.toList i with
  |some c=>.ok (.str ⟨#[c]⟩)
  |none=>stk)
 |_,_=>stk
noncomputable def oI:D->Option Int->Option Int->Res D
 |.lst _ ds,lo,hi=>.ok (.lst Δ (ik ds lo hi))
 |.str z,lo,hi=>grd (f7 z.length) (.ok (.str (Txt.slice z lo hi)))
 |_,_,_=>stk
noncomputable def fQ:D->Res Bool
 |.non=>.ok Θ
 |.bl b=>.ok b
 |.int i=>.ok (i != 0)
 |.str x=>grd (f7 x.length) (.ok ((x.length:Int) != 0))
 |.tup ds=>.ok (!ds.isEmpty)
 |.lst _ ds=>.ok (!ds.isEmpty)
 |.exc _=>stk
 |.dct _ _ _=>stk
noncomputable def gp (f:D->D->Res Bool):List D->List D->Res Bool
 |[],[]=>.ok Δ
 |a::r,b::t=>bnd (f a b) fun x=>bnd (gp f r t) fun y=>.ok (x&&y)
 |_,_=>.ok Θ
noncomputable def eqN:Nat->D->D->Res Bool
 |0,_,_=>stk
 |_+1,.exc _,_=>stk
 |_+1,_,.exc _=>stk
 |_+1,.dct _ _ _,_=>stk
 |_+1,_,.dct _ _ _=>stk
 |_+1,.non,.non=>.ok Δ
 |_+1,.non,_=>.ok Θ
 |_+1,.bl a,.bl b=>.ok (a == b)
 |_+1,.bl a,.int b=>.ok ((if a then 1 else 0) == b)
 |_+1,.bl _,_=>.ok Θ
 |_+1,.int a,.bl b=>.ok (a == (if b then 1 else 0))
 |_+1,.int a,.int b=>.ok (a == b)
 |_+1,.int _,_=>.ok Θ
 |_+1,.str a,.str b=>.ok (a == b)
 |_+1,.str _,_=>.ok Θ
 |n+1,.tup a,.tup b=>gp (eqN n) a b
 |_+1,.tup _,_=>.ok Θ
 |n+1,.lst _ a,.lst _ b=>gp (eqN n) a b
 |_+1,.lst _ _,_=>.ok Θ
noncomputable def anyN (d:D):List D->Res Bool
 |[]=>.ok Θ
 |e::r=>bnd (eqN 40 e d) fun x=>bnd (anyN d r) fun y=>.ok (x||y)
noncomputable def yJ (x y:Str):Bool:=!(Builtin.Str.occurrences x y 0 x.length 1).isEmpty
noncomputable def ja:D->Bool
 |.non=>Δ
 |_=>Θ
noncomputable def oJ:D->Bool
 |.exc _=>Θ
 |.dct _ _ _=>Θ
 |_=>Δ
noncomputable def opC:COp->D->D->Res Bool
 |.eq,a,b=>eqN 40 a b
 |.ne,a,b=>bnd (eqN 40 a b) fun r=>.ok !r
 |.lt,.int a,.int b=>.ok (decide (a < b))
 |.le,.int a,.int b=>.ok (decide (a<=b))
 |.gt,.int a,.int b=>.ok (decide (b < a))
 |.in_,.str y,.str x=>.ok (yJ x y)
 |.nin,.str y,.str x=>.ok (!yJ x y)
 |.in_,a,.lst _ ds=>anyN a ds
 |.nin,a,.lst _ ds=>bnd (anyN a ds) fun r=>.ok !r
 |.in_,a,.tup ds=>anyN a ds
 |.nin,a,.tup ds=>bnd (anyN a ds) fun r=>.ok !r
 |.is_,a,.non=>.ok (ja a)
 |.isn,a,.non=>.ok (!ja a)
 |.isn,.bl a,.bl b=>.ok (a != b)
 |.isn,.non,.bl _=>.ok Δ
 |_,_,_=>stk
noncomputable def gy:List D->Option (List Int)
 |[]=>Γ []
 |.int i::r=>(gy r).map (i::·)
 |_::_=>Ξ
noncomputable def gI:List D->Option (List Str)
 |[]=>Γ []
 |.str i::r=>(gI r).map (i::·)
 |_::_=>Ξ
noncomputable def kJ:List D->Option (List Bool)
 |[]=>Γ []
 |.bl i::r=>(kJ r).map (i::·)
 |_::_=>Ξ
noncomputable def ni:Kd->D->Bool
 |.str,.str _=>Δ
 |.int,.int _=>Δ
 |.int,.bl _=>Δ
 |.bool,.bl _=>Δ
 |.list,.lst _ _=>Δ
 |.tuple,.tup _=>Δ
 |_,_=>Θ
noncomputable def il (x:Str):List D:=x.cps.toList.map fun c=>.str ⟨#[c]⟩
noncomputable def ip:Bi->List D->Res D
 |.len,[.str x]=>grd (f7 x.length) (.ok (.int x.length))
 |.len,[.tup ds]=>.ok (.int ds.length)
 |.len,[.lst _ ds]=>.ok (.int ds.length)
 |.len,[.dct _ ks _]=>.ok (.int ks.length)
 |.min2,[.int a,.int b]=>.ok (.int (if b < a then b else a))
 |.max2,[.int a,.int b]=>.ok (.int (if b > a then b else a))
 |.int,[.int i]=>.ok (.int i)
 |.int,[.bl b]=>.ok (.int (if b then 1 else 0))
 |.list,[.lst _ ds]=>.ok (.lst Δ ds)
 |.list,[.tup ds]=>.ok (.lst Δ ds)
 |.list,[.str x]=>grd (f7 x.length) (.ok (.lst Δ (il x)))
 |.tuple,[.lst _ ds]=>.ok (.tup ds)
 |.tuple,[.str x]=>grd (f7 x.length) (.ok (.tup (il x)))
 |.sum,[.lst _ ds]=>match gy ds with
  |some ns=>grd (decide (ns.length<=1000000)) (.ok (.int ns.sum))
  |none=>stk
 |.all,[.lst _ ds]=>match kJ ds with
  |some bs=>.ok (.bl (bs.all id))
  |none=>stk
 |.abs,[.int i]=>.ok (.int (if i < 0 then -i else i))
 |_,_=>stk
noncomputable def t9:D->Bool
 |.non=>Δ
 |.bl _=>Δ
 |.int _=>Δ
 |.str _=>Δ
 |_=>Θ
noncomputable def gw (ds:List D):Bool:=ds.all t9
noncomputable def iq:D->Option Key
 |.int i=>Γ (.inl i)
 |.str x=>Γ (.inr x)
 |_=>Ξ
noncomputable def look:List Key->List D->Key->Option D
 |k::ks,d::ds,q=>if k=q then Γ d else look ks ds q
 |_,_,_=>Ξ
noncomputable def oK (ks:List Key)(q:Key):Bool:=ks.any fun k=>decide (k=q)
noncomputable def f9 (ks:List Key)(q:Key):List Key:=if oK ks q=Δ then ks else ks++[q]
noncomputable def fL (ks:List Key)(ds:List D)(q:Key)(d:D):List D:=if oK ks q=Δ then List.zipWith (fun k e=>if k=q then d else e) ks ds else ds++[d]
noncomputable def mf:D->D->Res D
 |.dct _ ks ds,y=>match iq y with
  |some q=>(match look ks ds q with
   |some d=>.ok d
   |none=>stk)
  |none=>stk
 |_,_=>stk
noncomputable def oM (n:Bool):D->D->Res D
 |.dct _ ks ds,y=>match iq y with
  |some q=>.ok (.bl (n != (look ks ds q).isSome))
  |none=>stk
 |_,_=>stk
noncomputable def qI:D->Res D
 |.dct _ _ ds=>match gy ds with
  |some ns=>.ok (.int ns.sum)
  |none=>stk
 |_=>stk
noncomputable def qJ:D->Res D
 |.lst _ ds=>match gI ds with
  |some ns=>grd (decide (ns.length < 1000)) (.ok (.int ((ns.foldl Sx.dd []).length:Nat)))
  |none=>stk
 |_=>stk
noncomputable def jx:List D->Option (List (Key×D))
 |[]=>Γ []
 |.tup [k,v]::r=>match iq k,jx r with
  |some q,Γ ps=>Γ ((q,v)::ps)
  |_,_=>Ξ
 |_::_=>Ξ
noncomputable def mrg:List (Key×D)->List Key->List D->List Key×List D
 |[],ks,ds=>(ks,ds)
 | (q,d)::r,ks,ds=>mrg r (f9 ks q) (fL ks ds q d)
noncomputable def sM (j:Nat)(τ:List (Option D)):D->Res (List (Option D))
 |.lst _ ds=>match jx ds with
  |some ps=>grd (gw (ps.map (·.2))) (.ok (τ.set j (Γ (.dct Δ (mrg ps [] []).1 (mrg ps [] []).2))))
  |none=>stk
 |_=>stk
noncomputable def ua (i:Nat)(τ:List (Option D)):Option D->Option D->Res (List (Option D))
 |some (.dct Δ ks ds),Γ (.dct _ ks2 ds2)=>grd (gw ds&&gw ds2&&f7 (ks.length+ks2.length)) (.ok (τ.set i (Γ (.dct Δ (mrg (ks2.zip ds2) ks ds).1 (mrg (ks2.zip ds2) ks ds).2))))
 |_,_=>stk
noncomputable def jk:D->Bool
 |.str _=>Δ
 |_=>Θ
noncomputable def kK:Mt->D->List D->Res D
 |.join,.str x,[.lst _ ds]=>match gI ds with
  |some ys=>grd (decide ((ys.map (·.length)).sum+ys.length*x.length<=16777216)) (.ok (.str (Txt.join x ys)))
  |none=>stk
 |.starts,.str x,[.str y]=>.ok (.bl (Txt.startswith x y))
 |_,_,_=>stk
noncomputable def kL:D->Res (List D)
 |.lst _ ds=>.ok ds
 |.tup ds=>.ok ds
 |.str x=>grd (f7 x.length) (.ok (il x))
 |_=>stk
noncomputable def ir (a b:Int):List D:=(List.range (b - a).toNat).map fun k=>.int (a+(k:Nat))
noncomputable def j9 (i:Int):Bool:=decide (-(2 ^ 62)<=i/\i < 2 ^ 62)
noncomputable def fT {α β:Type}(f:α->Res (Option β)):List α->Res (List β)
 |[]=>.ok []
 |x::xs=>bnd (f x) fun
  |some d=>bnd (fT f xs) fun r=>.ok (d::r)
  |none=>fT f xs
noncomputable def noX {α:Type}:Res α->Res α
 |.error _=>stk
 |.ok a=>.ok a
mutual
noncomputable def gR:Tg->D->Ev->Res Ev
 |.nm i,d,τ=>.ok (τ.set i (Γ d))
 |.tp ts,.tup ds,τ=>grd (decide (ds.length=ts.length)) (jy ts ds τ)
 |.tp ts,.lst _ ds,τ=>grd (decide (ds.length=ts.length)) (jy ts ds τ)
 |.tp _,_,_=>stk
noncomputable def jy:List Tg->List D->Ev->Res Ev
 |t::ts,d::ds,τ=>bnd (gR t d τ) fun τ'=>jy ts ds τ'
 |[],[],τ=>.ok τ
 |_,_,_=>stk
end
noncomputable def cq (τ:Ev)(i:Nat):Option D:=(τ[i]?).join
mutual
noncomputable def vars:IR->List Nat
 |.c _=>[]
 |.g _ _=>[]
 |.v i=>[i]
 |.bin _ a b=>vars a++vars b
 |.neg a=>vars a
 |.cmp _ a b=>vars a++vars b
 |.chain _ _ a b c=>vars a++vars b++vars c
 |.and_ a b=>vars a++vars b
 |.or_ a b=>vars a++vars b
 |.not_ a=>vars a
 |.tup es=>cw es
 |.lst es=>cw es
 |.idx a i=>vars a++vars i
 |.sl a lo hi=>vars a++ub lo++ub hi
 |.call _ es=>cw es
 |.bi _ es=>cw es
 |.dnew=>[]
 |.dget a k=>vars a++vars k
 |.din _ k a=>vars k++vars a
 |.isi a _=>vars a
 |.lset a=>vars a
 |.dsum a=>vars a
 |.mth _ o es=>vars o++cw es
 |.comp _ fr _ src _ _=>fr++jz src
noncomputable def cw:List IR->List Nat
 |[]=>[]
 |e::es=>vars e++cw es
noncomputable def ub:Option IR->List Nat
 |none=>[]
 |some e=>vars e
noncomputable def jz:Sr->List Nat
 |.rng1 n=>vars n
 |.val e=>vars e
end
mutual
noncomputable def evR (cl:Nat->List D->Res D):IR->Ev->Res D
 |.c d,_=>.ok d
 |.g _ d,_=>.ok d
 |.v i,τ=>match cq τ i with
  |some d=>.ok d
  |none=>stk
 |.bin op a b,τ=>bnd (evR cl a τ) fun x=>bnd (evR cl b τ) fun y=>opB op x y
 |.neg a,τ=>bnd (evR cl a τ) fun
  |.int i=>.ok (.int (-i))
  |_=>stk
 |.cmp op a b,τ=>bnd (evR cl a τ) fun x=>bnd (evR cl b τ) fun y=>bnd (opC op x y) fun r=>.ok (.bl r)
 |.chain op op' a b c,τ=>bnd (evR cl a τ) fun x=>bnd (evR cl b τ) fun y=>bnd (opC op x y) fun r=>
  if r=Δ then bnd (evR cl c τ) fun z=>bnd (opC op' y z) fun r'=>.ok (.bl r') else .ok (.bl Θ)
 |.and_ a b,τ=>bnd (evR cl a τ) fun x=>bnd (fQ x) fun r=>if r=Δ then evR cl b τ else .ok x
 |.or_ a b,τ=>bnd (evR cl a τ) fun x=>bnd (fQ x) fun r=>if r=Δ then .ok x else evR cl b τ
 |.not_ a,τ=>bnd (evR cl a τ) fun x=>bnd (fQ x) fun r=>.ok (.bl !r)
 |.tup es,τ=>bnd (fy cl es τ) fun ds=>grd (f7 ds.length) (.ok (.tup ds))
 |.lst es,τ=>bnd (fy cl es τ) fun ds=>grd (f7 ds.length) (.ok (.lst Δ ds))
 |.idx a i,τ=>bnd (evR cl a τ) fun x=>bnd (evR cl i τ) fun y=>gx x y
 |.sl a lo hi,τ=>bnd (evR cl a τ) fun x=>bnd (nj cl lo τ) fun l=>bnd (nj cl hi τ) fun h=>oI x l h
 |.call f es,τ=>bnd (fy cl es τ) fun ds=>cl f (ers ds)
 |.bi f es,τ=>bnd (fy cl es τ) fun ds=>ip f ds
 |.dnew,_=>.ok (.dct Δ [] [])
 |.dget a k,τ=>bnd (evR cl a τ) fun x=>bnd (evR cl k τ) fun y=>mf x y
 |.din n k a,τ=>bnd (evR cl k τ) fun y=>bnd (evR cl a τ) fun x=>oM n x y
 |.isi a k,τ=>bnd (evR cl a τ) fun x=>grd (oJ x) (.ok (.bl (ni k x)))
 |.lset a,τ=>bnd (evR cl a τ) qJ
 |.dsum a,τ=>bnd (evR cl a τ) qI
 |.mth m o es,τ=>bnd (evR cl o τ) fun x=>grd (jk x) (bnd (fy cl es τ) fun ds=>kK m x ds)
 |.comp G fr tg src ifs elt,τ=>bnd (jA cl src τ) fun its=>grd (hU its.length) (bnd (noX (fT (fun x=>bnd (gR tg x (fr.map (cq τ)++Ρ (G.N.length - fr.length) Ξ)) fun τ1=>
   bnd (iM cl ifs τ1) fun r=>if r=Δ then bnd (evR cl elt τ1) fun d=>.ok (Γ d) else .ok Ξ) its)) fun ds=>.ok (.lst Δ ds))
noncomputable def fy (cl:Nat->List D->Res D):List IR->Ev->Res (List D)
 |[],_=>.ok []
 |e::es,τ=>bnd (evR cl e τ) fun d=>bnd (fy cl es τ) fun ds=>.ok (d::ds)
noncomputable def nj (cl:Nat->List D->Res D):Option IR->Ev->Res (Option Int)
 |none,_=>.ok Ξ
 |some e,τ=>bnd (evR cl e τ) fun
  |.int i=>.ok (Γ i)
  |_=>stk
noncomputable def iM (cl:Nat->List D->Res D):List IR->Ev->Res Bool
 |[],_=>.ok Δ
 |e::es,τ=>bnd (bnd (evR cl e τ) fQ) fun r=>if r=Δ then iM cl es τ else .ok Θ
noncomputable def jA (cl:Nat->List D->Res D):Sr->Ev->Res (List D)
 |.rng1 n,τ=>bnd (evR cl n τ) fun
  |.int i=>grd (j9 i) (.ok (ir 0 i))
  |_=>stk
 |.val e,τ=>bnd (evR cl e τ) kL
end
noncomputable def evT (cl:Nat->List D->Res D)(t:IR)(τ:Ev):Res Bool:=bnd (evR cl t τ) fQ
noncomputable def jT (is:List Nat):Nat->Ev->Ev
 |_,[]=>[]
 |k,o::τ=>(if is.contains k then o.map er else o)::jT is (k+1) τ
noncomputable abbrev frz (is:List Nat)(τ:Ev):Ev:=jT is 0 τ
noncomputable def fU : IR->Bool
 |.bin .add _ _=>Δ
 |.bin .mul _ _=>Δ
 |.sl _ _ _=>Δ
 |.bi .list _=>Δ
 |.comp _ _ _ _ _ _=>Δ
 |_=>Θ
noncomputable def prE:IR->Bool
 |.tup [.v _,.bi .list [.v _]]=>Δ
 |.tup [.v _,.lst []]=>Δ
 |_=>Θ
noncomputable def prD:D->Bool
 |.tup [x,.lst _ r]=>fE x&&cA r
 |_=>Θ
noncomputable def kg:D->D
 |.tup [x,.lst _ r]=>.tup [x,.lst Δ r]
 |d=>d
noncomputable def iI:IR->List D->Bool
 |.comp _ _ _ _ _ elt,ds=>prE elt&&ds.all prD
 |_,_=>Θ
noncomputable def wY:IR->Bool
 |.comp _ _ _ _ _ elt=>!prE elt
 |_=>Δ
noncomputable def fH (e:IR)(d:D)(τ:Ev):D×Ev:=
 if fE d=Δ then(d,τ)
 else match fU e,d with
  |true,.lst _ ds=>if cA ds=Δ then(.lst Δ ds,τ) else if iI e ds=Δ then(.lst Δ (ds.map kg),τ) else(.lst Δ (ers ds),frz (vars e) τ)
  |_,_=>(er d,frz (vars e) τ)
mutual
noncomputable def evO (cl:Nat->List D->Res D)(mv:Bool):IR->Ev->Res (D×Ev)
 |.v i,τ=>match cq τ i with
  |some d=>if mv=Δ then .ok (d,τ.set i Ξ) else .ok (er d,τ.set i (Γ (er d)))
  |none=>stk
 |.tup es,τ=>bnd (lI cl mv es τ) fun p=>grd (f7 p.1.length) (.ok (.tup p.1,p.2))
 |.lst es,τ=>bnd (lI cl mv es τ) fun p=>grd (f7 p.1.length) (.ok (.lst Δ p.1,p.2))
 |.dnew,τ=>.ok (.dct Δ [] [],τ)
 |.call f es,τ=>bnd (fy cl es τ) fun ds=>bnd (cl f (ers ds)) fun d=>if fB d=Δ then .ok (d,τ) else .ok (d,frz (cw es) τ)
 |e,τ=>bnd (evR cl e τ) fun d=>.ok (fH e d τ)
noncomputable def lI (cl:Nat->List D->Res D)(mv:Bool):List IR->Ev->Res (List D×Ev)
 |[],τ=>.ok ([],τ)
 |e::es,τ=>bnd (evO cl mv e τ) fun p=>bnd (lI cl mv es p.2) fun q=>.ok (p.1::q.1,q.2)
end
noncomputable def forM (body:D->Ev->Res Fl):List D->Ev->Res Fl
 |[],τ=>.ok (.nx τ)
 |x::xs,τ=>bnd (body x τ) fun
  |.nx τ'=>forM body xs τ'
  |.ct τ'=>forM body xs τ'
  |.bk τ'=>.ok (.nx τ')
  |.rt d=>.ok (.rt d)
  |.ri d ks vs=>.ok (.ri d ks vs)
noncomputable def pR (cl:Nat->List D->Res D)(s:Sr)(τ:Ev):Res (List D×Ev):=bnd (jA cl s τ) fun its=>match s with
 |.rng1 _=>.ok (its,τ)
 |s=>.ok (ers its,frz (jz s) τ)
mutual
noncomputable def kM:D->Bool
 |.lst o ds=>!o&&fq ds
 |.tup ds=>fq ds
 |.dct o _ ds=>!o&&fq ds
 |_=>Δ
noncomputable def fq:List D->Bool
 |[]=>Δ
 |d::ds=>kM d&&fq ds
end
mutual
noncomputable def gL:D->Bool
 |.lst _ ds=>fV ds
 |.tup ds=>fV ds
 |.dct o _ ds=>o&&fV ds
 |_=>Δ
noncomputable def fV:List D->Bool
 |[]=>Δ
 |d::ds=>gL d&&fV ds
end
noncomputable def ndx:Ev->Bool
 |[]=>Δ
 |none::τ=>ndx τ
 |some d::τ=>gL d&&ndx τ
noncomputable def qK (i:Nat)(τ:Ev):Option D->Res Fl
 |some (.dct Θ ks ds)=>grd (ndx (τ.set i Ξ)&&fV ds) (.ok (.nx (τ.set i (Γ (.dct Δ ks ds)))))
 |_=>stk
noncomputable def uc:Ev->Nat->Bool
 |[],_=>Θ
 |_::_,0=>Δ
 |_::τ,j+1=>uc τ j
noncomputable def ud (τ:Ev):Option Nat->Res Fl
 |none=>.ok (.nx τ)
 |some t=>qK t τ (cq τ t)
noncomputable def pS (τ:Ev):Option Nat->Bool
 |none=>Δ
 |some t=>match cq τ t with
  |some (.dct Δ _ ds)=>gw ds
  |_=>Θ
noncomputable def thN (j i:Nat):Option Nat->Bool
 |none=>Δ
 |some t=>decide (t≠j)&&decide (t≠i)
noncomputable def pT (j i:Nat)(th:Option Nat)(τ:Ev):D->Res Fl
 |.tup [d,.dct Θ ks vs]=>grd (fq vs) (ud ((τ.set i (Γ (.dct Δ ks vs))).set j (Γ d)) th)
 |_=>stk
noncomputable def wZ (j i k:Nat)(τ:Ev):Option D->Res Fl
 |some (.tup ds)=>(match ds[k]? with
  |some d=>.ok (.nx ((τ.set i Ξ).set j (Γ d)))
  |none=>stk)
 |_=>stk
noncomputable def pU (i:Nat)(x:D)(τ:Ev)(ks:List Key)(ds:List D):Option Key->Res Ev
 |some q=>grd (fq ds&&hU ks.length) (.ok (τ.set i (Γ (.dct Δ (f9 ks q) (ers (fL ks ds q x))))))
 |none=>stk
noncomputable def gF (cl:Nat->List D->Res D)(i:Nat)(k:IR)(x:D)(τ:Ev):Option D->Res Ev
 |some (.dct Δ ks ds)=>bnd (evR cl k τ) fun y=>pU i x τ ks ds (iq y)
 |_=>stk
noncomputable def kN (cl:Nat->List D->Res D)(i:Nat)(k:IR)(j:Nat)(p:D×Ev):Res Fl:=match p.1 with
 |.tup [x,y]=>bnd (gF cl i k x p.2 (cq p.2 i)) fun τ'=>.ok (.nx (τ'.set j (Γ y)))
 |_=>stk
noncomputable def mh:D->Bool
 |.tup [.lst Δ rows,.lst Δ r]=>rows.all (fun d=>prD d&&fB d)&&cA r&&hU rows.length
 |_=>Θ
noncomputable def ue (a b i:Nat)(τ:Ev):Option D->Res Fl
 |some d=>grd (mh d&&uc τ b) (.ok (.nx (((τ.set i Ξ).set a Ξ).set b Ξ)))
 |none=>stk
noncomputable def oO (i:Nat)(q:D×Ev):Res Fl:=match cq q.2 i with
 |some (.dct Δ ks vs)=>grd (fq vs) (.ok (.ri q.1 ks vs))
 |_=>stk
mutual
noncomputable def evS (cl:Nat->List D->Res D):IS->Ev->Res Fl
 |.asg tg e,τ=>bnd (evO cl Θ e τ) fun p=>bnd (gR tg p.1 p.2) fun τ'=>.ok (.nx τ')
 |.setix i k e,τ=>bnd (evO cl Θ e τ) fun p=>match cq p.2 i with
  |some (.lst Δ ds)=>bnd (evR cl k p.2) fun
   |.int z=>(match ixN ds.length z with
    |some j=>.ok (.nx (p.2.set i (Γ (.lst Δ (ds.set j p.1)))))
    |none=>stk)
   |_=>stk
  |_=>stk
 |.app i e,τ=>match cq τ i with
  |some (.lst _ _)=>bnd (evO cl Θ e τ) fun p=>(match cq p.2 i with
   |some (.lst Δ ds)=>grd (hU ds.length) (.ok (.nx (p.2.set i (Γ (.lst Δ (ds++[p.1]))))))
   |_=>stk)
  |_=>stk
 |.dset i k e,τ=>bnd (evR cl e τ) fun d=>match cq τ i with
  |some (.dct Δ ks ds)=>bnd (evR cl k τ) fun y=>(match iq y with
   |some q=>grd (fE d&&cA ds&&hU ks.length) (.ok (.nx (τ.set i (Γ (.dct Δ (f9 ks q) (fL ks ds q d))))))
   |none=>stk)
  |_=>stk
 |.reti i e,τ=>bnd (evO cl Δ e τ) (oO i)
 |.dof j e,τ=>bnd (evR cl e τ) fun d=>bnd (sM j τ d) fun τ'=>.ok (.nx τ')
 |.dupd i j,τ=>bnd (ua i τ (cq τ i) (cq τ j)) fun τ'=>.ok (.nx τ')
 |.cio j f es i es2 th,τ=>match cq τ i with
  |some (.dct Δ ks vs)=>grd (fq vs&&pS τ th) (bnd (fy cl es τ) fun ds=>bnd (fy cl es2 τ) fun ds2=>bnd (noX (cl f (ers ds++.dct Δ ks vs::ers ds2))) (pT j i th (frz (cw es++cw es2) τ)))
  |_=>stk
 |.mov j i,τ=>bnd (evO cl Δ (.v i) τ) fun p=>.ok (.nx (p.2.set j (Γ p.1)))
 |.mvx j i k,τ=>wZ j i k τ (cq τ i)
 |.dsety i k e,τ=>bnd (evO cl Θ e τ) fun p=>bnd (gF cl i k p.1 p.2 (cq p.2 i)) fun τ'=>.ok (.nx τ')
 |.dsetp i k j e,τ=>bnd (evO cl Θ e τ) (kN cl i k j)
 |.clrA a b i,τ=>ue a b i τ (cq τ i)
 |.ret e,τ=>bnd (evO cl Δ e τ) fun p=>.ok (.rt p.1)
 |.if_ t a b,τ=>bnd (evT cl t τ) fun r=>if r=Δ then gA cl a τ else gA cl b τ
 |.for_ tg s body,τ=>bnd (pR cl s τ) fun p=>forM (fun x τ=>bnd (gR tg x τ) fun τ'=>gA cl body τ') p.1 p.2
 |.never,_=>stk
noncomputable def gA (cl:Nat->List D->Res D):List IS->Ev->Res Fl
 |[],τ=>.ok (.nx τ)
 |s::r,τ=>bnd (evS cl s τ) fun
  |.nx τ'=>gA cl r τ'
  |.ct τ'=>.ok (.ct τ')
  |.bk τ'=>.ok (.bk τ')
  |.rt d=>.ok (.rt d)
  |.ri d ks vs=>.ok (.ri d ks vs)
end
structure Fn where
 np:Nat
 G:Gm
 body:List IS
 io:Bool:=Θ
noncomputable def iJ (cl:Nat->List D->Res D)(fn:Fn)(ds:List D):Res D:=
 grd (decide (ds.length=fn.np)) (bnd (gA cl fn.body (ds.map Γ++Ρ (fn.G.N.length - fn.np) Ξ)) fun
  |.nx _=>.ok .non
  |.rt d=>.ok d
  |_=>stk)
noncomputable def gV:Nat->List D->Bool
 |0,.dct Δ _ _::_=>Δ
 |p+1,_::ds=>gV p ds
 |_,_=>Θ
noncomputable def iK (cl:Nat->List D->Res D)(fn:Fn)(ds:List D):Res D:=
 grd (decide (ds.length=fn.np)&&gV (fn.G.io.getD 0) ds) (bnd (gA cl fn.body (ds.map Γ++Ρ (fn.G.N.length - fn.np) Ξ)) fun
  |.ri d ks vs=>.ok (.tup [d,.dct Θ ks vs])
  |_=>stk)
abbrev Tb:=Nat->Option Fn
noncomputable def aj (T:Tb):Nat->Nat->List D->Res D
 |0,_,_=>stk
 |n+1,f,ds=>match T f with
  |some fn=>(match fn.io with
   |false=>iJ (aj T n) fn ds
   |true=>iK (aj T n) fn ds)
  |none=>stk
theorem Co {cl:Nat->List D->Res D}{i:Nat}{τ:Ev}:evR cl (.v i) τ=(match cq τ i with|some d=>.ok d|none=>stk):=rfl
theorem Cp {cl:Nat->List D->Res D}{i:Nat}{τ:Ev}{mv:Bool}:evO cl mv (.v i) τ=(match cq τ i with|some d=>if mv=Δ then .ok (d,τ.set i Ξ) else .ok (er d,τ.set i (Γ (er d)))|none=>stk):=rfl
theorem zI:type_of% @IR.casesOn.{0}:=@IR.casesOn.{0}
theorem zT:type_of% @IS.casesOn.{0}:=@IS.casesOn.{0}
section
variable {X:Cx}{pins:List (Ψ×Obj)}{σ:St}{H:Hp}{S:Ψ->Prop}{s:Ω}
theorem Inv.not_both (I:Inv X pins σ H s){a:Ψ}{xs ys:List V}(h1:SqL X.K H a xs)(h2:SqT X.K H a ys):False:=by obtain⟨its,_,⟨o,n,e,c,_⟩,_⟩:=I.list h1;obtain⟨its',_,⟨o',e',c',_⟩,_⟩:=I.tuple h2;rw[e]at e';cases e';rw[c]at c';injection c' with c';exact absurd c' (by decide)
theorem Inv.exc_at (I:Inv X pins σ H s){a:Ψ}{c:Str}(h:SqE X.K H a (.inr c)):∃C o vs,PySem.W.nsIn X.K Ζ c=Γ (Γ (.ref C))/\nameIn X.K C=Γ c/\s.heap.get? a=Γ o/\o.cls=.ref C/\o.data=.fields vs:=by obtain⟨C,o,vs,h0,h1,h2,h3,h4⟩:=h;exact⟨C,o,vs,h0,h1,(I.hok a _ h2).1,h3,h4⟩
theorem Inv.exc_one (I:Inv X pins σ H s){a:Ψ}{c c':Str}(h:SqE X.K H a (.inr c))(k:SqE X.K H a (.inr c')):c=c':=by obtain⟨C,o,vs,_,n1,e,c1,_⟩:=I.exc_at h;obtain⟨C',o',vs',_,n2,e',c2,_⟩:=I.exc_at k;rw[e]at e';cases e';rw[c1]at c2;cases c2;rw[n1]at n2;cases n2;rfl
theorem Inv.exc_tup (I:Inv X pins σ H s){a:Ψ}{c:Str}{xs:List V}(h:SqE X.K H a (.inr c))(k:SqT X.K H a xs):False:=by obtain⟨C,o,vs,_,_,e,c1,_⟩:=I.exc_at h;obtain⟨its',_,⟨o',e',c',_⟩,_⟩:=I.tuple k;rw[e]at e';cases e';rw[c1]at c';cases c'
theorem Inv.exc_lst (I:Inv X pins σ H s){a:Ψ}{c:Str}{xs:List V}(h:SqE X.K H a (.inr c))(k:SqL X.K H a xs):False:=by obtain⟨C,o,vs,_,_,e,c1,_⟩:=I.exc_at h;obtain⟨its',_,⟨o',n,e',c',_⟩,_⟩:=I.list k;rw[e]at e';cases e';rw[c1]at c';cases c'
theorem Inv.dct_at (I:Inv X pins σ H s){a:Ψ}{kvs:List (Key×V)}(h:Rd H a (.dK kvs)):∃o es ep,s.heap.get? a=Γ o/\o.data=.dict es ep:=by obtain⟨_,_,vs,_,o,es,ep,e,c,d,_⟩:=h.ok I.hok;exact⟨o,es,ep,e,d⟩
theorem Inv.dct_tup (I:Inv X pins σ H s){a:Ψ}{kvs:List (Key×V)}{xs:List V}(h:Rd H a (.dK kvs))(k:SqT X.K H a xs):False:=by obtain⟨o,es,ep,e,d⟩:=I.dct_at h;obtain⟨its',_,⟨o',e',c',n,d'⟩,_⟩:=I.tuple k;rw[e]at e';cases e';rw[d]at d';cases d'
theorem Inv.dct_lst (I:Inv X pins σ H s){a:Ψ}{kvs:List (Key×V)}{xs:List V}(h:Rd H a (.dK kvs))(k:SqL X.K H a xs):False:=by obtain⟨o,es,ep,e,d⟩:=I.dct_at h;obtain⟨its',_,⟨o',n,e',c',n',d'⟩,_⟩:=I.list k;rw[e]at e';cases e';rw[d]at d';cases d'
theorem Inv.exc_dct (I:Inv X pins σ H s){a:Ψ}{c:Str}{kvs:List (Key×V)}(h:SqE X.K H a (.inr c))(k:Rd H a (.dK kvs)):False:=by obtain⟨C,o,vs,_,_,e,c1,d1⟩:=I.exc_at h;obtain⟨o',es,ep,e',d⟩:=I.dct_at k;rw[e]at e';cases e';rw[d]at d1;cases d1
theorem Rd.dk {H:Hp}{a:Ψ}{u v:List (Key×V)}(h:Rd H a (.dK u))(k:Rd H a (.dK v)):u=v:=by rcases h with h|⟨o,h⟩<;>rcases k with k|⟨o',k⟩<;>(rw[h]at k;cases k;try rfl)
mutual
theorem HRep.one (I:Inv X pins σ H s):∀ {v:V}{d e:D},HRep X.K S H v d->HRep X.K S H v e->er d=er e
 |_,_,_,.non,h=>by cases h;rfl
 |_,_,_,.bl b,h=>by cases h;rfl
 |_,_,_,.int i,h=>by cases h;rfl
 |_,_,_,.str x,h=>by cases h;rfl
 |_,_,_,.exc h0,h=>by
  cases h with
  |exc k1=>exact congrArg D.exc (I.exc_one h0 k1)
  |tup k1 k2=>exact(I.exc_tup h0 k1).elim
  |lst k0 k1 k2=>exact(I.exc_lst h0 (.inl k1)).elim
  |lstK k1 k2=>exact(I.exc_lst h0 k1.sq).elim
  |dct k0 k1 k2 k3=>exact(I.exc_dct h0 k1).elim
 |_,_,_,.tup h1 h2,h=>by
  cases h with
  |exc k1=>exact(I.exc_tup k1 h1).elim
  |tup k1 k2=>have e:=I.tuple_inj h1 k1;subst e;rw[er,er,HReps.one I h2 k2]
  |lst k0 k1 k2=>exact(I.not_both (.inl k1) h1).elim
  |lstK k1 k2=>exact(I.not_both k1.sq h1).elim
  |dct k0 k1 k2 k3=>exact(I.dct_tup k1 h1).elim
 |_,_,_,.lst h0 h1 h2,h=>by
  cases h with
  |exc k1=>exact(I.exc_lst k1 (.inl h1)).elim
  |tup k1 k2=>exact(I.not_both (.inl h1) k1).elim
  |lst k0 k1 k2=>have e:=I.list_inj (.inl h1) (.inl k1);subst e;rw[er,er,HReps.one I h2 k2]
  |lstK k1 k2=>have e:=I.list_inj (.inl h1) k1.sq;subst e;rw[er,er,HReps.one I h2 k2]
  |dct k0 k1 k2 k3=>exact(I.dct_lst k1 (.inl h1)).elim
 |_,_,_,.lstK h1 h2,h=>by
  cases h with
  |exc k1=>exact(I.exc_lst k1 h1.sq).elim
  |tup k1 k2=>exact(I.not_both h1.sq k1).elim
  |lst k0 k1 k2=>have e:=I.list_inj h1.sq (.inl k1);subst e;rw[er,er,HReps.one I h2 k2]
  |lstK k1 k2=>have e:=I.list_inj h1.sq k1.sq;subst e;rw[er,er,HReps.one I h2 k2]
  |dct k0 k1 k2 k3=>exact(I.dct_lst k1 h1.sq).elim
 |_,_,_,.dct h0 h1 h2 h3,h=>by
  cases h with
  |exc k1=>exact(I.exc_dct k1 h1).elim
  |tup k1 k2=>exact(I.dct_tup h1 k1).elim
  |lst k0 k1 k2=>exact(I.dct_lst h1 (.inl k1)).elim
  |lstK k1 k2=>exact(I.dct_lst h1 k1.sq).elim
  |dct k0 k1 k2 k3=>have e:=Rd.dk h1 k1;subst e;rw[er,er,HReps.one I h3 k3,<- h2,<- k2]
theorem HReps.one (I:Inv X pins σ H s):∀ {vs:List V}{ds es:List D},HReps X.K S H vs ds->HReps X.K S H vs es->ers ds=ers es
 |_,_,_,.nil,h=>by cases h;rfl
 |_,_,_,.cons h1 h2,h=>by
  cases h with
  |cons k1 k2=>rw[ers,ers,HRep.one I h1 k1,HReps.one I h2 k2]
end
end
theorem gY {α β:Type}{x:Res α}{f:α->Res β}{b:β}(h:bnd x f=.ok b):∃a,x=.ok a/\f a=.ok b:=by
 cases x with
 |error e=>cases h
 |ok a=>exact⟨a,rfl,h⟩
theorem pV {α:Type}{c:Bool}{x:Res α}{b:α}(h:grd c x=.ok b):c=Δ/\x=.ok b:=by
 unfold grd at h
 induction c using zB with
 |true=>exact⟨rfl,h⟩
 |false=>cases h
theorem iw {f:D->D->Res Bool}(hf:∀d e r,f d e=.ok r->er d=er e->r=Δ):∀ {ds es:List D}{r:Bool},gp f ds es=.ok r->ers ds=ers es->r=Δ
 |[],[],r,h,_=>by cases h;rfl
 |[],_::_,_,_,h=>by rw[ers,ers]at h;cases h
 |_::_,[],_,_,h=>by rw[ers,ers]at h;cases h
 |a::ds,b::es,r,h,h'=>by rw[ers,ers]at h';injection h' with e1 e2;obtain⟨x,hx,h⟩:=gY (show bnd (f a b) (fun x=>bnd (gp f ds es) fun y=>.ok (x&&y))=.ok r from h);obtain⟨y,hy,h⟩:=gY h;cases h;rw[hf a b x hx e1,iw hf hy e2];rfl
theorem jB:∀(n:Nat) (d e:D) (r:Bool),eqN n d e=.ok r->er d=er e->r=Δ
 |0,_,_,_,h,_=>by cases h
 |n+1,d,e,r,h,h'=>by
  induction d using zD with
  |tup ds=>
   induction e using zD with
   |tup es=>rw[er,er]at h';injection h' with e1;exact iw (jB n) h e1
   |non=>rw[er,er]at h';cases h'
   |bl _=>rw[er,er]at h';cases h'
   |int _=>rw[er,er]at h';cases h'
   |str _=>rw[er,er]at h';cases h'
   |lst _ _=>rw[er,er]at h';cases h'
   |exc _=>cases h
   |dct _ _ _=>cases h
  |lst o ds=>
   induction e using zD with
   |lst o' es=>rw[er,er]at h';injection h' with _ e1;exact iw (jB n) h e1
   |non=>rw[er,er]at h';cases h'
   |bl _=>rw[er,er]at h';cases h'
   |int _=>rw[er,er]at h';cases h'
   |str _=>rw[er,er]at h';cases h'
   |tup _=>rw[er,er]at h';cases h'
   |exc _=>cases h
   |dct _ _ _=>cases h
  |exc _=>cases h
  |dct _ _ _=>induction e using zD<;>cases h
  |non=>induction e using zD<;>first|(cases h;done)|(cases h;rfl)|(exfalso;simp[er]at h')
  |bl b=>induction e using zD<;>first|(simp only[er,D.bl.injEq]at h';subst h';cases h;simp)|(exfalso;simp[er]at h')
  |int b=>induction e using zD<;>first|(simp only[er,D.int.injEq]at h';subst h';cases h;simp)|(exfalso;simp[er]at h')
  |str b=>induction e using zD<;>first|(simp only[er,D.str.injEq]at h';subst h';cases h;simp)|(exfalso;simp[er]at h')
theorem oP {f:D->D->Res Bool}:∀ {ds es:List D}{r:Bool},gp f ds es=.ok r->ds.length≠es.length->r=Θ
 |[],[],_,_,h=>absurd rfl h
 |[],_::_,_,h,_=>by cases h;rfl
 |_::_,[],_,h,_=>by cases h;rfl
 |a::ds,b::es,r,h,n=>by obtain⟨x,hx,h⟩:=gY (show bnd (f a b) (fun x=>bnd (gp f ds es) fun y=>.ok (x&&y))=.ok r from h);obtain⟨y,hy,h⟩:=gY h;cases h;rw[oP hy (fun z=>n (by rw[List.length_cons,List.length_cons,z]))];simp
theorem qL {f:D->D->Res Bool}:∀ {ds es:List D}{r:Bool},gp f ds es=.ok r->ds.length=es.length->
  ∃e:Nat->Bool,(∀j a b,ds[j]? = Γ a->es[j]? = Γ b->f a b=.ok (e j))/\r=(List.range ds.length).all e
 |[],[],r,h,_=>by cases h;exact⟨fun _=>Δ,fun j a b h=>by simp at h,rfl⟩
 |[],_::_,_,_,h=>by cases h
 |_::_,[],_,_,h=>by cases h
 |a::ds,b::es,r,h,n=>by
  obtain⟨x,hx,h⟩:=gY (show bnd (f a b) (fun x=>bnd (gp f ds es) fun y=>.ok (x&&y))=.ok r from h);obtain⟨y,hy,h⟩:=gY h;cases h;obtain⟨e,h1,h2⟩:=qL hy (by simpa using n);refine⟨fun j=>match j with|0=>x|k+1=>e k,fun j a' b' e1 e2=>?_,?_⟩
  ·cases j with
   |zero=>simp at e1 e2;subst e1 e2;exact hx
   |succ k=>exact h1 k a' b' (by simpa using e1) (by simpa using e2)
  ·rw[h2,List.length_cons,List.range_succ_eq_map,List.all_cons,List.all_map];rfl
section
variable {X:Cx}{pins:List (Ψ×Obj)}{σ:St}{H:Hp}{S:Ψ->Prop}{s:Ω}
structure EqAll (A:Η)(s:Ω)(v u:Φ)(r:Bool):Prop where
 eq:EqAt A s v u r
 rc:RcAt A s v u r
 ne:RcNeAt A s v u (!r)
theorem oQ (n:Nat)(A:Η)(ih:∀(x y:V)(v u:Φ)(d e:D)(r:Bool),HRep X.K S H x d->HRep X.K S H y e->RelV x v->RelV y u->eqN n d e=.ok r->EqAt A.in1 s v u r)
  {xs ys:List V}{ds es:List D}{its its':List Φ}{r:Bool} (rv:Vals xs its) (rv':Vals ys its') (h2:HReps X.K S H xs ds) (k2:HReps X.K S H ys es) (hr:gp (eqN n) ds es=.ok r) :
  ∃e:Nat->Bool,(∀j (q1:j < its.toArray.size) (q2:j < its'.toArray.size),EqAt A.in1 s its.toArray[j] its'.toArray[j] (e j))/\r=((List.range (min its.toArray.size its'.toArray.size)).all e&&its.toArray.size == its'.toArray.size):=by
 have l1:=h2.length;have l2:=k2.length;have l3:=rv.length;have l4:=rv'.length;have pair:∀j (j1:j < its.toArray.size) (j2:j < its'.toArray.size) (b:Bool) (d1:j < ds.length) (d2:j < es.length),eqN n ds[j] es[j]=.ok b->EqAt A.in1 s its.toArray[j] its'.toArray[j] b:=by
  intro j j1 j2 b d1 d2 hb;obtain⟨x',e1,m1⟩:=h2.get (i:=j) (d:=ds[j]) (by simp);obtain⟨y',e2,m2⟩:=k2.get (i:=j) (d:=es[j]) (by simp);obtain⟨v',ev,rv1⟩:=rv.get e1;obtain⟨u',eu,ru1⟩:=rv'.get e2;have hv:its.toArray[j]=v':=by have:=(B_.mp ev).2;simpa using this
  have hu':its'.toArray[j]=u':=by have:=(B_.mp eu).2;simpa using this
  rw[hv,hu'];exact ih x' y' v' u' _ _ _ m1 m2 rv1 ru1 hb
 have z1:its.toArray.size=ds.length:=by simp;omega
 have z2:its'.toArray.size=es.length:=by simp;omega
 by_cases hl:ds.length=es.length
 ·obtain⟨e,q1,q2⟩:=qL hr hl;refine⟨e,fun j j1 j2=>pair j j1 j2 _ (by omega) (by omega) (q1 j _ _ (by simp) (by simp)),?_⟩;rw[q2,z1,z2,hl];simp
 ·have hr':=oP hr hl;have each:∀(ds es:List D) (r:Bool),gp (eqN n) ds es=.ok r->∀j (q1:j < ds.length) (q2:j < es.length),∃b,eqN n ds[j] es[j]=.ok b:=by
   intro ds
   induction ds with
   |nil=>intro es r _ j q1;simp at q1
   |cons a ds ih=>
    intro es r h j q1 q2
    induction es using zL with
    |nil=>simp at q2
    |cons b es=>
     obtain⟨x,hx,h⟩:=gY (show bnd (eqN n a b) (fun x=>bnd (gp (eqN n) ds es) fun y=>.ok (x&&y))=.ok r from h);obtain⟨y,hy,h⟩:=gY h;cases j with
     |zero=>exact⟨x,hx⟩
     |succ k=>exact ih es y hy k (by simpa using q1) (by simpa using q2)
  refine⟨fun j=>if q:j < ds.length/\j < es.length then((match eqN n (ds[j]'q.1) (es[j]'q.2) with|.ok b=>b|.error _=>Θ)) else Θ,fun j j1 j2=>?_,?_⟩
  ·have d1:j < ds.length:=by omega
   have d2:j < es.length:=by omega
   obtain⟨b,hb⟩:=each ds es r hr j d1 d2;have q:=pair j j1 j2 b d1 d2 hb;show EqAt A.in1 s its.toArray[j] its'.toArray[j] (dite _ _ _);rw[dif_pos (show j < ds.length/\j < es.length from⟨d1,d2⟩),hb];exact q
  ·rw[hr'];have:(its.toArray.size == its'.toArray.size)=Θ:=by rw[beq_eq_false_iff_ne,z1,z2];exact hl
   rw[this,Bool.and_false]
theorem uf (I:Inv X pins σ H s)(n:Nat)(A:Η)(ih:∀(x y:V)(v u:Φ)(d e:D)(r:Bool),HRep X.K S H x d->HRep X.K S H y e->RelV x v->RelV y u->eqN n d e=.ok r->EqAt A.in1 s v u r)
  {a b:Ψ}{o o':Bool}{xs ys:List V}{ds es:List D}{r:Bool} (ha:SqL X.K H a xs) (hb:SqL X.K H b ys) (h2:HReps X.K S H xs ds) (k2:HReps X.K S H ys es)
  (m1:HRep X.K S H (.ref a) (.lst o ds)) (m2:HRep X.K S H (.ref b) (.lst o' es)) (hr:gp (eqN n) ds es=.ok r) (hu0:A.units < cLine):EqAll A s (.ref a) (.ref b) r:=by
 obtain⟨its,rv,p,_⟩:=I.list ha;obtain⟨its',rv',p',_⟩:=I.list hb;obtain⟨e,he,hre⟩:=oQ n A ih rv rv' h2 k2 hr;have both:RcAt A s (.ref a) (.ref b) r/\RcNeAt A s (.ref a) (.ref b) (!r):=by
  by_cases hl:its.toArray.size=its'.toArray.size
  ·have hre':r=(List.range its.toArray.size).all e:=by rw[hre,<- hl,Nat.min_self];simp
   rw[hre'];exact⟨.lists p.isList p'.isList hl hu0 he,.lists p.isList p'.isList hl hu0 he⟩
  ·have hne:(its.toArray.size != its'.toArray.size)=Δ:=by simpa using hl
   have hre':r=Θ:=by
    rw[hre];have:(its.toArray.size == its'.toArray.size)=Θ:=by rw[beq_eq_false_iff_ne];exact hl
    rw[this,Bool.and_false]
   rw[hre'];exact⟨.lists_lengths p.isList p'.isList hne hu0,.lists_lengths p.isList p'.isList hne hu0⟩
 refine⟨?_,both.1,both.2⟩;by_cases hab:a=b
 ·subst hab;have hd:=HRep.one I m1 m2;rw[er,er]at hd;injection hd with _ hd;rw[iw (jB n) hr hd];exact .same _
 ·exact .of_refs hab both.1
set_option maxHeartbeats 4000000 in
theorem nk (I:Inv X pins σ H s):∀(n:Nat) (A:Η) (x y:V) (v u:Φ) (d e:D) (r:Bool),HRep X.K S H x d->HRep X.K S H y e->RelV x v->RelV y u->eqN n d e=.ok r->
  A.units+n < cLine->EqAll A s v u r
 |0,_,_,_,_,_,_,_,_,_,_,_,_,h,_=>by cases h
 |n+1,A,x,y,v,u,d,e,r,hx,hy,rx,ry,h,hu=>by
  have hu0:A.units < cLine:=by omega
  have hu1:A.in1.units+n < cLine:=by show A.units+1+n < cLine;omega
  have ih:∀(x y:V) (v u:Φ) (d e:D) (r:Bool),HRep X.K S H x d->HRep X.K S H y e->RelV x v->RelV y u->eqN n d e=.ok r->EqAt A.in1 s v u r:=
   fun x y v u d e r a1 a2 a3 a4 a5=>(nk I n A.in1 x y v u d e r a1 a2 a3 a4 a5 hu1).eq
  induction d using zD with
  |non=>
   cases hx.nonR;cases rx
   induction e using zD with
   |non=>cases hy.nonR;cases ry;cases h;exact⟨.same _,.none_none,.none_none⟩
   |bl b'=>cases hy.blR;cases ry;cases h;exact⟨.none_bool _,.none_bool _,.none_bool _⟩
   |int i'=>cases hy.intR;obtain⟨t2,rfl⟩:=ry;cases h;exact⟨.none_int _ _,.none_int _ _,.none_int _ _⟩
   |str z'=>cases hy.strR;obtain⟨t2,rfl⟩:=ry;cases h;exact⟨.none_str _ _,.none_str _ _,.none_str _ _⟩
   |tup es=>obtain⟨a2,xs2,rfl,q2,m2⟩:=hy.tupR;cases ry;obtain⟨its2,rv2,p2,_⟩:=I.tuple q2;cases h;exact⟨.none_tuple p2 hu0,.none_tuple p2 hu0,.none_tuple p2 hu0⟩
   |lst o' es=>obtain⟨a2,xs2,rfl,q2,m2⟩:=hy.lstR;cases ry;obtain⟨its2,rv2,p2,_⟩:=I.list q2;cases h;exact⟨.none_list p2.isList hu0,.none_list p2.isList hu0,.none_list p2.isList hu0⟩
   |exc _=>cases h
   |dct _ _ _=>cases h
  |bl b=>
   cases hx.blR;cases rx
   induction e using zD with
   |non=>cases hy.nonR;cases ry;cases h;exact⟨.bool_none _,.bool_none _,.bool_none _⟩
   |bl b'=>cases hy.blR;cases ry;cases h;exact⟨.bool_bool _ _,.bool_bool _ _,.bool_bool _ _⟩
   |int i'=>cases hy.intR;obtain⟨t2,rfl⟩:=ry;cases h;exact⟨.bool_int _ _ _,.bool_int _ _ _,.bool_int _ _ _⟩
   |str z'=>cases hy.strR;obtain⟨t2,rfl⟩:=ry;cases h;exact⟨.bool_str _ _ _,.bool_str _ _ _,.bool_str _ _ _⟩
   |tup es=>obtain⟨a2,xs2,rfl,q2,m2⟩:=hy.tupR;cases ry;obtain⟨its2,rv2,p2,_⟩:=I.tuple q2;cases h;exact⟨.bool_tuple _ p2 hu0,.bool_tuple _ p2 hu0,.bool_tuple _ p2 hu0⟩
   |lst o' es=>obtain⟨a2,xs2,rfl,q2,m2⟩:=hy.lstR;cases ry;obtain⟨its2,rv2,p2,_⟩:=I.list q2;cases h;exact⟨.bool_list _ p2.isList hu0,.bool_list _ p2.isList hu0,.bool_list _ p2.isList hu0⟩
   |exc _=>cases h
   |dct _ _ _=>cases h
  |int i=>
   cases hx.intR;obtain⟨t1,rfl⟩:=rx
   induction e using zD with
   |non=>cases hy.nonR;cases ry;cases h;exact⟨.int_none _ _,.int_none _ _,.int_none _ _⟩
   |bl b'=>cases hy.blR;cases ry;cases h;exact⟨.int_bool _ _ _,.int_bool _ _ _,.int_bool _ _ _⟩
   |int i'=>cases hy.intR;obtain⟨t2,rfl⟩:=ry;cases h;exact⟨.int_int _ _ _ _,.int_int _ _ _ _,.int_int _ _ _ _⟩
   |str z'=>cases hy.strR;obtain⟨t2,rfl⟩:=ry;cases h;exact⟨.int_str _ _ _ _,.int_str _ _ _ _,.int_str _ _ _ _⟩
   |tup es=>obtain⟨a2,xs2,rfl,q2,m2⟩:=hy.tupR;cases ry;obtain⟨its2,rv2,p2,_⟩:=I.tuple q2;cases h;exact⟨.int_tuple _ _ p2 hu0,.int_tuple _ _ p2 hu0,.int_tuple _ _ p2 hu0⟩
   |lst o' es=>obtain⟨a2,xs2,rfl,q2,m2⟩:=hy.lstR;cases ry;obtain⟨its2,rv2,p2,_⟩:=I.list q2;cases h;exact⟨.int_list _ _ p2.isList hu0,.int_list _ _ p2.isList hu0,.int_list _ _ p2.isList hu0⟩
   |exc _=>cases h
   |dct _ _ _=>cases h
  |str z=>
   cases hx.strR;obtain⟨t1,rfl⟩:=rx
   induction e using zD with
   |non=>cases hy.nonR;cases ry;cases h;exact⟨.str_none _ _,.str_none _ _,.str_none _ _⟩
   |bl b'=>cases hy.blR;cases ry;cases h;exact⟨.str_bool _ _ _,.str_bool _ _ _,.str_bool _ _ _⟩
   |int i'=>cases hy.intR;obtain⟨t2,rfl⟩:=ry;cases h;exact⟨.str_int _ _ _ _,.str_int _ _ _ _,.str_int _ _ _ _⟩
   |str z'=>cases hy.strR;obtain⟨t2,rfl⟩:=ry;cases h;exact⟨.str_str _ _ _ _,.str_str _ _ _ _,.str_str _ _ _ _⟩
   |tup es=>obtain⟨a2,xs2,rfl,q2,m2⟩:=hy.tupR;cases ry;obtain⟨its2,rv2,p2,_⟩:=I.tuple q2;cases h;exact⟨.str_tuple _ _ p2 hu0,.str_tuple _ _ p2 hu0,.str_tuple _ _ p2 hu0⟩
   |lst o' es=>obtain⟨a2,xs2,rfl,q2,m2⟩:=hy.lstR;cases ry;obtain⟨its2,rv2,p2,_⟩:=I.list q2;cases h;exact⟨.str_list _ _ p2.isList hu0,.str_list _ _ p2.isList hu0,.str_list _ _ p2.isList hu0⟩
   |exc _=>cases h
   |dct _ _ _=>cases h
  |tup ds=>
   obtain⟨a1,xs1,rfl,q1,m1⟩:=hx.tupR;cases rx;obtain⟨its1,rv1,p1,_⟩:=I.tuple q1
   induction e using zD with
   |non=>cases hy.nonR;cases ry;cases h;exact⟨.tuple_none p1 hu0,.tuple_none p1 hu0,.tuple_none p1 hu0⟩
   |bl b'=>cases hy.blR;cases ry;cases h;exact⟨.tuple_bool _ p1 hu0,.tuple_bool _ p1 hu0,.tuple_bool _ p1 hu0⟩
   |int i'=>cases hy.intR;obtain⟨t2,rfl⟩:=ry;cases h;exact⟨.tuple_int _ _ p1 hu0,.tuple_int _ _ p1 hu0,.tuple_int _ _ p1 hu0⟩
   |str z'=>cases hy.strR;obtain⟨t2,rfl⟩:=ry;cases h;exact⟨.tuple_str _ _ p1 hu0,.tuple_str _ _ p1 hu0,.tuple_str _ _ p1 hu0⟩
   |tup es=>
    have hx':=hx;have hy':=hy;obtain⟨a2,xs2,rfl,q2,m2⟩:=hy.tupR;cases ry;obtain⟨its2,rv2,p2,_⟩:=I.tuple q2;have hr:gp (eqN n) ds es=.ok r:=h;obtain⟨e,he,hre⟩:=oQ n A ih rv1 rv2 m1 m2 hr;refine⟨?_,?_,?_⟩
    ·by_cases hab:a1=a2
     ·subst hab;have hd:=HRep.one I hx' hy';rw[er,er]at hd;injection hd with hd;rw[iw (jB n) hr hd];exact .same _
     ·rw[hre];exact .of_refs hab (.tuples p1 p2 hu0 he)
    ·rw[hre];exact .tuples p1 p2 hu0 he
    ·rw[hre];exact .tuples p1 p2 hu0 he
   |lst o' es=>obtain⟨a2,xs2,rfl,q2,m2⟩:=hy.lstR;cases ry;obtain⟨its2,rv2,p2,_⟩:=I.list q2;cases h;exact⟨.tuple_list p1 p2.isList hu0,.tuple_list p1 p2.isList hu0,.tuple_list p1 p2.isList hu0⟩
   |exc _=>cases h
   |dct _ _ _=>cases h
  |lst o ds=>
   obtain⟨a1,xs1,rfl,q1,m1⟩:=hx.lstR;cases rx;obtain⟨its1,rv1,p1,_⟩:=I.list q1
   induction e using zD with
   |non=>cases hy.nonR;cases ry;cases h;exact⟨.list_none p1.isList hu0,.list_none p1.isList hu0,.list_none p1.isList hu0⟩
   |bl b'=>cases hy.blR;cases ry;cases h;exact⟨.list_bool _ p1.isList hu0,.list_bool _ p1.isList hu0,.list_bool _ p1.isList hu0⟩
   |int i'=>cases hy.intR;obtain⟨t2,rfl⟩:=ry;cases h;exact⟨.list_int _ _ p1.isList hu0,.list_int _ _ p1.isList hu0,.list_int _ _ p1.isList hu0⟩
   |str z'=>cases hy.strR;obtain⟨t2,rfl⟩:=ry;cases h;exact⟨.list_str _ _ p1.isList hu0,.list_str _ _ p1.isList hu0,.list_str _ _ p1.isList hu0⟩
   |tup es=>obtain⟨a2,xs2,rfl,q2,m2⟩:=hy.tupR;cases ry;obtain⟨its2,rv2,p2,_⟩:=I.tuple q2;cases h;exact⟨.list_tuple p1.isList p2 hu0,.list_tuple p1.isList p2 hu0,.list_tuple p1.isList p2 hu0⟩
   |lst o' es=>have hx':=hx;have hy':=hy;obtain⟨a2,xs2,rfl,q2,m2⟩:=hy.lstR;cases ry;obtain⟨its2,rv2,p2,_⟩:=I.list q2;exact uf I n A ih q1 q2 m1 m2 hx' hy' h hu0
   |exc _=>cases h
   |dct _ _ _=>cases h
  |exc _=>cases h
  |dct _ _ _=>induction e using zD<;>cases h
end
abbrev nw (S:Ψ->Prop)(H:Hp):Ψ->Prop:=fun a=>S a∨H a=Ξ
abbrev Kk (K:Frag)(S:Ψ->Prop)(H:Hp)(Q:VK):D->Prop:=fun d=>∀w H',dO H H'->HRep K (nw S H) H' w d->Q w H'
theorem HRep.nw {K:Frag}{S:Ψ->Prop}{H:Hp}{v:V}{d:D}(h:HRep K S H v d):HRep K (nw S H) H v d:=h.mono (fun _=>.inl) (.refl _)
theorem Ax {K:Frag}{S:Ψ->Prop}{H:Hp}{p:Ψ}{vs:List V}{ds:List D}(hp:H p=Ξ)(h:HReps K S H vs ds):HRep K (nw S H) (upd H p (.tup vs)) (.ref p) (.tup ds):=
 .tup (.inl (.inl dP)) (h.mono (fun _=>.inl) (.upd hp))
theorem pW {K:Frag}{S:Ψ->Prop}{H:Hp}{p:Ψ}{vs:List V}{ds:List D}{o:Bool}(hp:H p=Ξ)(h:HReps K S H vs ds):HRep K (nw S H) (upd H p (.lst vs)) (.ref p) (.lst o ds):=
 .lst (.inr hp) (.inl dP) (h.mono (fun _=>.inl) (.upd hp))
noncomputable def bop:BOp->Operator
 |.add=>.Add|.sub=>.Sub|.mul=>.Mult|.fdiv=>.FloorDiv|.mod=>.Mod|.pow=>.Pow
noncomputable def cop:COp->CmpOp
 |.eq=>.Eq|.ne=>.NotEq|.lt=>.Lt|.le=>.LtE|.gt=>.Gt|.ge=>.GtE|.in_=>.In|.nin=>.NotIn|.is_=>.Is|.isn=>.IsNot
def En (K:Frag)(ex:Str->Prop)(op:BOp):R2:=fun x y H Q=>∃S d e,HRep K S H x d/\HRep K S H y e/\PO' ex (opB op d e) (Kk K S H Q)
def Eo (K:Frag)(ex:Str->Prop)(op:COp):R2:=fun x y H Q=>∃S d e,HRep K S H x d/\HRep K S H y e/\PO' ex (opC op d e) fun r=>Q (.bl r) H
section
variable {X:Cx}{ex:Str->Prop}
theorem fR {n:Nat}(h:f7 n=Δ):n<=Ε:=r_ h
theorem iQ {n:Nat}(h:hU n=Δ):n < Ε:=r_ h
theorem qM:OpR X (binaryOp .Add) (fun x y H Q=>∃l b xs zs,x=.ref l/\y=.ref b/\Ls X.K H l xs/\Ls X.K H b zs/\xs.length+zs.length<=Ε/\∀p,H p=Ξ->Q (.ref p) (upd H p (.lst (xs++zs)))):=by
 intro pins s σ H x y v u Q I rx ry h;obtain⟨l,b,xs,zs,rfl,rfl,hH,hB,hz,q⟩:=h;cases rx;cases ry;obtain⟨hl,its,n,r,e⟩:=I.ls hH;obtain⟨hl2,its2,n2,r2,e'⟩:=I.ls hB;have e1:=r.length;have e2:=r2.length;refine PySem.P.add_list e e' ?_ (by rw[z_,z_];omega);have ea:its.toArray++its2.toArray=(its++its2).toArray:=by simp
 rw[ea];exact⟨.ref _,_,I.lnew (t':=s.toks) (r.append r2) (by rw[t_];omega),rfl,q _ I.fresh⟩
theorem ug {vs:List V}{its:List Φ}(r:Vals vs its):∀k:Nat,Vals (Ρ k vs).flatten (Ρ k its).flatten:=r.rep
theorem qN:OpR X (binaryOp .Mult) (fun x y H Q=>∃l k xs,x=.ref l/\y=.int k/\Ls X.K H l xs/\0<=k/\k<=16000/\xs.length<=1000/\∀p,H p=Ξ->Q (.ref p) (upd H p (.lst (Ρ k.toNat xs).flatten))):=by
 intro pins s σ H x y v u Q I rx ry h;obtain⟨l,k,xs,rfl,rfl,hH,h1,h2,hx,q⟩:=h;cases rx;obtain⟨t,rfl⟩:=ry;obtain⟨hl,its,n,r,e⟩:=I.ls hH;have el:=r.length;have hz:xs.length*k.toNat<=1000*16000:=Nat.mul_le_mul hx (by omega);have big:1000*16000<=Ε:=by decide
 have hsz:its.toArray.size*k.toNat<=Ε:=by rw[z_,<- el];omega
 have c1:¬its.toArray.size*k.toNat > (2 ^ 63 - 1) / 8:=by
  have:(Ε:Nat)<=(2 ^ 63 - 1) / 8:=by decide
  omega
 have c2:¬(!Builtin.List.listFitsIndex k)=Δ:=by rw[fitsIndex_both (by omega) (by omega)];exact EC
 have c3:¬Builtin.List.listTooLong (its.toArray.size*k.toNat)=Δ:=by rw[tP hsz];exact EC
 have f0:∀m:Nat,List.foldl (fun a b=>a++b) #[] (Ρ m its.toArray)=(Ρ m its).flatten.toArray:=fun m=>by have z:=foldl_rep its m [];rw[List.nil_append]at z;exact z
 have f1:List.foldl (fun a b=>a++b) #[] (Ρ (if its.toArray.isEmpty=Δ then 0 else k.toNat) its.toArray)=(Ρ k.toNat its).flatten.toArray:=by
  rw[f0]
  induction its using zL with
  |nil=>simp
  |cons _ _=>rw[b_ (by simp)]
 refine wpAny_binaryOp_repeat_ref (T:="list") (U:="int") (by decide) ⟨_,e,rfl⟩ (fun s'=>typeIs_int s' k t) noFill_list_mul F.fills_int_mul F.slot_int_rmul repeat_list F.slot_int_index.lookup (call_meets F.slot_int_rmul (typeIs_int s k t) F.entry_int_rmul (F.args_int_rmul_2 _ _) (int___rmul___int_list k t l its.toArray n) ⟨e,rfl,⟨_,e,rfl⟩,call_meets F.slot_list_mul ⟨_,e,rfl⟩ F.entry_list_mul (F.args_list_mul_2 _ _) (AutoListH.list___mul___list_int_3 l its.toArray n k t c2 c1 c3) ⟨e,?_⟩⟩);rw[f1];exact⟨.ref _,_,I.lnew (t':=s.toks) (ug r k.toNat) (by rw[len_rep,Nat.mul_comm];omega),rfl,q _ I.fresh⟩
theorem HReps.rep {K:Frag}{S:Ψ->Prop}{H:Hp}{vs:List V}{ds:List D}(m:HReps K S H vs ds):∀k:Nat,HReps K S H (Ρ k vs).flatten (Ρ k ds).flatten
 |0=>.nil
 |k+1=>by rw[List.replicate_succ,List.replicate_succ,List.flatten_cons,List.flatten_cons];exact m.append (HReps.rep m k)
theorem Ay (op:BOp):OpR X (binaryOp (bop op)) (En X.K ex op):=by
 intro pins s σ H x y v u Q I rx ry h;obtain⟨S,d,e,hx,hy,h⟩:=h;have stuck:∀ {P:Prop},opB op d e=stk->P:=fun z=>by rw[z]at h;exact h.no.elim
 cases op with
 |add=>
  induction d using zD with
  |int a=>
   induction e using zD with
   |int b=>cases hx.intR;cases hy.intR;exact Ae pins s σ H _ _ v u Q I rx ry ⟨a,b,rfl,rfl,h.ok _ _ (.refl _) (.int _)⟩
   |_=>exact stuck rfl
  |str a=>
   induction e using zD with
   |str b=>cases hx.strR;cases hy.strR;obtain⟨g,h⟩:=PO'.grd h;exact pM pins s σ H _ _ v u Q I rx ry ⟨a,b,rfl,rfl,fR g,h.ok _ _ (.refl _) (.str _)⟩
   |_=>exact stuck rfl
  |lst o a=>
   induction e using zD with
   |lst o' b=>obtain⟨p,xs,rfl,q1,m1⟩:=hx.lstL;obtain⟨p',ys,rfl,q2,m2⟩:=hy.lstL;obtain⟨g,h⟩:=PO'.grd h;have g':=fR g;have l1:=m1.length;have l2:=m2.length;exact qM pins s σ H _ _ v u Q I rx ry ⟨p,p',xs,ys,rfl,rfl,q1,q2,by omega,fun z hz=>h.ok _ _ (.upd hz) (pW hz (m1.append m2))⟩
   |_=>exact stuck rfl
  |_=>exact stuck rfl
 |sub=>
  induction d using zD with
  |int a=>
   induction e using zD with
   |int b=>cases hx.intR;cases hy.intR;exact Af pins s σ H _ _ v u Q I rx ry ⟨a,b,rfl,rfl,h.ok _ _ (.refl _) (.int _)⟩
   |_=>exact stuck rfl
  |_=>exact stuck rfl
 |mul=>
  induction d using zD with
  |int a=>
   induction e using zD with
   |int b=>cases hx.intR;cases hy.intR;obtain⟨g,h⟩:=PO'.grd h;rw[EJ]at g;exact Ag pins s σ H _ _ v u Q I rx ry ⟨a,b,rfl,rfl,g.elim (fun z=>.inl (r_ z)) (fun z=>.inr (r_ z)),h.ok _ _ (.refl _) (.int _)⟩
   |_=>exact stuck rfl
  |str a=>
   induction e using zD with
   |int b=>cases hx.strR;cases hy.intR;obtain⟨g,h⟩:=PO'.grd h;have g':=r_ g;exact pO pins s σ H _ _ v u Q I rx ry ⟨a,b,rfl,rfl,g'.1,g'.2.1,g'.2.2,h.ok _ _ (.refl _) (.str _)⟩
   |_=>exact stuck rfl
  |lst o a=>
   induction e using zD with
   |int b=>obtain⟨p,xs,rfl,q1,m1⟩:=hx.lstL;cases hy.intR;obtain⟨g,h⟩:=PO'.grd h;have g':=r_ g;have l1:=m1.length;exact qN pins s σ H _ _ v u Q I rx ry ⟨p,b,xs,rfl,rfl,q1,g'.1,g'.2.1,by rw[l1];exact g'.2.2,fun z hz=>h.ok _ _ (.upd hz) (pW hz (m1.rep _))⟩
   |_=>exact stuck rfl
  |_=>exact stuck rfl
 |fdiv=>
  induction d using zD with
  |int a=>
   induction e using zD with
   |int b=>cases hx.intR;cases hy.intR;obtain⟨g,h⟩:=PO'.grd h;exact wy pins s σ H _ _ v u Q I rx ry ⟨a,b,rfl,rfl,show 0 < b/\b < 1073741824 from r_ g,h.ok _ _ (.refl _) (.int _)⟩
   |_=>exact stuck rfl
  |_=>exact stuck rfl
 |mod=>
  induction d using zD with
  |int a=>
   induction e using zD with
   |int b=>cases hx.intR;cases hy.intR;obtain⟨g,h⟩:=PO'.grd h;exact Ah pins s σ H _ _ v u Q I rx ry ⟨a,b,rfl,rfl,r_ g,h.ok _ _ (.refl _) (.int _)⟩
   |_=>exact stuck rfl
  |_=>exact stuck rfl
 |pow=>
  induction d using zD with
  |int a=>
   induction e using zD with
   |int b=>cases hx.intR;cases hy.intR;obtain⟨g,h⟩:=PO'.grd h;exact Ai pins s σ H _ _ v u Q I rx ry ⟨a,b,rfl,rfl,show 0<=b/\b<=1000000/\a.natAbs < 2 ^ 64 from r_ g,h.ok _ _ (.refl _) (.int _)⟩
   |_=>exact stuck rfl
  |_=>exact stuck rfl
theorem PO'.eqN {ex:Str->Prop}:∀ {n:Nat}{d e:D}{k:Bool->Prop},PO' ex (L2.eqN n d e) k->∃r,L2.eqN n d e=.ok r/\k r:=by
 have no:∀(n:Nat) (d e:D) (c:Str),L2.eqN n d e≠.error (.exc c):=by
  intro n;have seqs:∀(f:D->D->Res Bool),(∀d e c,f d e≠.error (.exc c))->∀(ds es:List D) (c:Str),gp f ds es≠.error (.exc c):=by
   intro f hf ds
   induction ds with
   |nil=>intro es c h;cases es<;>cases h
   |cons a ds ih=>
    intro es c h
    induction es using zL with
    |nil=>cases h
    |cons b es=>
     have h':L2.bnd (f a b) (fun x=>L2.bnd (gp f ds es) fun y=>.ok (x&&y))=.error (.exc c):=h;cases q:f a b with
     |error z=>rw[q]at h';exact hf a b c (by rw[q];exact h')
     |ok x=>
      rw[q]at h';have h2:L2.bnd (gp f ds es) (fun y=>.ok (x&&y))=.error (.exc c):=h';cases q2:gp f ds es with
      |error z=>rw[q2]at h2;exact ih es c (by rw[q2];exact h2)
      |ok y=>rw[q2]at h2;cases h2
  induction n with
  |zero=>intro d e c h;cases h
  |succ n ih=>
   intro d e c h
   induction d using zD<;>induction e using zD<;>first|cases h|exact seqs _ ih _ _ _ h
 intro n d e k h;cases q:L2.eqN n d e with
 |ok r=>rw[q]at h;exact⟨r,rfl,h⟩
 |error z=>
  rw[q]at h;cases z with
  |stuck=>exact h.no.elim
  |exc c=>exact absurd q (no n d e c)
theorem PO'.anyN {ex:Str->Prop}{d:D}:∀ {ds:List D}{k:Bool->Prop},PO' ex (L2.anyN d ds) k->∃f:Nat->Bool,(∀i e,ds[i]? = Γ e->L2.eqN 40 e d=.ok (f i))/\k ((List.range ds.length).any f)
 |[],k,h=>⟨fun _=>Θ,fun i e z=>by simp at z,h⟩
 |e::r,k,h=>by
  obtain⟨x,ex',h1⟩:=PO'.eqN (PO'.bnd h);obtain⟨f,h2,h3⟩:=PO'.anyN (PO'.bnd h1);refine⟨fun i=>match i with|0=>x|j+1=>f j,fun i e' z=>?_,?_⟩
  ·cases i with
   |zero=>simp at z;subst z;exact ex'
   |succ j=>exact h2 j e' (by simpa using z)
  ·rw[List.length_cons,List.range_succ_eq_map,List.any_cons,List.any_map];exact h3
theorem pX {A:Η}{s:Ω}{v:Φ}(its:List Φ)(f:Nat->Bool)(h:∀i u,its[i]? = Γ u->EqAt A s u v (f i)) :
  ∃e:Φ->Bool,(∀y,y∈its.toArray->EqAt A s y v (e y))/\its.toArray.any e=(List.range its.length).any f:=by
 classical
 refine⟨fun y=>decide (∃i,its[i]? = Γ y/\f i=Δ),fun y hy=>?_,?_⟩
 ·have hy':y∈its:=by simpa using hy
  obtain⟨j,hj⟩:=List.getElem?_of_mem hy';show EqAt A s y v (decide (∃i,its[i]? = Γ y/\f i=Δ));by_cases q:∃i,its[i]? = Γ y/\f i=Δ
  ·rw[s_ q];obtain⟨i,hi,fi⟩:=q;have:=h i y hi;rw[fi]at this;exact this
  ·rw[p_ q];have:=h j y hj;have fj:f j=Θ:=by
    cases z:f j with
    |false=>rfl
    |true=>exact absurd ⟨j,hj,z⟩ q
   rw[fj]at this;exact this
 ·rw[Bool.eq_iff_iff];simp only[List.any_toArray,List.any_eq_true,List.mem_range,decide_eq_true_eq];constructor
  ·rintro⟨y,hy,i,hi,fi⟩;exact⟨i,(B_.mp hi).1,fi⟩
  ·rintro⟨i,hi,fi⟩;exact⟨its[i],List.getElem_mem hi,i,by simp[hi],fi⟩
theorem iR (hu:X.A.units+42 < cLine){pins:List (Ψ×Obj)}{s:Ω}{σ:St}{H:Hp}{S:Ψ->Prop}{x:V}{v:Φ}{d:D}{k:Bool->Prop}(I:Inv X pins σ H s)(rx:RelV x v)(hx:HRep X.K S H x d)
  {xs:List V}{its:List Φ}{ds:List D} (rv:Vals xs its) (m:HReps X.K S H xs ds) (h:PO' ex (anyN d ds) k) :
  ∃e:Φ->Bool,(∀y,y∈its.toArray->EqAt X.A.in1 s y v (e y))/\k (its.toArray.any e):=by
 obtain⟨f,h1,h2⟩:=PO'.anyN h;have l1:=rv.length;have l2:=m.length;obtain⟨e,h3,h4⟩:=pX (A:=X.A.in1) (s:=s) (v:=v) its f fun i u hi=>by have hlt:i < its.length:=(B_.mp hi).1;obtain⟨y,hy,my⟩:=m.get (i:=i) (d:=ds[i]'(by omega)) (by simp);obtain⟨u',hu',ru⟩:=rv.get hy;rw[hi]at hu';cases hu';exact(nk I 40 X.A.in1 y x u v _ d _ my hx ru rx (h1 i _ (by simp)) (by show X.A.units+1+40 < cLine;omega)).eq
 refine⟨e,h3,?_⟩;rw[h4,show its.length=ds.length by omega];exact h2
theorem jU (hu:X.A.units+42 < cLine)(op:COp):OpR X (compareOp (cop op)) (Eo X.K ex op):=by
 intro pins s σ H x y v u Q I rx ry h;obtain⟨S,d,e,hx,hy,h⟩:=h;have stuck:∀ {P:Prop},opC op d e=stk->P:=fun z=>by rw[z]at h;exact h.no.elim
 have fin:∀ {b:Bool},Q (.bl b) H->EP X pins σ Q (.bool b) s:=fun q=>⟨.bl _,H,I,rfl,q⟩
 cases op with
 |eq=>obtain⟨r,h1,h2⟩:=PO'.eqN h;exact(nk I 40 X.A x y v u d e r hx hy rx ry h1 (by omega)).rc _ _ _ _ (fin h2)
 |ne=>obtain⟨r,h1,h2⟩:=PO'.eqN (PO'.bnd h);exact(nk I 40 X.A x y v u d e r hx hy rx ry h1 (by omega)).ne _ _ _ _ (fin h2.ok)
 |lt=>
  induction d using zD with
  |int a=>
   induction e using zD with
   |int b=>cases hx.intR;cases hy.intR;obtain⟨t,rfl⟩:=rx;obtain⟨t',rfl⟩:=ry;exact lt_int (fin h.ok)
   |_=>exact stuck rfl
  |_=>exact stuck rfl
 |le=>
  induction d using zD with
  |int a=>
   induction e using zD with
   |int b=>cases hx.intR;cases hy.intR;obtain⟨t,rfl⟩:=rx;obtain⟨t',rfl⟩:=ry;exact le_int (fin h.ok)
   |_=>exact stuck rfl
  |_=>exact stuck rfl
 |gt=>
  induction d using zD with
  |int a=>
   induction e using zD with
   |int b=>cases hx.intR;cases hy.intR;obtain⟨t,rfl⟩:=rx;obtain⟨t',rfl⟩:=ry;exact gt_int (fin h.ok)
   |_=>exact stuck rfl
  |_=>exact stuck rfl
 |ge=>cases d<;>cases e<;>exact stuck rfl
 |in_=>
  induction e using zD with
  |str b=>
   induction d using zD with
   |str a=>cases hx.strR;cases hy.strR;obtain⟨t,rfl⟩:=rx;obtain⟨t',rfl⟩:=ry;exact in_str (fin h.ok)
   |_=>exact stuck rfl
  |lst o ds=>obtain⟨a,xs,rfl,q1,m1⟩:=hy.lstR;cases ry;obtain⟨its,rv,pl,_⟩:=I.list q1;obtain⟨e,h1,h2⟩:=iR (ex:=ex) hu I rx hx rv m1 (by induction d using zD<;>exact h);exact in_listAt e pl.isList h1 (fin h2)
  |tup ds=>obtain⟨a,xs,rfl,q1,m1⟩:=hy.tupR;cases ry;obtain⟨its,rv,pl,_⟩:=I.tuple q1;obtain⟨e,h1,h2⟩:=iR (ex:=ex) hu I rx hx rv m1 (by induction d using zD<;>exact h);exact in_tupleAt e pl h1 (fin h2)
  |non=>induction d using zD<;>exact stuck rfl
  |bl _=>induction d using zD<;>exact stuck rfl
  |int _=>induction d using zD<;>exact stuck rfl
  |exc _=>induction d using zD<;>exact stuck rfl
  |dct _ _ _=>induction d using zD<;>exact stuck rfl
 |nin=>
  induction e using zD with
  |str b=>
   induction d using zD with
   |str a=>cases hx.strR;cases hy.strR;obtain⟨t,rfl⟩:=rx;obtain⟨t',rfl⟩:=ry;exact notIn_str (fin h.ok)
   |_=>exact stuck rfl
  |lst o ds=>obtain⟨a,xs,rfl,q1,m1⟩:=hy.lstR;cases ry;obtain⟨its,rv,pl,_⟩:=I.list q1;obtain⟨e,h1,h2⟩:=iR (ex:=ex) (k:=fun r=>Q (.bl !r) H) hu I rx hx rv m1 ((PO'.bnd (show PO' ex (bnd (anyN d ds) fun r=>.ok !r) (fun r=>Q (.bl r) H) by induction d using zD<;>exact h)).mono fun _ z=>z);exact notIn_listAt e pl.isList h1 (fin h2)
  |tup ds=>obtain⟨a,xs,rfl,q1,m1⟩:=hy.tupR;cases ry;obtain⟨its,rv,pl,_⟩:=I.tuple q1;obtain⟨e,h1,h2⟩:=iR (ex:=ex) (k:=fun r=>Q (.bl !r) H) hu I rx hx rv m1 ((PO'.bnd (show PO' ex (bnd (anyN d ds) fun r=>.ok !r) (fun r=>Q (.bl r) H) by induction d using zD<;>exact h)).mono fun _ z=>z);exact notIn_tupleAt e pl h1 (fin h2)
  |non=>induction d using zD<;>exact stuck rfl
  |bl _=>induction d using zD<;>exact stuck rfl
  |int _=>induction d using zD<;>exact stuck rfl
  |exc _=>induction d using zD<;>exact stuck rfl
  |dct _ _ _=>induction d using zD<;>exact stuck rfl
 |is_=>
  induction e using zD with
  |non=>
   cases hy.nonR;cases ry;have ev:ja d=(v == Value.none):=by
    cases hx with
    |non=>cases rx;rfl
    |bl b=>cases rx;rfl
    |int i=>obtain⟨t,rfl⟩:=rx;rfl
    |str z=>obtain⟨t,rfl⟩:=rx;rfl
    |tup _ _=>cases rx;rfl
    |lst _ _ _=>cases rx;rfl
    |lstK _ _=>cases rx;rfl
    |exc _=>cases rx;rfl
    |dct _ _ _ _=>cases rx;rfl
   have h':Q (.bl (ja d)) H:=by induction d using zD<;>exact h
   rw[ev]at h';exact is_none_gen (fin h')
  |_=>induction d using zD<;>exact stuck rfl
 |isn=>
  induction e using zD with
  |non=>
   cases hy.nonR;cases ry;have ev:ja d=(v == Value.none):=by
    cases hx with
    |non=>cases rx;rfl
    |bl b=>cases rx;rfl
    |int i=>obtain⟨t,rfl⟩:=rx;rfl
    |str z=>obtain⟨t,rfl⟩:=rx;rfl
    |tup _ _=>cases rx;rfl
    |lst _ _ _=>cases rx;rfl
    |lstK _ _=>cases rx;rfl
    |exc _=>cases rx;rfl
    |dct _ _ _ _=>cases rx;rfl
   have h':Q (.bl (!ja d)) H:=by induction d using zD<;>exact h
   rw[ev]at h';exact isnot_none_gen (fin h')
  |bl b'=>
   cases hy.blR;cases ry
   induction d using zD with
   |bl b=>
    cases hx.blR;cases rx;have ee:(!(Value.bool b == Value.bool b'))=(b != b'):=by induction b using zB<;>induction b' using zB<;>rfl
    exact wpAny_isNot_plain rfl (by rw[ee];exact fin h)
   |non=>cases hx.nonR;cases rx;exact wpAny_isNot_plain rfl (fin h)
   |_=>exact stuck rfl
  |_=>induction d using zD<;>exact stuck rfl
theorem ki {pins:List (Ψ×Obj)}{s:Ω}{σ:St}{H:Hp}{S:Ψ->Prop}{x:V}{v:Φ}{d:D}{Q:Bool->Hp->Prop}(I:Inv X pins σ H s)(rx:RelV x v)(hx:HRep X.K S H x d)(h:PO' ex (fQ d) fun b=>Q b H) :
  Ι (Κ X.prog X.w) X.A (truthy v) (TP X pins σ Q) X.xe s:=by
 refine Ak pins s σ H x v Q I rx ?_
 induction d using zD with
 |exc c=>exact h.no.elim
 |dct _ _ _=>exact h.no.elim
 |non=>cases hx.nonR;exact⟨Θ,rfl,h⟩
 |bl b=>cases hx.blR;exact⟨b,rfl,h⟩
 |int i=>cases hx.intR;exact⟨_,rfl,h⟩
 |str z=>cases hx.strR;obtain⟨g,h⟩:=PO'.grd h;exact⟨_,⟨fR g,rfl⟩,h⟩
 |tup ds=>obtain⟨a,xs,rfl,q,m⟩:=hx.tupR;refine⟨!ds.isEmpty,.inr (.inl ⟨xs,q,?_⟩),h⟩;have:=m.length;cases xs<;>cases ds<;>simp_all
 |lst o ds=>obtain⟨a,xs,rfl,q,m⟩:=hx.lstR;refine⟨!ds.isEmpty,.inl ⟨xs,q,?_⟩,h⟩;have:=m.length;cases xs<;>cases ds<;>simp_all
theorem qO {K:Frag}{S:Ψ->Prop}{H:Hp}{vs:List V}{ds:List D}{i:Int}{d:D}(m:HReps K S H vs ds)(h:atI ds i=Γ d):∃v,atI vs i=Γ v/\HRep K S H v d:=by
 unfold atI at h ⊢;rw[m.length];cases q:ixN ds.length i with
 |none=>rw[q]at h;cases h
 |some j=>rw[q]at h;exact m.get h
def Ep (K:Frag)(ex:Str->Prop):R2:=fun x y H Q=>∃S d e,HRep K S H x d/\HRep K S H y e/\PO' ex (gx d e) (Kk K S H Q)
theorem w8:IxR X (Ep X.K ex):=by
 intro value slice pins s σ H x y v u Q I rx ry h hs;obtain⟨S,d,e,hx,hy,h⟩:=h;refine Ao value slice pins s σ H x y v u Q I rx ry ?_ hs;have stuck:∀ {P:Prop},gx d e=stk->P:=fun z=>by rw[z]at h;exact h.no.elim
 induction e using zD with
 |int i=>
  cases hy.intR
  induction d using zD with
  |lst o ds=>
   obtain⟨a,xs,rfl,q,m⟩:=hx.lstR;have h':PO' ex (match atI ds i with|some d=>.ok d|none=>stk) (Kk X.K S H Q):=h;cases z:atI ds i with
   |none=>rw[z]at h';exact h'.no.elim
   |some d=>rw[z]at h';obtain⟨w,ew,mw⟩:=qO m z;exact .inl ⟨a,xs,i,w,rfl,rfl,q,ew,h'.ok _ _ (.refl _) mw.nw⟩
  |tup ds=>
   obtain⟨a,xs,rfl,q,m⟩:=hx.tupR;have h':PO' ex (match atI ds i with|some d=>.ok d|none=>stk) (Kk X.K S H Q):=h;cases z:atI ds i with
   |none=>rw[z]at h';exact h'.no.elim
   |some d=>rw[z]at h';obtain⟨w,ew,mw⟩:=qO m z;exact .inr (.inl ⟨a,xs,i,w,rfl,rfl,q,ew,h'.ok _ _ (.refl _) mw.nw⟩)
  |str z=>
   cases hx.strR;obtain⟨g,h⟩:=PO'.grd h;cases q:atI z.cps.toList i with
   |none=>rw[q]at h;exact h.no.elim
   |some c=>rw[q]at h;exact .inr (.inr ⟨z,i,c,rfl,rfl,fR g,q,h.ok _ _ (.refl _) (.str _)⟩)
  |_=>exact stuck rfl
 |_=>induction d using zD<;>exact stuck rfl
def Er (K:Frag)(ex:Str->Prop):V->Option Int->Option Int->Hp->VK->Prop:=fun x lo hi H Q=>∃S d,HRep K S H x d/\PO' ex (oI d lo hi) (Kk K S H Q)
theorem Az:SlR X (fun x lo hi H Q=>∃z,x=.str z/\z.length<=Ε/\Q (.str (Txt.slice z lo hi)) H):=by
 intro pins s σ H x v vl vu lo hi sl Q I rx hs pl pu h;obtain⟨z,rfl,hz,q⟩:=h;obtain⟨t,rfl⟩:=rx;refine⟨"str",_,F.slot_str_getitem.lookup,typeIs_str s z t,?_⟩;have fin:∀(l u:Option (Int×Tok)),vl=partValue l->vu=partValue u->l.map (·.1)=lo->u.map (·.1)=hi->Ι (Κ X.prog X.w) X.A (getItem (.str z t) (.ref sl)) (EP X pins σ Q) X.xe s:=by intro l u e1 e2 e3 e4;subst e1 e2 e3 e4;refine wpAny_getItem_str_slice (l:=l) (u:=u) (st:=Ξ) hs rfl ?_;exact post_val_or_str ⟨EN (Txt.slice_le z _ _) hz,fun t' k=>⟨.str _,H,I.tok _,⟨_,rfl⟩,q⟩⟩
 cases pl with
 |none=>
  cases pu with
  |none=>exact fin Ξ Ξ rfl rfl rfl rfl
  |int j t'=>exact fin Ξ (Γ (j,t')) rfl rfl rfl rfl
 |int i t'=>
  cases pu with
  |none=>exact fin (Γ (i,t')) Ξ rfl rfl rfl rfl
  |int j t''=>exact fin (Γ (i,t')) (Γ (j,t'')) rfl rfl rfl rfl
end
open PySem.W
section
variable {prog:Β}{w:Α}{A:Η}{E:Φ->Ω->Prop}{K:Frag}{x C:Ψ}{hh:Heap}{g:Array GenState}{d:Drawn}{t:Nat}{os:OsState}
structure ExcAt (K:Frag)(C:Ψ):Prop where
 ga:findIn K (.ref C) "__getattribute__" = Γ (Γ (.builtin "BaseException.__getattribute__"))
 no:findIn K (.ref C) "__getattr__" = Γ Ξ
 cl:findIn K (.ref C) "__class__" = Γ (Γ (.builtin "object.__class__"))
 be:mroIn K C (.type "BaseException")=Γ Δ
 ob:mroIn K C (.type "object")=Γ Δ
 is:(clsIn K C).isSome=Δ
open Builtin Builtin.ObjectAttr Builtin.Getset_descriptor in
end
section
variable {X:Cx}{ex:Str->Prop}
theorem qP {K:Frag}{S:Ψ->Prop}{H:Hp}{vs:List V}{ds:List D}(lo hi:Option Int)(m:HReps K S H vs ds):HReps K S H (sC vs lo hi) (ik ds lo hi):=by unfold sC ik;rw[m.length];exact(m.drop _).take _
theorem w9:SlR X (Er X.K ex):=by
 intro pins s σ H x v vl vu lo hi sl Q I rx hs pl pu h;obtain⟨S,d,hx,h⟩:=h
 induction d using zD with
 |lst o ds=>obtain⟨a,xs,rfl,q,m⟩:=hx.lstR;exact qC pins s σ H _ v vl vu lo hi sl Q I rx hs pl pu ⟨a,xs,rfl,q,fun p hp=>h.ok _ _ (.upd hp) (pW hp (qP lo hi m))⟩
 |str z=>cases hx.strR;obtain⟨g,h⟩:=PO'.grd h;exact Az pins s σ H _ v vl vu lo hi sl Q I rx hs pl pu ⟨z,rfl,fR g,h.ok _ _ (.refl _) (.str _)⟩
 |_=>exact h.no.elim
theorem oR {ns:List Int}{us:List Φ}(r:Vals (ns.map V.int) us):IntsAre us ns:=intsAre_of r
theorem oS {ns:List Str}:∀ {us:List Φ},Vals (ns.map V.str) us->StrsAre us ns:=by
 induction ns with
 |nil=>intro us r;rw[List.map_nil]at r;cases r;exact .nil
 |cons n ns ih=>
  intro us r;rw[a_]at r;cases r with
  |cons r1 r2=>obtain⟨t,e⟩:=r1;subst e;exact .cons n t (ih r2)
theorem jl:∀ {ds:List D}{ns:List Int},gy ds=Γ ns->ds=ns.map .int
 |[],ns,h=>by cases h;rfl
 |.int i::r,ns,h=>by
  have h':(gy r).map (i::·)=Γ ns:=h;cases q:gy r with
  |none=>rw[q]at h';cases h'
  |some ms=>rw[q]at h';cases h';rw[jl q];rfl
 |.non::_,_,h=>by cases h
 |.bl _::_,_,h=>by cases h
 |.str _::_,_,h=>by cases h
 |.tup _::_,_,h=>by cases h
 |.lst _ _::_,_,h=>by cases h
theorem jm:∀ {ds:List D}{ns:List Str},gI ds=Γ ns->ds=ns.map .str
 |[],ns,h=>by cases h;rfl
 |.str i::r,ns,h=>by
  have h':(gI r).map (i::·)=Γ ns:=h;cases q:gI r with
  |none=>rw[q]at h';cases h'
  |some ms=>rw[q]at h';cases h';rw[jm q];rfl
 |.non::_,_,h=>by cases h
 |.bl _::_,_,h=>by cases h
 |.int _::_,_,h=>by cases h
 |.tup _::_,_,h=>by cases h
 |.lst _ _::_,_,h=>by cases h
theorem mi:∀ {ds:List D}{ns:List Bool},kJ ds=Γ ns->ds=ns.map .bl
 |[],ns,h=>by cases h;rfl
 |.bl i::r,ns,h=>by
  have h':(kJ r).map (i::·)=Γ ns:=h;cases q:kJ r with
  |none=>rw[q]at h';cases h'
  |some ms=>rw[q]at h';cases h';rw[mi q];rfl
 |.non::_,_,h=>by cases h
 |.str _::_,_,h=>by cases h
 |.int _::_,_,h=>by cases h
 |.tup _::_,_,h=>by cases h
 |.lst _ _::_,_,h=>by cases h
theorem sN (hc:X.calm=Δ):gK X (.builtin "sum") (fun xs H Q=>∃(p:Ψ) (ns:List Int),xs=[.ref p]/\SqL X.K H p (ns.map V.int)/\Q (.int ns.sum) H):=by
 intro pins s σ H xs us Q I r h;obtain⟨p,ns,rfl,hq,q⟩:=h;obtain⟨u,rfl,rx⟩:=vals1 r;cases rx;obtain⟨its,rv,pl,hz⟩:=I.list hq;have hi:=oR rv;refine call_sum_walkG (wpAny_pyIter_list pl.isList ?_);have hlt:p < s.heap.objs.size:=by obtain⟨o,e,_⟩:=pl.isList;exact l_ e
 refine⟨s.heap.objs.size,_,_,_,_,_,fun i=>ns.getD i 0,rfl,Walks.list (A:=X.A.in1) (show X.A.in1.handled=Ξ from I.ok.hd hc) s.heap.objs.size p (x_ hlt) its.toArray,⟨⟨_,EG _ rfl,rfl,rfl⟩,?_⟩,?_,?_,?_⟩
 ·obtain⟨o,e,c,n,d⟩:=pl.isList;exact⟨o,w_ _ e,c,n,d⟩
 ·intro b hb;have:b=s.heap.objs.size∨b=p:=by simpa using hb
  have hs:(s.heap.push {cls:=.type "list_iterator",data:=.fields #[.ref p,.int 0 0]}).objs.size=s.heap.objs.size+1:=Heap.size_push ..;show b < (s.heap.push _).objs.size;rw[Heap.size_push];rcases this with rfl|rfl
  ·exact Nat.lt_succ_self _
  ·exact Nat.lt_succ_of_lt hlt
 ·intro i v hv;have hv':its[i]? = Γ v:=by simpa using hv
  have key:∀ {us:List Φ}{ns:List Int},IntsAre us ns->∀i v,us[i]? = Γ v->∃t,v=Value.int (ns.getD i 0) t:=by
   intro us ns hI
   induction hI with
   |nil=>intro i v z;simp at z
   |cons n t _ ih=>
    intro i v z;cases i with
    |zero=>simp at z;exact⟨t,by rw[<- z];simp⟩
    |succ j=>simpa using ih j v (by simpa using z)
  exact key hi i v hv'
 ·intro h' tk t' kp;refine⟨.int ns.sum,H,?_,⟨t',?_⟩,q⟩
  ·refine I.kept (t':=tk) fun b o e=>kp b o ?_ (w_ _ e);intro hm;have hb:b=s.heap.objs.size:=by simpa using hm
   subst hb;exact absurd (l_ e) (EX _)
  ·have hl:=rv.length;rw[f_]at hl;rw[preSum_getD,show its.toArray.size=ns.length by simp[hl],List.take_length]
theorem sO (hc:X.calm=Δ):gK X (.builtin "all") (fun xs H Q=>∃(p:Ψ) (bs:List Bool),xs=[.ref p]/\SqL X.K H p (bs.map V.bl)/\Q (.bl (bs.all id)) H):=by
 intro pins s σ H xs us Q I r h;obtain⟨p,bs,rfl,hq,q⟩:=h;obtain⟨u,rfl,rx⟩:=vals1 r;cases rx;obtain⟨its,rv,pl,hz⟩:=I.list hq;have hl:=rv.length;rw[f_]at hl;have hlt:p < s.heap.objs.size:=by obtain⟨o,e,_⟩:=pl.isList;exact l_ e
 refine call_all_walk (wpAny_pyIter_list pl.isList ?_);refine⟨s.heap.objs.size,_,_,_,_,_,fun i=>bs.getD i Δ,rfl,Walks.list (A:=X.A.in1) (show X.A.in1.handled=Ξ from I.ok.hd hc) s.heap.objs.size p (x_ hlt) its.toArray,⟨⟨_,EG _ rfl,rfl,rfl⟩,?_⟩,?_,?_⟩
 ·obtain⟨o,e,c,n,d⟩:=pl.isList;exact⟨o,w_ _ e,c,n,d⟩
 ·intro i v s' Q' E' hv hq';have hv':its[i]? = Γ v:=by simpa using hv
  have hlt':i < bs.length:=by have:=(B_.mp hv').1;omega
  obtain⟨u,hu,ru⟩:=rv.get (i:=i) (x:=.bl bs[i]) (by rw[EL,EK hlt'];rfl);rw[hv']at hu;cases hu;cases ru;refine wpAny_truthy_bool ?_;have e:bs.getD i Δ=bs[i]:=by simp[List.getD,hlt']
  rw[<- e];exact hq'
 ·intro h' tk kp;have hall:(List.range its.toArray.size).all (fun i=>bs.getD i Δ)=bs.all id:=by
   rw[show its.toArray.size=bs.length by simp[hl]];rw[Bool.eq_iff_iff,ED,ED];constructor
   ·intro z b hb;obtain⟨i,hi,rfl⟩:=List.getElem_of_mem hb;have:=z i (List.mem_range.mpr hi);simpa[List.getD,hi] using this
   ·intro z i hi;have hi':=List.mem_range.mp hi;have:=z bs[i] (List.getElem_mem hi');simpa[List.getD,hi'] using this
  rw[hall];refine⟨.bl (bs.all id),H,I.kept (t':=tk) fun b o e=>kp b o ?_ (w_ _ e),rfl,q⟩;intro hm;have hb:b=s.heap.objs.size:=by simpa using hm
  subst hb;exact absurd (l_ e) (EX _)
noncomputable def iH:Bi->Str
 |.len=>"len" |.sum=>"sum" |.min2=>"min" |.max2=>"max" |.maxl=>"max" |.sorted=>"sorted" |.list=>"list" |.tuple=>"tuple" |.ord=>"ord" |.int=>"int" |.all=>"all" |.any=>"any" |.str=>"str" |.set=>"set" |.abs=>"abs"
noncomputable def Cq:Bi->Bool
 |.list=>Δ|.tuple=>Δ|.int=>Δ|.str=>Δ|.set=>Δ
 |_=>Θ
noncomputable def Cr:Bi->String
 |.len=>"len" |.sum=>"sum" |.min2=>"min" |.max2=>"max" |.maxl=>"max" |.sorted=>"sorted" |.list=>"list" |.tuple=>"tuple" |.ord=>"ord" |.int=>"int" |.all=>"all" |.any=>"any" |.str=>"str" |.set=>"set" |.abs=>"abs"
noncomputable def uh (f:Bi):Φ:=if Cq f=Δ then .type (Cr f) else .builtin (Cr f)
theorem qQ (f:Bi):bootBuiltins (iH f)=Γ (uh f):=by cases f<;>decide +kernel
def rBi (K:Frag)(ex:Str->Prop)(f:Bi):List V->Hp->VK->Prop:=fun xs H Q=>∃S ds,HReps K S H xs ds/\PO' ex (ip f ds) (Kk K S H Q)
theorem HReps.one1 {K:Frag}{S:Ψ->Prop}{H:Hp}{xs:List V}{d:D}(h:HReps K S H xs [d]):∃x,xs=[x]/\HRep K S H x d:=by
 cases h with
 |cons h1 h2=>cases h2;exact⟨_,rfl,h1⟩
theorem HReps.two2 {K:Frag}{S:Ψ->Prop}{H:Hp}{xs:List V}{d e:D}(h:HReps K S H xs [d,e]):∃x y,xs=[x,y]/\HRep K S H x d/\HRep K S H y e:=by
 cases h with
 |cons h1 h2=>
  cases h2 with
  |cons h3 h4=>cases h4;exact⟨_,_,rfl,h1,h3⟩
theorem jV {K:Frag}{S:Ψ->Prop}{H:Hp}(z:Str):HReps K S H (ig z) (il z):=by
 unfold ig il
 induction z.cps.toList with
 |nil=>exact .nil
 |cons c cs ih=>exact .cons (.str _) ih
theorem xc (hc:X.calm=Δ)(f:Bi):gK X (uh f) (rBi X.K ex f):=by
 intro pins s σ H xs us Q I r h;obtain⟨S,ds,hx,h⟩:=h;have stuck:∀ {P:Prop},ip f ds=stk->P:=fun z=>by rw[z]at h;exact h.no.elim
 have one:∀ {d e:D}{r':List D},ds=d::e::r'->¬(f=.min2∨f=.max2)->ip f ds=stk:=by intro d e r' z nf;subst z;cases f<;>first|rfl|(exfalso;exact nf (.inl rfl))|(exfalso;exact nf (.inr rfl))|(induction d using zD<;>rfl)
 have two:∀ {d e g:D}{r':List D},ds=d::e::g::r'->ip f ds=stk:=by intro d e g r' z;subst z;cases f<;>first|rfl|(induction d using zD<;>rfl)|(induction d using zD<;>induction e using zD<;>rfl)
 have nil:ds=[]->ip f ds=stk:=by intro z;subst z;cases f<;>rfl
 match ds,hx with
 |[],hx=>exact stuck (nil rfl)
 |d::e::g::r',hx=>exact stuck (two rfl)
 |[d,e],hx=>
  by_cases nf:f=.min2∨f=.max2
  ·obtain⟨x,y,rfl,hd,he⟩:=hx.two2;rcases nf with rfl|rfl
   ·induction d using zD with
    |int a=>
     induction e using zD with
     |int b=>cases hd.intR;cases he.intR;exact sv hc pins s σ H _ us Q I r ⟨a,b,rfl,h.ok _ _ (.refl _) (.int _)⟩
     |_=>exact stuck rfl
    |_=>exact stuck rfl
   ·induction d using zD with
    |int a=>
     induction e using zD with
     |int b=>cases hd.intR;cases he.intR;exact sr hc pins s σ H _ us Q I r ⟨a,b,rfl,h.ok _ _ (.refl _) (.int _)⟩
     |_=>exact stuck rfl
    |_=>exact stuck rfl
  ·exact stuck (one rfl nf)
 |[d],hx=>
  obtain⟨x,rfl,hd⟩:=hx.one1;cases f with
  |len=>
   induction d using zD with
   |str z=>cases hd.strR;obtain⟨g,h⟩:=PO'.grd h;exact call_len pins s σ H _ us Q I r ⟨_,_,rfl,⟨fR g,rfl⟩,h.ok _ _ (.refl _) (.int _)⟩
   |tup ds=>obtain⟨a,ys,rfl,q,m⟩:=hd.tupR;exact call_len pins s σ H _ us Q I r ⟨_,ds.length,rfl,.inr ⟨ys,q,m.length.symm⟩,h.ok _ _ (.refl _) (.int _)⟩
   |lst o ds=>obtain⟨a,ys,rfl,q,m⟩:=hd.lstR;exact call_len pins s σ H _ us Q I r ⟨_,ds.length,rfl,.inl ⟨ys,q,m.length.symm⟩,h.ok _ _ (.refl _) (.int _)⟩
   |dct o ks es=>
    cases hd with
    |dct h0 h1 h2 h3=>exact sL pins s σ H _ us Q I r ⟨_,_,rfl,h1,by rw[<- f_ (f:=(·.1)),h2];exact h.ok _ _ (.refl _) (.int _)⟩
   |_=>exact stuck rfl
  |sum=>
   induction d using zD with
   |lst o ds=>
    obtain⟨a,ys,rfl,q,m⟩:=hd.lstR;have h':PO' ex (match gy ds with|some ns=>grd (decide (ns.length<=1000000)) (.ok (.int ns.sum))|none=>stk) (Kk X.K S H Q):=h;cases z:gy ds with
    |none=>rw[z]at h';exact h'.no.elim
    |some ns=>rw[z]at h';obtain⟨_,h'⟩:=PO'.grd h';rw[jl z]at m;rw[m.ints]at q;exact sN hc pins s σ H _ us Q I r ⟨a,ns,rfl,q,h'.ok _ _ (.refl _) (.int _)⟩
   |_=>exact stuck rfl
  |all=>
   induction d using zD with
   |lst o ds=>
    obtain⟨a,ys,rfl,q,m⟩:=hd.lstR;have h':PO' ex (match kJ ds with|some bs=>.ok (.bl (bs.all id))|none=>stk) (Kk X.K S H Q):=h;cases z:kJ ds with
    |none=>rw[z]at h';exact h'.no.elim
    |some ns=>rw[z]at h';rw[mi z]at m;rw[m.bls]at q;exact sO hc pins s σ H _ us Q I r ⟨a,ns,rfl,q,h'.ok _ _ (.refl _) (.bl _)⟩
   |_=>exact stuck rfl
  |any=>cases d<;>exact stuck rfl
  |ord=>cases d<;>exact stuck rfl
  |int=>
   induction d using zD with
   |int i=>cases hd.intR;exact lO pins s σ H _ us Q I r (.inl ⟨i,rfl,h.ok _ _ (.refl _) (.int _)⟩)
   |bl i=>cases hd.blR;exact lO pins s σ H _ us Q I r (.inr ⟨i,rfl,h.ok _ _ (.refl _) (.int _)⟩)
   |_=>exact stuck rfl
  |list=>
   induction d using zD with
   |tup ds=>obtain⟨a,ys,rfl,q,m⟩:=hd.tupR;exact iF pins s σ H _ us Q I r ⟨a,ys,rfl,.inr q,fun p hp=>h.ok _ _ (.upd hp) (pW hp m)⟩
   |lst o ds=>obtain⟨a,ys,rfl,q,m⟩:=hd.lstR;exact iF pins s σ H _ us Q I r ⟨a,ys,rfl,.inl q,fun p hp=>h.ok _ _ (.upd hp) (pW hp m)⟩
   |str z=>cases hd.strR;obtain⟨g,h⟩:=PO'.grd h;exact iZ hc pins s σ H _ us Q I r ⟨z,rfl,fR g,fun p hp=>h.ok _ _ (.upd hp) (pW hp (jV z))⟩
   |_=>exact stuck rfl
  |abs=>
   induction d using zD with
   |int i=>cases hd.intR;exact tK pins s σ H _ us Q I r ⟨i,rfl,h.ok _ _ (.refl _) (.int _)⟩
   |_=>exact stuck rfl
  |min2=>induction d using zD<;>exact stuck rfl
  |max2=>induction d using zD<;>exact stuck rfl
  |maxl=>cases d<;>exact stuck rfl
  |sorted=>cases d<;>exact stuck rfl
  |tuple=>
   induction d using zD with
   |str z=>cases hd.strR;obtain⟨g,h⟩:=PO'.grd h;exact kE hc pins s σ H _ us Q I r ⟨z,rfl,fR g,fun p hp=>h.ok _ _ (.upd hp) (Ax hp (jV z))⟩
   |lst o ds=>obtain⟨a,ys,rfl,q,m⟩:=hd.lstR;exact lH pins s σ H _ us Q I r ⟨a,ys,rfl,.inl ⟨q,fun p hp=>h.ok _ _ (.upd hp) (Ax hp m)⟩⟩
   |_=>exact stuck rfl
  |str=>exact stuck rfl
  |set=>exact stuck rfl
noncomputable def jn:Kd->Str
 |.str=>"str" |.int=>"int" |.bool=>"bool" |.list=>"list" |.tuple=>"tuple"
noncomputable def ui:Kd->Φ
 |.str=>.type "str" |.int=>.type "int" |.bool=>.type "bool" |.list=>.type "list" |.tuple=>.type "tuple"
theorem xg (k:Kd):bootBuiltins (jn k)=Γ (ui k):=by cases k<;>decide +kernel
noncomputable def dTy:D->Φ
 |.non=>.type "NoneType" |.bl _=>.type "bool" |.int _=>.type "int" |.str _=>.type "str" |.tup _=>.type "tuple" |.lst _ _=>.type "list" |.exc _=>.none|.dct _ _ _=>.none
theorem xh (K:Frag)(k:Kd)(d:D)(hn:oJ d=Δ):PySem.W.kitOne K (dTy d) (ui k)=Γ (ni k d):=by cases k<;>induction d using zD<;>first|rfl|cases hn
theorem xi {pins:List (Ψ×Obj)}{s:Ω}{σ:St}{H:Hp}{S:Ψ->Prop}{x:V}{v:Φ}{d:D}{Q:VK}(I:Inv X pins σ H s)(rx:RelV x v)(hx:HRep X.K S H x d)(k:Kd)(hn:oJ d=Δ)(h:Q (.bl (ni k d)) H) :
  Ι (Κ X.prog X.w) X.A (call (.builtin "isinstance") [v,ui k]) (EP X pins σ Q) X.xe s:=by
 have e:=xh X.K k d hn;have fin:∀tk,EP X pins σ Q (.bool (ni k d)) {s with toks:=tk}:=fun tk=>⟨.bl _,H,I.tok _,rfl,h⟩
 induction d using zD with
 |non=>cases hx.nonR;cases rx;exact PySem.W.kia_one PySem.W.kitx_none I.kIn True.intro e (fun z=>nomatch z) fin
 |bl b=>cases hx.blR;cases rx;exact PySem.W.kia_one PySem.W.kitx_bool I.kIn True.intro e (fun z=>nomatch z) fin
 |int b=>cases hx.intR;obtain⟨t,rfl⟩:=rx;exact PySem.W.kia_one PySem.W.kitx_int I.kIn True.intro e (fun z=>nomatch z) fin
 |str b=>cases hx.strR;obtain⟨t,rfl⟩:=rx;exact PySem.W.kia_one PySem.W.kitx_str I.kIn True.intro e (fun z=>nomatch z) fin
 |tup ds=>obtain⟨a,ys,rfl,q,m⟩:=hx.tupR;cases rx;obtain⟨its,_,⟨o,h1,h2,_⟩,_⟩:=I.tuple q;exact PySem.W.kia_one PySem.W.kitx_tuple I.kIn ⟨o,h1,h2⟩ e (fun z=>nomatch z) fin
 |lst o ds=>obtain⟨a,ys,rfl,q,m⟩:=hx.lstR;cases rx;obtain⟨its,_,pl,_⟩:=I.list q;obtain⟨o,h1,h2,_⟩:=pl.isList;exact PySem.W.kia_one PySem.W.kitx_list I.kIn ⟨o,h1,h2⟩ e (fun z=>nomatch z) fin
 |exc c=>cases hn
 |dct o ks ds=>cases hn
def CV (X:Cx)(x:Str)(v:V):Prop:=(∃C,v=.ref C/\X.mg x=Γ (.ref C))∨(∃T,v=.ty T/\X.mg x=Ξ/\bootBuiltins x=Γ (.type T))
noncomputable def vv:V->Φ
 |.ref C=>.ref C
 |.ty T=>.type T
 |_=>.none
noncomputable def kO:Mt->Str
 |.join=>"join" |.index=>"index" |.starts=>"startswith"
noncomputable def Es:Mt->String
 |.join=>"str.join" |.index=>"str.index" |.starts=>"str.startswith"
def rMt (K:Frag)(ex:Str->Prop)(m:Mt):V->List V->Hp->VK->Prop:=fun x xs H Q=>∃S d ds,HRep K S H x d/\HReps K S H xs ds/\PO' ex (kK m d ds) (Kk K S H Q)
theorem uj {m:Mt}{d:D}{ds:List D}{k:D->Prop}(h:PO' ex (kK m d ds) k):∃x,d=.str x:=by cases m<;>induction d using zD<;>first|exact⟨_,rfl⟩|exact h.no.elim
theorem nq (m:Mt)(hc:m=.index->X.calm=Δ):MtR X (Es m) (rMt X.K ex m):=by
 intro pins s σ H x xs v us Q I rx rs h;obtain⟨S,d,ds,hx,hs,h⟩:=h;obtain⟨z,rfl⟩:=uj h;cases hx.strR;obtain⟨t,rfl⟩:=rx;have stuck:∀ {P:Prop},kK m (.str z) ds=stk->P:=fun z=>by rw[z]at h;exact h.no.elim
 match ds,hs with
 |[],_=>cases m<;>exact stuck rfl
 |d::e::r,_=>cases m<;>induction d using zD<;>exact stuck rfl
 |[d],hs=>
  obtain⟨y,rfl,hd⟩:=hs.one1;obtain⟨u,rfl,ru⟩:=vals1 rs;cases m with
  |join=>
   induction d using zD with
   |lst o ds=>
    obtain⟨a,ys,rfl,q,m⟩:=hd.lstR;cases ru;have h':PO' ex (match gI ds with|some ys=>grd (decide ((ys.map (·.length)).sum+ys.length*z.length<=16777216)) (.ok (.str (Txt.join z ys)))|none=>stk) (Kk X.K S H Q):=h;cases w:gI ds with
    |none=>rw[w]at h';exact h'.no.elim
    |some ns=>rw[w]at h';obtain⟨g,h'⟩:=PO'.grd h';rw[jm w]at m;rw[m.strs]at q;obtain⟨its,rv,pl,_⟩:=I.list q;exact join_list pl.isList (by simpa using oS rv) (r_ g) fun t' k=>⟨.str _,H,I.tok _,⟨_,rfl⟩,h'.ok _ _ (.refl _) (.str _)⟩
   |_=>exact stuck rfl
  |index=>cases d<;>exact stuck rfl
  |starts=>
   induction d using zD with
   |str y=>cases hd.strR;obtain⟨t',rfl⟩:=ru;exact SC.startswith ⟨.bl _,H,I,rfl,PO'.ok h _ _ (.refl _) (.bl _)⟩
   |_=>exact stuck rfl
noncomputable def Its (x:Str):It:=⟨fun i _=>i < x.cps.size,fun i H v H'=>H'=H/\∃c,x.cps[i]? = Γ c/\v=.str ⟨#[c]⟩,fun i _=>x.cps.size<=i⟩
theorem uk {P:Β}{w:Α}{K:Frag}{tg:Expr}{it:Ψ}{x:Str}{t:Tok}{ty:String}(hty:ty = "str_ascii_iterator"∨ty = "str_iterator")
  (W:∀A':Η,A'.handled=Ξ->Walks P w A' it [it] [it] x.cps.size (SignAt x) (fun i h=>h.IsStrIter it ty x t i)):Turn P w K tg (Its x) [it] it (fun i h=>i<=x.cps.size/\h.IsStrIter it ty x t i) where
 mem:=by simp
 obj:=fun i h st b hb=>by
  have e:b=it:=by simpa using hb
  subst e;obtain⟨_,o,e,c,d⟩:=st;exact⟨o,e,fun v z=>by rw[d]at z;cases z⟩
 keep:=fun i h h' st k=>by obtain⟨l,o,e,c,d⟩:=st;exact⟨l,o,k it (by simp) o e,c,d⟩
 item:=by intro X hP hw hK hc i pins s σ H E I hf st hg;subst hP hw hK;obtain⟨f0,f1,f2,f3,f4,f5⟩:=hf it (by simp);refine(W X.A (I.ok.hd hc)).item i s _ _ hg st.2 fun v h' tk hv st' kk=>?_;obtain⟨c,u,hcx,rfl⟩:=hv;have I1:Inv X pins σ H {s with heap:=h',toks:=tk}:=I.turned (fun b o hb e=>kk b o (by simpa using hb) e) f0 f1 f3 f4 f5;obtain⟨o,e,cc,d⟩:=id st';refine⟨_,rfl,qy (s:={s with heap:=h',toks:=tk}) (n:=ty) e cc d (by rcases hty with rfl|rfl<;>decide) ⟨.str ⟨#[c]⟩,H,I1,⟨u,rfl⟩,⟨rfl,c,hcx,rfl⟩,⟨hg,st'⟩,fun b hb=>(hf b hb).1⟩⟩
 done:=by intro X hP hw hK hc i pins s σ H E I hf st hg;subst hP hw hK;obtain⟨f0,f1,f2,f3,f4,f5⟩:=hf it (by simp);have e:i=x.cps.size:=Nat.le_antisymm st.1 hg;refine(W X.A (I.ok.hd hc)).done s _ _ (by rw[<- e];exact st.2) fun h' tk kk=>⟨rfl,I.turned (fun b o hb e=>kk b o (by simpa using hb) e) f0 f1 f3 f4 f5⟩
 self:=fun A i s Q E st h=>by
  obtain⟨_,st⟩:=st;rcases hty with rfl|rfl
  ·exact wpAny_pyIter_striter_ascii st h
  ·exact wpAny_pyIter_striter_wide st h
theorem AB {tg:Expr}{pins:List (Ψ×Obj)}{s:Ω}{σ:St}{H:Hp}{x:Str}{t:Tok}{R:It->Hp->Prop}(I:Inv X pins σ H s)(q:R (Its x) H):Ι (Κ X.prog X.w) X.A (pyIter (.str x t)) (PIE X pins σ tg R) X.xe s:=by
 have fin:∀ty,(ty = "str_ascii_iterator"∨ty = "str_iterator")->(∀A':Η,A'.handled=Ξ->Walks X.prog X.w A' s.heap.objs.size [s.heap.objs.size] [s.heap.objs.size] x.cps.size (SignAt x) (fun i h=>h.IsStrIter s.heap.objs.size ty x t i))->
   PIE X pins σ tg R (.ref s.heap.objs.size) {s with heap:=s.heap.push {cls:=.type ty,data:=.fields #[.str x t,.int 0 0]}}:=fun ty hty W=>by
  refine⟨s.heap.objs.size,[s.heap.objs.size],_,_,H,rfl,I.kept (t':=s.toks) fun b o e=>w_ _ e,uk hty W,⟨ET _,_,EG _ rfl,rfl,rfl⟩,fun b hb=>?_,q⟩;have e:b=s.heap.objs.size:=by simpa using hb
  subst e;exact I.fpOk (n_ _) (I.hok.fresh (n_ _))
 cases ha:x.cps.all (· < 128)
 ·exact wpAny_pyIter_wide ha (fin _ (.inr rfl) fun A' hA=>Walks.strWide hA _ x t)
 ·exact wpAny_pyIter_ascii ha (fin _ (.inl rfl) fun A' hA=>Walks.strAscii hA _ x t)
end
theorem fP.at {P:Β}{w:Α}{H:Hp}{h:Heap}{a:Ψ}{o:HO}(x:fP P w H h a o):∃ob,h.get? a=Γ ob:=by
 cases o with
 |lst xs=>obtain⟨_,_,_,_,e⟩:=x;exact⟨_,e⟩
 |tup xs=>obtain⟨_,_,_,ob,e,_⟩:=x;exact⟨_,e⟩
 |dK kvs=>obtain⟨_,_,_,_,o,_,_,e,_⟩:=x;exact⟨_,e⟩
 |dT kvs=>obtain⟨_,_,_,_,o,_,_,e,_⟩:=x;exact⟨_,e⟩
 |set S n=>obtain⟨o,_,_,_,e,_⟩:=x;exact⟨_,e⟩
 |ins C dx fs=>obtain⟨_,_,_,e,_⟩:=x;exact⟨_,e⟩
 |own y=>exact x
 |xd fs=>obtain⟨_,⟨_,_,_,e,_⟩,_⟩:=x;exact⟨_,e⟩
 |rng lo hi=>obtain⟨_,_,_,e⟩:=x;exact⟨_,e⟩
 |frz ob u=>exact⟨_,x.1⟩
 |tbl ps=>exact⟨_,x⟩
 |met f y=>exact⟨_,x⟩
 |ext φ=>exact x.2.1
noncomputable def indep:HO->Bool
 |.lst _=>Δ
 |.tup _=>Δ
 |.ext _=>Δ
 |.dK _=>Δ
 |_=>Θ
theorem jC {P:Β}{w:Α}{H H':Hp}{h:Heap}{a:Ψ}{u:HO}(i:indep u=Δ)(x:fP P w H h a u):fP P w H' h a u:=by
 cases u with
 |lst _=>exact x
 |tup _=>exact x
 |ext _=>exact x
 |dK _=>exact x
 |_=>cases i
noncomputable def fu (h:Heap)(H:Hp):Hp:=fun b=>match H b with
 |some (.lst xs)=>(h.get? b).map fun o=>.frz o (.lst xs)
 |some (.dK kvs)=>(h.get? b).map fun o=>.frz o (.dK kvs)
 |some (.tup xs)=>Γ (.tup xs)
 |some (.frz o u)=>if indep u=Δ then Γ (.frz o u) else Ξ
 |_=>Ξ
noncomputable def iy (H H':Hp):Hp:=fun b=>match H b with
 |some o=>Γ o
 |none=>H' b
def LTH (H:Hp):Prop:=∀b o,H b=Γ o->(∃ob u,o=.frz ob u)∨∃xs,o=.tup xs
theorem um (h:Heap)(H:Hp):LTH (fu h H):=fun b o e=>by
 unfold fu at e;split at e
 ·obtain⟨ob,_,rfl⟩:=E4.mp e;exact .inl ⟨_,_,rfl⟩
 ·obtain⟨ob,_,rfl⟩:=E4.mp e;exact .inl ⟨_,_,rfl⟩
 ·cases e;exact .inr ⟨_,rfl⟩
 ·split at e
  ·cases e;exact .inl ⟨_,_,rfl⟩
  ·cases e
 ·cases e
structure Pers (h:Heap)(Hc H':Hp):Prop where
 frzs:∀b o u,Hc b=Γ (.frz o u)->H' b=Γ (.frz o u)
 tups:∀b xs,Hc b=Γ (.tup xs)->H' b=Γ (.tup xs)
 free:∀b o,h.get? b=Γ o->Hc b=Ξ->H' b=Ξ
inductive Bk (h:Heap)(H H':Hp)(b:Ψ):HO->Prop where
 | lst {xs:List V}{ob:Obj}:h.get? b=Γ ob->H' b=Γ (.frz ob (.lst xs))->Bk h H H' b (.lst xs)
 | dK {xs:List (Key×V)}{ob:Obj}:h.get? b=Γ ob->H' b=Γ (.frz ob (.dK xs))->Bk h H H' b (.dK xs)
 | tup {xs:List V}:H' b=Γ (.tup xs)->Bk h H H' b (.tup xs)
 | frz {o:Obj}{u:HO}:indep u=Δ->H' b=Γ (.frz o u)->Bk h H H' b (.frz o u)
 | oth {o:HO}{ob:Obj}:h.get? b=Γ ob->fu h H b=Ξ->H' b=Ξ->(∀xs,o≠.lst xs)->(∀xs,o≠.tup xs)->(∀xs,o≠.dK xs)->Bk h H H' b o
section
variable {P:Β}{w:Α}{H H':Hp}{h g:Heap}
theorem mq (x:HOk P w H h)(p:Pers h (fu h H) H'){b:Ψ}{o:HO}(e:H b=Γ o):Bk h H H' b o:=by
 obtain⟨ob,he⟩:=(x b o e).at
 have hc:fu h H b=(match(Γ o:Option HO) with
  |some (.lst xs)=>(h.get? b).map fun o=>.frz o (.lst xs)
  |some (.dK kvs)=>(h.get? b).map fun o=>.frz o (.dK kvs)
  |some (.tup xs)=>Γ (.tup xs)
  |some (.frz o u)=>if indep u=Δ then Γ (.frz o u) else Ξ
  |_=>Ξ):=by unfold fu;rw[e]
 cases o with
 |lst xs=>have hc:fu h H b=(h.get? b).map fun o=>.frz o (.lst xs):=hc;rw[he]at hc;exact .lst he (p.frzs _ _ _ hc)
 |dK xs=>have hc:fu h H b=(h.get? b).map fun o=>.frz o (.dK xs):=hc;rw[he]at hc;exact .dK he (p.frzs _ _ _ hc)
 |tup xs=>exact .tup (p.tups _ _ hc)
 |frz o' u=>
  have hc:fu h H b=if indep u=Δ then Γ (.frz o' u) else Ξ:=hc
  by_cases i:indep u=Δ
  ·rw[c_ i]at hc;exact .frz i (p.frzs _ _ _ hc)
  ·rw[b_ i]at hc;exact .oth he hc (p.free _ _ he hc) (fun _ z=>by cases z) (fun _ z=>by cases z) (fun _ z=>by cases z)
 |_=>exact .oth he hc (p.free _ _ he hc) (fun _ z=>by cases z) (fun _ z=>by cases z) (fun _ z=>by cases z)
theorem pY (x:HOk P w H h):HOk P w (fu h H) h:=fun b o e=>by
 cases q:H b with
 |none=>unfold fu at e;rw[q]at e;cases e
 |some u=>
  have y:=x b u q;unfold fu at e;rw[q]at e;cases u with
  |lst xs=>
   obtain⟨ob,he⟩:=y.at
   have e:(h.get? b).map (fun o=>HO.frz o (.lst xs))=Γ o:=e;rw[he]at e;cases e;exact⟨he,y⟩
  |dK xs=>
   obtain⟨ob,he⟩:=y.at
   have e:(h.get? b).map (fun o=>HO.frz o (.dK xs))=Γ o:=e;rw[he]at e;cases e;exact⟨he,y⟩
  |tup xs=>cases e;exact y
  |frz o' u=>
   have e:(if indep u=Δ then Γ (HO.frz o' u) else Ξ)=Γ o:=e;by_cases i:indep u=Δ
   ·rw[c_ i]at e;cases e;exact⟨y.1,jC i y.2⟩
   ·rw[b_ i]at e;cases e
  |_=>cases e
theorem gB (e:H a=Ξ):fu h H a=Ξ:=by unfold fu;rw[e]
theorem res_some {b:Ψ}{o:HO}(e:H b=Γ o):iy H H' b=Γ o:=by unfold iy;rw[e]
theorem res_none {b:Ψ}(e:H b=Ξ):iy H H' b=H' b:=by unfold iy;rw[e]
theorem oT:dO H (iy H H'):=fun b o e=>res_some e
theorem nt (x:HOk P w H h)(y:HOk P w H' g)(p:Pers h (fu h H) H'){fs:List Ψ}(keep:∀b o,H b≠Ξ->h.get? b=Γ o->fu h H b=Ξ->b∉fs->g.get? b=Γ o)(fr:∀b∈fs,H b=Ξ):HOk P w (iy H H') g:=by
 have tp:∀c xs,H' c=Γ (.tup xs)->iy H H' c=Γ (.tup xs):=fun c xs e=>by
  cases q:H c with
  |none=>rw[res_none q];exact e
  |some o=>
   rw[res_some q];cases mq x p q with
   |lst _ z=>rw[z]at e;cases e
   |dK _ z=>rw[z]at e;cases e
   |tup z=>rw[z]at e;exact e
   |frz _ z=>rw[z]at e;cases e
   |oth _ _ z _ _ _=>rw[z]at e;cases e
 intro b o e;cases q:H b with
 |some o'=>
  rw[res_some q]at e;cases e;cases mq x p q with
  |lst h1 z=>have h2:=(y b _ z).1;obtain⟨a1,its,n,a2,a3⟩:=x b _ q;rw[h1]at a3;exact⟨a1,its,n,a2,by rw[h2,<- a3]⟩
  |dK h1 z=>exact jC rfl (y b _ z).2
  |tup z=>exact y b _ z
  |frz i z=>exact⟨(y b _ z).1,jC i (y b _ z).2⟩
  |oth h1 h2 z n1 n2 n3=>
   refine(x b _ q).stay (fun c u hc hu=>?_) (fun c hc=>res_some hc) fun c xs hc=>res_some hc;rcases hc with rfl|hc
   ·exact keep _ _ (by rw[q];simp) hu h2 fun z=>by rw[fr _ z]at q;cases q
   ·refine keep _ _ (by rw[hc];simp) hu ?_ fun z=>by rw[fr _ z]at hc;cases hc
    unfold fu;rw[hc]
 |none=>
  rw[res_none q]at e;refine(y b o e).stay (fun _ _ _ z=>z) (fun c hc=>?_) tp;cases q':H c with
  |none=>rw[res_none q'];exact hc
  |some o'=>
   exfalso;cases mq x p q' with
   |lst _ z=>rw[z]at hc;cases hc
   |dK _ z=>rw[z]at hc;cases hc
   |tup z=>rw[z]at hc;cases hc
   |frz _ z=>rw[z]at hc;cases hc
   |oth _ _ z _ _ _=>rw[z]at hc;cases hc
theorem jD {fs:List Ψ}(u:Un fs [] (fu h H) H' h g):Pers h (fu h H) H':=⟨u.frzs,u.tups,fun b o e n=>u.free b o e n (by simp)⟩
theorem pZ {fs:List Ψ}(x:HOk P w H h)(u:Un fs [] (fu h H) H' h g):Un fs [] H (iy H H') h g where
 keep:=fun b o e n f i=>u.keep b o e (gB n) f i
 slot:=fun b o e n f i=>u.slot b o e (gB n) f i
 free:=fun b o e n i=>by rw[res_none n];exact u.free b o e (gB n) i
 there:=u.there
 tups:=fun b xs e=>res_some e
 frzs:=fun b o v e=>res_some e
 tbls:=fun b ps e=>⟨#[],by rw[res_some e];simp⟩
end
noncomputable def H0:Hp:=fun _=>Ξ
def CX1 (P:Β)(w:Α):CXT:=fun outer H s E e s'=>∃(a:Ψ) (cls a0:Φ) (H':Hp) (B:Heap),e=.ref a/\s'.os=s.os/\AllBare s'.gens/\Un (frs outer) [] H H' s.heap s'.heap/\HOk P w H' B/\dO H H'/\
 (∀b o,s.heap.get? b=Γ o->H b=Ξ->b∉frs outer->B.get? b=Γ o)/\Heap.FlyingW B outer a cls a0 s'.heap/\E cls Ξ H0
def xp1 (K:Frag):XK->Hp->Str->Prop:=fun E _ c=>∀C,PySem.W.nsIn K Ζ c=Γ (Γ (.ref C))->E (.ref C) Ξ H0
noncomputable def gq:List Str:=["len","sum","min","max","sorted","list","tuple","ord","int","all","any","str","set","abs","isinstance","range","bool","zip","reversed","dict","enumerate"]
noncomputable def mz:Bi->Nat
 |.len=>0|.sum=>1|.min2=>2|.max2=>3|.maxl=>3|.sorted=>4|.list=>5|.tuple=>6|.ord=>7|.int=>8|.all=>9|.any=>10|.str=>11|.set=>12|.abs=>13
noncomputable def qR:Kd->Nat
 |.str=>11|.int=>8|.bool=>16|.list=>5|.tuple=>6
theorem uo (f:Bi):gq[mz f]? = Γ (iH f):=by cases f<;>rfl
theorem AD (f:Kd):gq[qR f]? = Γ (jn f):=by cases f<;>rfl
mutual
noncomputable def sP:D->D->Bool
 |.non,.non=>Δ
 |.bl a,.bl b=>a == b
 |.int a,.int b=>a == b
 |.str a,.str b=>a == b
 |.tup a,.tup b=>kP a b
 |.lst o a,.lst o' b=>o == o'&&kP a b
 |_,_=>Θ
noncomputable def kP:List D->List D->Bool
 |[],[]=>Δ
 |a::r,b::s=>sP a b&&kP r s
 |_,_=>Θ
end
mutual
theorem qS:∀ {a b:D},sP a b=Δ->a=b
 |.non,b,h=>by cases b<;>first|rfl|cases h
 |.bl a,b,h=>by cases b<;>first|(rw[g_ (show(a == _)=Δ from h)])|cases h
 |.int a,b,h=>by cases b<;>first|(rw[g_ (show(a == _)=Δ from h)])|cases h
 |.str a,b,h=>by cases b<;>first|(rw[g_ (show(a == _)=Δ from h)])|cases h
 |.tup a,b,h=>by
  induction b using zD with
  |tup b=>rw[kQ (show kP a b=Δ from h)]
  |_=>cases h
 |.lst o a,b,h=>by
  induction b using zD with
  |lst o' b=>have h':(o == o'&&kP a b)=Δ:=h;rw[d_]at h';rw[g_ h'.1,kQ h'.2]
  |_=>cases h
theorem kQ:∀ {a b:List D},kP a b=Δ->a=b
 |[],b,h=>by cases b<;>first|rfl|cases h
 |a::r,b,h=>by
  induction b using zL with
  |nil=>cases h
  |cons b s=>have h':(sP a b&&kP r s)=Δ:=h;rw[d_]at h';rw[qS h'.1,kQ h'.2]
end
structure Sg where
 nm:List Str
 kst:List (Nat×D)
 fns:List Nat
 cls:List Nat:=[]
 xt:List (Str×Nat×Bool):=[]
 pl:List Nat:=[]
 rc:List (Nat×Str):=[]
 xm:List (Str×Nat):=[]
 fio:List Nat:=[]
noncomputable def Sg.name (Z:Sg)(n:Nat):Option Str:=(gq++Z.nm)[n]?
noncomputable def Gm.glc (G:Gm)(n:Nat):Bool:=G.cm&&G.gl.contains n
theorem ny {G:Gm}{n:Nat}(h:G.glc n=Δ):G.gl.contains n=Δ:=by unfold Gm.glc at h;rw[d_]at h;exact h.2
theorem nA {G:Gm}{n:Nat}(h:G.glc n=Δ):G.cm=Δ:=by unfold Gm.glc at h;rw[d_]at h;exact h.1
noncomputable def Sg.fnc (Z:Sg)(G:Gm)(f:Nat):Bool:=Z.fns.contains f&&(G.cm||Z.pl.contains f)
theorem nB {Z:Sg}{G:Gm}{f:Nat}(h:Z.fnc G f=Δ):f∈Z.fns/\(G.cm=Δ∨f∈Z.pl):=by unfold Sg.fnc at h;rw[d_,EJ]at h;exact⟨by simpa using h.1,h.2.elim .inl fun z=>.inr (by simpa using z)⟩
noncomputable def p6:Mt->Bool
 |.join=>Δ
 |_=>Θ
noncomputable def notStar:Expr->Bool
 |.Starred ..=>Θ
 |_=>Δ
noncomputable def fe:Expr->Bool
 |.Slice ..=>Θ
 |_=>Δ
noncomputable def kR:Expr->Bool
 |.Call _ [] [] _=>Θ
 |_=>Δ
noncomputable def gb (G:Gm)(i:Nat)(x:Str):Bool:=G.N[i]? == Γ x&&(G.kd[i]? == Γ .local||G.kd[i]? == Γ .cell||G.kd[i]? == Γ .free)
noncomputable def jo (Z:Sg)(G:Gm)(n:Nat)(x:Str):Bool:=Z.name n == Γ x&&G.gl.contains n
noncomputable def Cs:D->Const->Bool
 |.int i,.int j=>i == j
 |.str x,.str y=>x == y
 |.bl a,.bool b=>a == b
 |.non,.none=>Δ
 |_,_=>Θ
mutual
noncomputable def fM (G:Gm):Tg->Expr->Bool
 |.nm i,.Name x _=>(G.N[i]? == Γ x&&(G.kd[i]? == Γ .local||(G.df&&G.kd[i]? == Γ .cell)))&&G.io != Γ i
 |.tp ts,.Tuple es _ _=>G.cm&&jb G ts es
 |_,_=>Θ
noncomputable def jb (G:Gm):List Tg->List Expr->Bool
 |[],[]=>Δ
 |t::ts,e::es=>notStar e&&fM G t e&&jb G ts es
 |_,_=>Θ
end
mutual
noncomputable def tgs:Tg->List Nat
 |.nm i=>[i]
 |.tp ts=>oU ts
noncomputable def oU:List Tg->List Nat
 |[]=>[]
 |t::ts=>tgs t++oU ts
end
noncomputable def gu (Z : Sg)(G : Gm)(scope : Scope)(G' : Gm)(fr : List Nat) : Bool :=
  (G.cm&&scope.kind == .function)&&!G'.tr&&!G'.df&&G'.kd.length == G'.N.length
 &&scope.names.all (fun y =>y.2 != .cell)&&scope.names.all (fun y =>y.2 != .local||scope.names.lookup y.1 == Γ .local)
 &&scope.names.all (fun y =>y.2 != .free||(List.range G.N.length).any fun i =>G.N[i]? == Γ y.1&&(G.kd[i]? == Γ .cell||G.kd[i]? == Γ .free))
 &&(List.range fr.length).all (fun j =>G'.N[j]? == (fr[j]?).bind (G.N[·]?)&&((G'.N[j]?).bind (scope.names.lookup ·) == Γ .free)&&((fr[j]?).bind (G.kd[·]?) == Γ .cell||(fr[j]?).bind (G.kd[·]?) == Γ .free)
     &&(G'.kd[j]? == Γ (if((fr[j]?).bind (G.kd[·]?) == Γ .cell) then .cell else .free)))
 &&decide (fr.length <= G'.N.length)
 &&((List.range G'.N.length).drop fr.length).all (fun j =>(G'.N[j]?).bind (scope.names.lookup ·) == Γ .local&&G'.kd[j]? == Γ .local)
 &&G'.N.all (fun x =>!(x == "__debug__")&&!(x == "__classdict__"))
 &&decide (G'.N.Nodup)
 &&G'.gl.all (fun n =>match Z.name n with|some x =>scope.names.lookup x == Γ .globalImplicit|none =>Θ)
theorem aM {P:Prop}(h:Θ=Δ):P:=by cases h
noncomputable def p7:List Comprehension->(Expr->Expr->List Expr->Bool)->Bool
 |[⟨t,it,fs,0⟩],k=>k t it fs
 |_,_=>Θ
local macro_rules | `(tactic| exists $h) =>`(tactic| first | exact L2.aM $h | cases($h))
theorem kj {gens:List Comprehension}{k:Expr->Expr->List Expr->Bool}(h:p7 gens k=Δ):∃t it fs,gens=[⟨t,it,fs,0⟩]/\k t it fs=Δ:=by
 unfold p7 at h;split at h
 ·exact⟨_,_,_,rfl,h⟩
 ·cases h
noncomputable def nmv (k:Str->Bool):Expr->Bool
 |.Name z _=>k z
 |_=>Θ
theorem uq {k:Str->Bool}{e:Expr}(h:nmv k e=Δ):∃z p,e=.Name z p/\k z=Δ:=by
 induction e using zE with
 |Name z p=>exact⟨z,p,rfl,h⟩
 |_=>exact aM h
noncomputable def l1v {α:Type}:List α->(α->Bool)->Bool
 |a::r,k=>r.isEmpty&&k a
 |[],_=>Θ
theorem ur {α:Type}{l:List α}{k:α->Bool}(h:l1v l k=Δ):∃a,l=[a]/\k a=Δ:=by
 induction l using zL with
 |nil=>exact aM h
 |cons a r=>
  induction r using zL with
  |nil=>exact⟨a,rfl,h⟩
  |cons b r=>exact aM h
noncomputable def cav:Expr->(Expr->List Expr->Pos->Bool)->Bool
 |.Call f as ks p,k=>ks.isEmpty&&k f as p
 |_,_=>Θ
theorem uu {e:Expr}{k:Expr->List Expr->Pos->Bool}(h:cav e k=Δ):∃f as p,e=.Call f as [] p/\k f as p=Δ:=by
 induction e using zE with
 |Call f as ks p=>
  induction ks using zL with
  |nil=>exact⟨f,as,p,rfl,h⟩
  |cons b r=>exact aM h
 |_=>exact aM h
noncomputable def jq:Sr->Expr->Bool
 |_,_=>Δ
noncomputable def sQ:Bool->CmpOp
 |true=>.NotIn
 |false=>.In
noncomputable def dcv:Expr->Bool
 |.Dict ks vs _=>ks.isEmpty&&vs.isEmpty
 |_=>Θ
theorem uv {e:Expr}(h:dcv e=Δ):∃p,e=.Dict [] [] p:=by
 induction e using zE with
 |Dict ks vs p=>
  have h':=EA.mp (show(ks.isEmpty&&vs.isEmpty)=Δ from h)
  induction ks using zL with
  |cons _ _=>exact aM h'.1
  |nil=>
   induction vs using zL with
   |cons _ _=>exact aM h'.2
   |nil=>exact⟨p,rfl⟩
 |_=>exact aM h
noncomputable def sbx:Expr->(Expr->Expr->Bool)->Bool
 |.Subscript o s _,k=>k o s
 |_,_=>Θ
theorem AE {e:Expr}{k:Expr->Expr->Bool}(h:sbx e k=Δ):∃o s p,e=.Subscript o s p/\k o s=Δ:=by
 unfold sbx at h;split at h
 ·exact⟨_,_,_,rfl,h⟩
 ·cases h
noncomputable def cpx:Expr->(Expr->CmpOp->Expr->Bool)->Bool
 |.Compare l [o] [r] _,k=>k l o r
 |_,_=>Θ
theorem AF {e:Expr}{k:Expr->CmpOp->Expr->Bool}(h:cpx e k=Δ):∃l o r p,e=.Compare l [o] [r] p/\k l o r=Δ:=by
 unfold cpx at h;split at h
 ·exact⟨_,_,_,_,rfl,h⟩
 ·cases h
noncomputable def lrv (e:Expr)(k:Str->Str->Expr->Bool):Bool:=cav e fun f as _=>nmv (fun x=>l1v as fun a=>cav a fun g bs _=>nmv (fun y=>l1v bs fun b=>k x y b) g) f
theorem AG {e:Expr}{k:Str->Str->Expr->Bool}(h:lrv e k=Δ):∃x p y p' e' q' q,e=.Call (.Name x p) [.Call (.Name y p') [e'] [] q'] [] q/\k x y e'=Δ:=by obtain⟨f,as,q,rfl,h1⟩:=uu h;obtain⟨x,p,rfl,h2⟩:=uq h1;obtain⟨a,rfl,h3⟩:=ur h2;obtain⟨g,bs,q',rfl,h4⟩:=uu h3;obtain⟨y,p',rfl,h5⟩:=uq h4;obtain⟨b,rfl,h6⟩:=ur h5;exact⟨_,_,_,_,_,_,_,rfl,h6⟩
noncomputable def isNm:Expr->Bool
 |.Name ..=>Δ
 |_=>Θ
noncomputable def dsv:Expr->(Str->Expr->Str->Bool->Bool)->Bool
 |.Call (.Name x _) [.Call (.Attribute o name apos) [] [] cpos] [] _,k=>k x o name (apos.endLine == cpos.line)
 |_,_=>Θ
theorem AH {e:Expr}{k:Str->Expr->Str->Bool->Bool}(h:dsv e k=Δ):∃x p o name apos cpos q,e=.Call (.Name x p) [.Call (.Attribute o name apos) [] [] cpos] [] q/\k x o name (apos.endLine == cpos.line)=Δ:=by
 unfold dsv at h;split at h
 ·exact⟨_,_,_,_,_,_,_,rfl,h⟩
 ·cases h
mutual
noncomputable def chk (Z:Sg)(G:Gm):IR->Expr->Bool
 |.c d,.Constant k _ _=>Cs d k
 |.g n d,.Name x _=>jo Z G n x&&Z.kst.any fun p=>p.1 == n&&sP p.2 d
 |.v i,.Name x _=>gb G i x
 |.bin op a b,.BinOp l o r _=>o == bop op&&chk Z G a l&&chk Z G b r
 |.neg a,.UnaryOp .USub e _=>chk Z G a e
 |.cmp op a b,.Compare l [o] [r] _=>o == cop op&&chk Z G a l&&chk Z G b r&&!behindInMarks o r
 |.chain op op' a b c,.Compare l [o,o'] [m,r] _=>o == cop op&&o' == cop op'&&chk Z G a l&&chk Z G b m&&chk Z G c r&&!lastMarks [o,o'] [m,r]
 |.and_ a b,.BoolOp .And [e,e'] _=>chk Z G a e&&chk Z G b e'
 |.and_ a b,.BoolOp .And (e::e'::e''::rest) p=>chk Z G a e&&chk Z G b (.BoolOp .And (e'::e''::rest) p)
 |.or_ a b,.BoolOp .Or [e,e'] _=>chk Z G a e&&chk Z G b e'
 |.or_ a b,.BoolOp .Or (e::e'::e''::rest) p=>chk Z G a e&&chk Z G b (.BoolOp .Or (e'::e''::rest) p)
 |.not_ a,.UnaryOp .Not e _=>chk Z G a e
 |.tup es,.Tuple l _ _=>ft Z G es l
 |.lst es,.List l _=>ft Z G es l
 |.sl a lo hi,.Subscript e (.Slice l h Ξ _) _=>chk Z G a e&&p8 Z G lo l&&p8 Z G hi h
 |.idx a i,.Subscript e s _=>fe s&&chk Z G a e&&chk Z G i s
 |.call f es,.Call (.Name x _) args [] _=>jo Z G f x&&Z.fnc G f&&ft Z G es args
 |.bi f es,.Call (.Name x _) (a::args) [] _=>x == iH f&&G.glc (mz f)&&ft Z G es (a::args)
 |.isi a k,.Call (.Name x _) [e,.Name y _] [] _=>x == "isinstance"&&G.gl.contains 14&&y == jn k&&G.gl.contains (qR k)&&notStar e&&chk Z G a e
 |.dnew,e=>dcv e
 |.dget a k,e=>sbx e fun o s=>fe s&&chk Z G a o&&chk Z G k s
 |.din n k a,e=>cpx e fun l o r=>o == sQ n&&chk Z G k l&&chk Z G a r&&!behindInMarks o r
 |.lset a,e=>lrv e fun x y e=>x == "len"&&G.gl.contains 0&&y == "set"&&G.gl.contains 12&&(notStar e&&G.cm)&&chk Z G a e
 |.dsum a,e=>dsv e fun x o n l=>x == "sum"&&G.glc 1&&isNm o&&n == "values"&&l&&chk Z G a o
 |.mth m o es,.Call (.Attribute oe name apos) (a::args) [] cpos=>name == kO m&&kR oe&&apos.endLine == cpos.line&&(decide ((a::args).length < 29)&&(G.cm||p6 m))&&chk Z G o oe&&ft Z G es (a::args)
 |.comp G' fr tg src ifs elt,.ListComp e gens scope _=>p7 gens fun t it fs=>gu Z G scope G' fr&&fM G' tg t&&(tgs tg).all (fun i=>decide (fr.length<=i))&&(gU Z G src it&&jq src t)&&ft Z G' ifs fs&&chk Z G' elt e
 |_,_=>Θ
noncomputable def ft (Z:Sg)(G:Gm):List IR->List Expr->Bool
 |[],[]=>Δ
 |a::es,e::l=>notStar e&&chk Z G a e&&ft Z G es l
 |_,_=>Θ
noncomputable def p8 (Z:Sg)(G:Gm):Option IR->Option Expr->Bool
 |none,Ξ=>Δ
 |some a,Γ e=>chk Z G a e
 |_,_=>Θ
noncomputable def gU (Z:Sg)(G:Gm):Sr->Expr->Bool
 |.rng1 n,.Call (.Name x _) [e] [] _=>x == "range"&&G.gl.contains 15&&notStar e&&chk Z G n e
 |.val a,e=>chk Z G a e
 |_,_=>Θ
end
noncomputable def bmV:List Φ:=[.type "ValueError",.type "Exception",.type "BaseException",.type "object"]
mutual
theorem xk:∀ {d:D},kM d=Δ->er d=d
 |.non,_=>rfl
 |.bl _,_=>rfl
 |.int _,_=>rfl
 |.str _,_=>rfl
 |.exc _,_=>rfl
 |.tup ds,h=>by rw[er,gZ (ds:=ds) h]
 |.lst o ds,h=>by
  have h':(!o&&fq ds)=Δ:=h;rw[d_]at h';have ho:o=Θ:=by simpa using h'.1
  rw[er,gZ h'.2,ho]
 |.dct o ks ds,h=>by
  have h':(!o&&fq ds)=Δ:=h;rw[d_]at h';have ho:o=Θ:=by simpa using h'.1
  rw[er,gZ h'.2,ho]
theorem gZ:∀ {ds:List D},fq ds=Δ->ers ds=ds
 |[],_=>rfl
 |d::ds,h=>by have h':(kM d&&fq ds)=Δ:=h;rw[d_]at h';rw[ers,xk h'.1,gZ h'.2]
end
def FOk (F:Ψ->Prop)(H:Hp):Prop:=∀a,F a->H a≠Ξ
structure Out (K:Frag)(F:Ψ->Prop)(H:Hp)(F':Ψ->Prop)(H':Hp)(v:V)(d:D)(fv:List Ψ):Prop where
 fok:FOk F' H'
 same:dO H H'
 rep:MRep K F' H' v d fv
 nod:fv.Nodup
 new:∀a∈fv,H a=Ξ
 inn:∀a,F a->F' a
 out:∀a,F' a->F a∨H a=Ξ
def spF (K:Frag)(cl:Nat->List D->Res D)(xp:XK->Hp->Str->Prop)(f:Nat)(ps:List Str):Sp:=fun vs H Q E=>vs.length=ps.length/\LTH H/\∃F ds,FOk F H/\HReps K F H vs ds/\
 PO' (xp E H) (cl f (ers ds)) fun d=>∀v H' F' fv,Out K F H F' H' v d fv->Q v H'
structure FnC (P:Β)(w:Α)(K:Frag)(mg:Str->Option Φ)(base:Heap)(CX:CXT)(A:Η)(cl:Nat->List D->Res D)(xp:XK->Hp->Str->Prop)(f:Nat)(x:Str):Prop where
 ex:∃(k:Nat) (fa:Ψ) (fd:Ν) (ps:List Str),mg x=Γ (.ref fa)/\PySem.W.keepIn K (.ref fa)=Δ/\Binds K fd ps []/\FnOk P w K mg base CX k fa fd ps (spF K cl xp f ps)/\Room k A/\
  ∀(ex:Str->Prop) ds (k:D->Prop),PO' ex (cl f ds) k->ds.length=ps.length
noncomputable def rm (a:Ψ)(H:Hp):Hp:=fun b=>if b=a then Ξ else H b
structure OutI (K:Frag)(a:Ψ)(F:Ψ->Prop)(H:Hp)(F':Ψ->Prop)(H':Hp)(v:V)(d:D)(fv:List Ψ)(kvs':List (Key×V))(ks':List Key)(es':List D):Prop where
 out:Out K F (rm a H) F' H' v d fv
 nF:¬F' a
 nf:a∉fv
 at_:H' a=Γ (.dK kvs')
 ks:kvs'.map (·.1)=ks'
 vs:HReps K F' H' (kvs'.map (·.2)) es'
structure ArgI (K:Frag)(a:Ψ)(F:Ψ->Prop)(H:Hp)(ws us:List V)(ds ds2:List D)(kvs:List (Key×V))(es:List D):Prop where
 fok:FOk F H
 nF:¬F a
 at_:H a=Γ (.dK kvs)
 ws:HReps K F H ws ds
 us:HReps K F H us ds2
 vs:HReps K F H (kvs.map (·.2)) es
 lf:ers es=es
def spI (K:Frag)(cl:Nat->List D->Res D)(f:Nat)(ps:List Str):Sp:=fun vs H Q _=>vs.length=ps.length/\∃a F ws us ds ds2 kvs es,vs=ws++.ref a::us/\ArgI K a F H ws us ds ds2 kvs es/\
 ∃d ks' es',cl f (ers ds++.dct Δ (kvs.map (·.1)) es::ers ds2)=.ok (.tup [d,.dct Θ ks' es'])/\ers es'=es'/\∀v H' F' fv kvs',OutI K a F H F' H' v d fv kvs' ks' es'->Q v H'
structure FnI (P:Β)(w:Α)(K:Frag)(mg:Str->Option Φ)(base:Heap)(CX:CXT)(A:Η)(cl:Nat->List D->Res D)(f:Nat)(x:Str):Prop where
 ex:∃(k:Nat) (fa:Ψ) (fd:Ν) (ps:List Str),mg x=Γ (.ref fa)/\PySem.W.keepIn K (.ref fa)=Δ/\Binds K fd ps []/\FnOk P w K mg base CX k fa fd ps (spI K cl f ps)/\Room k A/\
  ∀ds r,cl f ds=.ok r->ds.length=ps.length
structure TrOk (Z:Sg)(CX:CXT)(cl:Nat->List D->Res D)(xp:XK->Hp->Str->Prop)(X:Cx):Prop where
 st:X.stack=X.env::X.outer
 fr:X.env.frame=Γ X.env.locals
 lt:LTH X.H₀
 pl:∀a:Ψ,∀f∈Z.fns,f∈Z.pl->∀x,Z.name f=Γ x->FnC X.prog X.w X.K X.mg X.base CX (X.A.mark (Γ (.ref a))) cl xp f x
 cx:∀(outer:List Env) (H:Hp) (s:Ω) (E:XK) (e:Φ) (s':Ω),CX outer H s E e s'->CX1 X.prog X.w outer H s E e s'
 xp:∀(c:Str) (C:Ψ) (H:Hp),PySem.W.nsIn X.K Ζ c=Γ (Γ (.ref C))->xp (fun cls _ _=>cls=.ref C) H c
structure GOk (Z:Sg)(CX:CXT)(cl:Nat->List D->Res D)(xp:XK->Hp->Str->Prop)(X:Cx)(ex:Str->Prop)(G:Gm):Prop where
 N:X.N=G.N
 nod:G.N.Nodup
 calm:G.cm=Δ->X.calm=Δ
 fk:X.env.scope.kind=.function
 un:X.A.units+42 < cLine
 own:G.rs=Δ->PassesOwn (Κ X.prog X.w) X.A X.env X.xe
 kd:∀(i:Nat) (x:Str),G.N[i]? = Γ x->X.env.kindOf x=G.kd[i]?
 noD:∀(i:Nat) (x:Str),G.N[i]? = Γ x->(x == ("__debug__" : Str))=Θ/\(x == ("__classdict__" : Str))=Θ
 gl:∀n∈G.gl,∀x,Z.name n=Γ x->Gl X x
 nam:∀n x,Z.name n=Γ x->x≠"__name__"/\(x == ("__debug__" : Str))=Θ
 df:G.df=Δ->∀x,X.fn x=Δ
 blt:∀(n:Nat) (x:Str),gq[n]? = Γ x->X.mg x=Ξ
 cst:∀n d x,(n,d)∈Z.kst->Z.name n=Γ x->∃u v,X.mg x=Γ u/\RelV v u/\∀S H,HRep X.K S H v d
 fns:∀f∈Z.fns,(G.cm=Δ∨f∈Z.pl)->∀x,Z.name f=Γ x->FnC X.prog X.w X.K X.mg X.base CX X.A cl xp f x
 fio:∀f∈Z.fio,G.cm=Δ->∀x,Z.name f=Γ x->FnI X.prog X.w X.K X.mg X.base CX X.A cl f x
 xcv:∀n∈Z.cls,∀x,Z.name n=Γ x->∃v,CV X x v
 xcl:∀c n b x,(c,n,b)∈Z.xt->Z.name n=Γ x->∃C,PySem.W.nsIn X.K Ζ c=Γ (Γ (.ref C))/\ExcAt X.K C/\∀v,CV X x v->PySem.W.kitOne X.K (.ref C) (vv v)=Γ b
 xmt:∀c n x,(c,n)∈Z.xm->Z.name n=Γ x->∃C C',PySem.W.nsIn X.K Ζ c=Γ (Γ (.ref C))/\PySem.W.nsIn X.K Ζ x=Γ (Γ (.ref C'))/\nameIn X.K C=Γ c/\X.mg x=Γ (.ref C')/\PySem.W.exmOne X.K (.ref C) (.ref C')=Γ Δ
 xrs:∀n c,(n,c)∈Z.rc->Z.name n=Γ c/\∃C,X.mg c=Γ (.ref C)/\PySem.W.nsIn X.K Ζ c=Γ (Γ (.ref C))/\PySem.W.excIn X.K C bmV "ValueError.__new__" = Δ
 rse:G.rs=Δ->∀(pins:List (Ψ×Obj)) (σ:St) (H:Hp) (s:Ω) (c:Str) (C:Ψ) (h':Heap) (e:Ψ) (vs:List Φ),Inv X pins σ H s->ex c->PySem.W.nsIn X.K Ζ c=Γ (Γ (.ref C))->Heap.MadeExcOf s.heap h' e (.ref C) vs->X.xe (.ref e) {s with heap:=h'}
 tr:G.tr=Δ->TrOk Z CX cl xp X
 exs:∃E:XK,Passes CX X E/\∀c H,ex c->xp E H c
 hid:∀(outer:List Env) (H:Hp) (s:Ω) (E:XK) (e:Φ) (s':Ω),HOk X.prog X.w H s.heap->(∀b∈frs outer,H b=Ξ)->CX outer (fu s.heap H) s E e s'->CX outer H s E e s'
 exn:∀(H:Hp) (outer:List Env) (s:Ω) (e:Φ) (s':Ω),¬CX outer H s (fun _ _ _=>False) e s'
section
variable {P:Β}{w:Α}{H H':Hp}{h:Heap}{K:Frag}{Fc F':Ψ->Prop}
theorem nC {vs:List V}{ds:List D}(x:HOk P w H h)(m:HReps K Fc H vs ds):HReps K (fun a=>Fc a/\fu h H a≠Ξ) (fu h H) vs ds:=by
 refine(m.step (S':=Fc) (H':=fu h H) (fun a xs f r=>⟨f,?_⟩) fun a xs r=>?_).tight
 ·rcases r with r|⟨o,r⟩
  ·obtain⟨ob,he⟩:=(x a _ r).at
   refine .inr ⟨ob,?_⟩;unfold fu;rw[r];cases xs with
   |l ys=>show(h.get? a).map _=_;rw[he];rfl
   |d ys=>show(h.get? a).map _=_;rw[he];rfl
  ·refine .inr ⟨o,?_⟩;unfold fu;rw[r];cases xs<;>rfl
 ·cases xs with
  |inl xs=>
   rcases r with(r|⟨o,r⟩)|r
   ·refine .inl (.inl ?_);unfold fu;rw[r]
   ·refine .inl (.inr ⟨o,?_⟩);unfold fu;rw[r];rfl
   ·exact .inr r
  |inr c=>obtain⟨C,o,vs,h0,h1,h2,h3⟩:=r;refine⟨C,o,vs,h0,h1,?_,h3⟩;unfold fu;rw[h2];rfl
theorem oV (x:HOk P w H h)(p:Pers h (fu h H) H'){a:Ψ}(n:fu h H a=Ξ)(e:H' a≠Ξ):H a=Ξ:=by
 cases q:H a with
 |none=>rfl
 |some o=>
  obtain⟨ob,he⟩:=(x a o q).at
  exact absurd (p.free a ob he n) e
theorem kl {v:V}{d:D}{fv:List Ψ}(x:HOk P w H h)(fok:FOk Fc H)(p:Pers h (fu h H) H')(o:Out K (fun a=>Fc a/\fu h H a≠Ξ) (fu h H) F' H' v d fv):Out K Fc H (fun a=>Fc a∨F' a) (iy H H') v d fv:=by
 have new:∀a∈fv,H a=Ξ:=fun a ha=>oV x p (o.new a ha) (by obtain⟨_,xs,e⟩:=o.rep.own a ha;rw[e];simp);refine⟨fun a ha=>?_,oT,o.rep.step (fun a xs f r=>⟨.inr f,?_⟩) (fun a xs r=>?_) fun a ha nf hn=>⟨fun z=>?_,res_none (new a ha)⟩,o.nod,new,fun a ha=>.inl ha,fun a ha=>?_⟩
 ·cases q:H a with
  |some u=>rw[res_some q];simp
  |none=>
   rw[res_none q];rcases ha with ha|ha
   ·exact absurd q (fok a ha)
   ·exact o.fok a ha
 ·cases q:H a with
  |none=>unfold Rd;rw[res_none q];exact r
  |some u=>
   unfold Rd;rw[res_some q];cases mq x p q with
   |lst _ z=>
    cases xs with
    |l ys=>
     rcases r with r|⟨o',r⟩
     ·rw[z]at r;cases r
     ·rw[z]at r;cases r;exact .inl rfl
    |d ys=>rcases r with r|⟨o',r⟩<;>(rw[z]at r;cases r)
   |dK _ z=>
    cases xs with
    |d ys=>
     rcases r with r|⟨o',r⟩
     ·rw[z]at r;cases r
     ·rw[z]at r;cases r;exact .inl rfl
    |l ys=>rcases r with r|⟨o',r⟩<;>(rw[z]at r;cases r)
   |tup z=>cases xs<;>rcases r with r|⟨o',r⟩<;>(rw[z]at r;cases r)
   |frz _ z=>
    cases xs with
    |l ys=>
     rcases r with r|⟨o',r⟩
     ·rw[z]at r;cases r
     ·rw[z]at r;cases r;exact .inr ⟨_,rfl⟩
    |d ys=>
     rcases r with r|⟨o',r⟩
     ·rw[z]at r;cases r
     ·rw[z]at r;cases r;exact .inr ⟨_,rfl⟩
   |oth _ _ z _ _ _=>exact absurd z r.some
 ·cases xs with
  |inl xs=>
   rcases r with r|r
   ·refine .inl ?_;cases q:H a with
    |none=>unfold Rd;rw[res_none q];exact r
    |some u=>
     unfold Rd;rw[res_some q];cases mq x p q with
     |lst _ z=>rcases r with r|⟨o',r⟩<;>(rw[z]at r;cases r)
     |dK _ z=>rcases r with r|⟨o',r⟩<;>(rw[z]at r;cases r)
     |tup z=>
      rcases r with r|⟨o',r⟩
      ·rw[z]at r;cases r;exact .inl rfl
      ·rw[z]at r;cases r
     |frz _ z=>
      rcases r with r|⟨o',r⟩
      ·rw[z]at r;cases r
      ·rw[z]at r;cases r;exact .inr ⟨_,rfl⟩
     |oth _ _ z _ _ _=>exact absurd z r.some
   ·exact .inr r
  |inr c=>
   obtain⟨C,ob,vs,h0,h1,h2,h3⟩:=r;refine⟨C,ob,vs,h0,h1,?_,h3⟩;cases q:H a with
   |none=>rw[res_none q];exact h2
   |some u=>
    rw[res_some q];cases mq x p q with
    |lst _ z=>rw[z]at h2;cases h2
    |dK _ z=>rw[z]at h2;cases h2
    |tup z=>rw[z]at h2;cases h2
    |frz _ z=>rw[z]at h2;cases h2;rfl
    |oth _ _ z _ _ _=>rw[z]at h2;cases h2
 ·rcases z with z|z
  ·exact fok a z (new a ha)
  ·exact nf z
 ·rcases ha with ha|ha
  ·exact .inl ha
  ·rcases o.out a ha with z|z
   ·exact .inl z.1
   ·exact .inr (oV x p z (o.fok a ha))
end
section
variable {X:Cx}{CX:CXT}{cl:Nat->List D->Res D}{xp:XK->Hp->Str->Prop}
theorem Inv.env0h {pins:List (Ψ×Obj)}{σ:St}{H:Hp}{s:Ω}(I:Inv X pins σ H s):Env0 X.prog X.w X.K X.mg X.base X.A X.stack s (fu s.heap H):=
 ⟨I.env0.frames,I.env0.mod,fun b o e=>⟨(I.env0.bs b o e).1,gB (I.env0.bs b o e).2⟩,I.env0.bsz,I.env0.funs,fun b hb=>gB (I.env0.frf b hb),pY I.hok,I.env0.bare⟩
theorem qT {k:Nat}{f:Nat}{fa:Ψ}{fd:Ν}{ps:List Str}{E:XK}{pins:List (Ψ×Obj)}{σ:St}{H:Hp}{s:Ω}{Q:VK}{us:List Φ}{vs:List V}{ds:List D}{Fc:Ψ->Prop}
  (F:FnOk X.prog X.w X.K X.mg X.base CX k fa fd ps (spF X.K cl xp f ps)) (hr:Room k X.A) (hb:Binds X.K fd ps []) (hx:Passes CX X E)
  (hh:∀(outer:List Env) (H:Hp) (s:Ω) (E:XK) (e:Φ) (s':Ω),HOk X.prog X.w H s.heap->(∀b∈frs outer,H b=Ξ)->CX outer (fu s.heap H) s E e s'->CX outer H s E e s')
  (I:Inv X pins σ H s) (r:Vals vs us) (hl:vs.length=ps.length) (fok:FOk Fc H) (m:HReps X.K Fc H vs ds)
  (q:PO' (xp E (fu s.heap H)) (cl f (ers ds)) fun d=>∀v H' F' fv,Out X.K Fc H F' H' v d fv->Q v H'):Ι (Κ X.prog X.w) X.A (call (.ref fa) us) (EP X pins σ Q) X.xe s:=by
 have hsp:spF X.K cl xp f ps vs (fu s.heap H) (fun v H'=>Pers s.heap (fu s.heap H) H'->Q v (iy H H')) E:=
  ⟨hl,um _ _,_,ds,fun a h=>h.2,nC I.hok m,q.mono fun d hd v H' F' fv o p=>hd v _ _ fv (kl I.hok fok p o)⟩
 have hl2:(us++([]:List Φ)).length=ps.length:=by rw[D_,<- r.length];exact hl
 have bd:=hb s us I.kIn hl2;rw[D_]at bd;refine wpAny_call (codeAny_mono (F.run X.A X.stack s (fu s.heap H) ⟨us,[]⟩ us vs _ E hr I.env0h bd r hsp) fun r' s' hq=>?_);cases r' with
 |error e=>exact hx pins σ H s e s' I (hh X.stack H s E e s' I.hok I.env0.frf hq)
 |ok fl=>
  cases fl with
  |ret u=>obtain⟨v,H',a1,a2,a3,a4,a5,a6⟩:=hq;exact I.after (Q:=Q) ⟨v,iy H H',a1,a2,pZ I.hok a3,nt I.hok a4 (jD a3) (fs:=frs X.stack) (fun b o _ e n f=>a3.keep b o e n f (by simp)) I.env0.frf,a5,a6 (jD a3)⟩
  |next=>exact False.elim hq
  |brk=>exact False.elim hq
  |cont=>exact False.elim hq
end
def Slots (K:Frag)(S:Ψ->Prop)(H:Hp)(σ:St)(τ:Ev)(is:List Nat):Prop:=∀i∈is,∀d,cq τ i=Γ d->∃v,σ[i]? = Γ (Γ v)/\HRep K S H v d
theorem Slots.sub {K:Frag}{S:Ψ->Prop}{H:Hp}{σ:St}{τ:Ev}{is js:List Nat}(h:Slots K S H σ τ is)(s:∀i∈js,i∈is):Slots K S H σ τ js:=fun i hi d e=>h i (s i hi) d e
theorem Slots.left {K:Frag}{S:Ψ->Prop}{H:Hp}{σ:St}{τ:Ev}{is js:List Nat}(h:Slots K S H σ τ (is++js)):Slots K S H σ τ is:=h.sub fun _ hi=>k_ _ hi
theorem Slots.right {K:Frag}{S:Ψ->Prop}{H:Hp}{σ:St}{τ:Ev}{is js:List Nat}(h:Slots K S H σ τ (is++js)):Slots K S H σ τ js:=h.sub fun _ hi=>m_ _ hi
theorem Slots.go {K:Frag}{S:Ψ->Prop}{H H':Hp}{σ:St}{τ:Ev}{is:List Nat}(h:Slots K S H σ τ is)(e:dO H H'):Slots K (nw S H) H' σ τ is:=fun i hi d z=>by obtain⟨v,h1,h2⟩:=h i hi d z;exact⟨v,h1,h2.mono (fun _=>.inl) e⟩
def RD (K:Frag)(ex:Str->Prop)(is:List Nat)(f:Ev->Res D):TE:=fun σ H Q=>∃S τ,Slots K S H σ τ is/\PO' ex (f τ) (Kk K S H Q)
def RT (K:Frag)(ex:Str->Prop)(is:List Nat)(f:Ev->Res Bool):TT:=fun σ H Q=>∃S τ,Slots K S H σ τ is/\PO' ex (f τ) fun b=>∀H',dO H H'->Q b H'
def RA (K:Frag)(ex:Str->Prop)(is:List Nat)(f:Ev->Res (List D)):TA:=fun σ H Q=>∃S τ,Slots K S H σ τ is/\PO' ex (f τ) fun ds=>∀vs H',dO H H'->HReps K (nw S H) H' vs ds->Q vs H'
def ROp (K:Frag)(ex:Str->Prop)(is:List Nat)(f:Ev->Res (Option Int)):TO:=fun σ H Q=>∃S τ,Slots K S H σ τ is/\PO' ex (f τ) fun o=>∀H',dO H H'->Q o H'
inductive Wlk (K:Frag)(S:Ψ->Prop)(H:Hp):It->List D->Prop where
 | lst {a:Ψ}{xs:List V}{ds:List D}:S a->Rd H a (.lst xs)->HReps K S H xs ds->Wlk K S H (Itl K a) ds
 | lstK {a:Ψ}{xs:List V}{ds:List D}:KL K a xs->HReps K S H xs ds->Wlk K S H (Itl K a) ds
 | tup {a:Ψ}{xs:List V}{ds:List D}:SqT K H a xs->HReps K S H xs ds->Wlk K S H (Itt K a) ds
 | rng (lo hi:Int):Wlk K S H (Itr lo (hi - lo).toNat) (ir lo hi)
 | str (x:Str):Wlk K S H (Its x) (il x)
def RI (K:Frag)(ex:Str->Prop)(is:List Nat)(f:Ev->Res (List D)):TI:=fun σ H R=>∃S τ,Slots K S H σ τ is/\PO' ex (f τ) fun ds=>∀J H',dO H H'->Wlk K (nw S H) H' J ds->R J H'
theorem ka {S:Ψ->Prop}{H H1:Hp}(e:dO H H1):∀a,nw (nw S H) H1 a->nw S H a:=fun a h=>by
 rcases h with h|h
 ·exact h
 ·exact .inr (e.free h)
section
variable {Z:Sg}{CX:CXT}{cl:Nat->List D->Res D}{xp:XK->Hp->Str->Prop}{X:Cx}{ex:Str->Prop}{G:Gm}
theorem Kk.fit {K:Frag}{S:Ψ->Prop}{H H1:Hp}{Q:VK}{d:D}(e:dO H H1)(h:Kk K S H Q d):Kk K (nw S H) H1 Q d:=fun w H' e' m=>h w H' (e.trans e') (m.mono (ka e) (.refl _))
theorem qU (g:GOk Z CX cl xp X ex G){n:Nat}{x:Str}(h:jo Z G n x=Δ):Gl X x/\Z.name n=Γ x/\x≠"__name__"/\(x == ("__debug__" : Str))=Θ:=by unfold jo at h;rw[d_]at h;have e:Z.name n=Γ x:=g_ h.1;exact⟨g.gl n (by simpa using h.2) x e,e,g.nam n x e⟩
theorem yL (Z:Sg){n:Nat}{x:Str}(h:gq[n]? = Γ x):Z.name n=Γ x:=by unfold Sg.name;rw[E3 (B_.mp h).1];exact h
theorem jc (g:GOk Z CX cl xp X ex G){n:Nat}{x:Str}(h:gq[n]? = Γ x)(hc:G.gl.contains n=Δ):Gl X x/\X.mg x=Ξ/\x≠"__name__"/\(x == ("__debug__" : Str))=Θ:=
 ⟨g.gl n (by simpa using hc) x (yL Z h),g.blt n x h,g.nam n x (yL Z h)⟩
theorem dN {e:Expr}(h:notStar e=Δ)(es:List Expr)(env:Env):Μ (e::es) env=(Θ,eval e env)::Μ es env:=by
 induction e using zE<;>first|rfl|cases h
theorem gH (Z:Sg)(G:Gm):∀ {es:List IR}{l:List Expr} (p:Pos) (env:Env),ft Z G es l=Δ->(backTo p (Μ l env)).any (·.1)=Θ
 |[],[],_,_,_=>rfl
 |a::es,e::l,p,env,h=>by have h':(notStar e&&chk Z G a e&&ft Z G es l)=Δ:=h;simp only[d_]at h';rw[dN h'.1.1];have ih:=gH Z G (es:=es) (l:=l) p env h'.2;show(Θ||(backTo p (Μ l env)).any (·.1))=Θ;rw[ih];rfl
 |[],_::_,_,_,h=>by cases h
 |_::_,[],_,_,h=>by cases h
theorem uw {d:D}{v:V}(h:∀S H,HRep X.K S H v d){σ:St}{H:Hp}{Q:VK}{is:List Nat}(q:RD X.K ex is (fun _=>.ok d) σ H Q):Q v H:=by obtain⟨S,τ,_,q⟩:=q;exact q.ok _ _ (.refl _) (h _ _)
theorem Ct {e:Expr}{is:List Nat}{f:Ev->Res D}(h:PE X e (RD X.K ex is f))(he:∀whole,isTrue e X.env whole=(do let v <- whole;standAt e.pos;holding [v] (truthy v))):PT X e (RT X.K ex is fun τ=>bnd (f τ) fQ):=by intro pins s σ H Q I hw;obtain⟨S,τ,hs,hw⟩:=hw;refine isTrue_plain (thn (h pins s σ H (fun v H'=>∃d,dO H H'/\HRep X.K (nw S H) H' v d/\PO' ex (fQ d) fun b=>∀H',dO H H'->Q b H') I ⟨S,τ,hs,(PO'.bnd hw).mono fun d hd v H' e m=>⟨d,e,m,hd⟩⟩) fun v s1 ⟨x,H1,I1,r1,d,e,m,hd⟩=>?_) (he _);exact ki I1 r1 m (hd.mono fun b z=>z H1 e)
end
section
variable {Z:Sg}{CX:CXT}{cl:Nat->List D->Res D}{xp:XK->Hp->Str->Prop}{X:Cx}{ex:Str->Prop}{G:Gm}{K:Frag}{S:Ψ->Prop}{H H1:Hp}{σ:St}{τ:Ev}
theorem fI {is:List Nat}{f:Ev->Res D}{Kt:D->Prop}{Q:VK}(e:dO H H1)(hs:Slots K S H σ τ is)(h:PO' ex (f τ) Kt)(k:∀x v H2,dO H H2->dO H1 H2->HRep K (nw S H) H2 v x->Kt x->Q v H2):RD K ex is f σ H1 Q:=
 ⟨nw S H,τ,hs.go e,h.mono fun x hx v H2 e2 m=>k x v H2 (e.trans e2) e2 (m.mono (ka e) (.refl _)) hx⟩
theorem lJ {is:List Nat}{f:Ev->Res Bool}{Kt:Bool->Prop}{Q:Bool->Hp->Prop}(e:dO H H1)(hs:Slots K S H σ τ is)(h:PO' ex (f τ) Kt)(k:∀x H2,dO H H2->dO H1 H2->Kt x->Q x H2):RT K ex is f σ H1 Q:=
 ⟨nw S H,τ,hs.go e,h.mono fun x hx H2 e2=>k x H2 (e.trans e2) e2 hx⟩
theorem nD {is:List Nat}{f:Ev->Res (List D)}{Kt:List D->Prop}{Q:List V->Hp->Prop}(e:dO H H1)(hs:Slots K S H σ τ is)(h:PO' ex (f τ) Kt)(k:∀x v H2,dO H H2->dO H1 H2->HReps K (nw S H) H2 v x->Kt x->Q v H2):RA K ex is f σ H1 Q:=
 ⟨nw S H,τ,hs.go e,h.mono fun x hx v H2 e2 m=>k x v H2 (e.trans e2) e2 (m.mono (ka e) (.refl _)) hx⟩
theorem xl {is:List Nat}{f:Ev->Res (Option Int)}{Kt:Option Int->Prop}{Q:Option Int->Hp->Prop}(e:dO H H1)(hs:Slots K S H σ τ is)(h:PO' ex (f τ) Kt)(k:∀x H2,dO H H2->dO H1 H2->Kt x->Q x H2):ROp K ex is f σ H1 Q:=
 ⟨nw S H,τ,hs.go e,h.mono fun x hx H2 e2=>k x H2 (e.trans e2) e2 hx⟩
theorem HRep.later {v:V}{d:D}{H2:Hp}(h:HRep K (L2.nw S H) H1 v d)(e:dO H1 H2):HRep K (L2.nw S H) H2 v d:=h.mono (fun _ z=>z) e
theorem HReps.later {v:List V}{d:List D}{H2:Hp}(h:HReps K (L2.nw S H) H1 v d)(e:dO H1 H2):HReps K (L2.nw S H) H2 v d:=h.mono (fun _ z=>z) e
theorem s_v (g:GOk Z CX cl xp X ex G){i:Nat}{x:Str}{pos:Pos}(h:gb G i x=Δ):PE X (.Name x pos) (RD X.K ex [i] (evR cl (.v i))):=by
 unfold gb at h;rw[d_]at h;have hx:G.N[i]? = Γ x:=g_ h.1;have hk:=g.kd i x hx;have hv:Vis X.env.scope x:=by
  have h2:=h.2;rw[EJ,EJ]at h2;rcases h2 with(h2|h2)|h2
  ·exact .inl (hk.trans (g_ h2))
  ·exact .inr (.inl (hk.trans (g_ h2)))
  ·exact .inr (.inr (hk.trans (g_ h2)))
 refine fm (sZ (i:=i) (by rw[g.N];exact hx) hv (g.noD i x hx).1 (g.noD i x hx).2) fun σ H Q q=>?_;obtain⟨S,τ,hs,q⟩:=q;rw[Co]at q;cases z:cq τ i with
 |none=>rw[z]at q;exact q.no.elim
 |some d=>rw[z]at q;obtain⟨v,h1,h2⟩:=hs i (by simp) d z;exact⟨v,h1,q.ok _ _ (.refl _) h2.nw⟩
theorem s_c {d:D}{k:Const}{j:Nat}{pos:Pos}(h:Cs d k=Δ):PE X (.Constant k j pos) (RD X.K ex [] (evR cl (.c d))):=by
 induction d using zD with
 |non=>
  cases k with
  |none=>exact fm zR fun σ H Q q=>uw (fun _ _=>.non) q
  |_=>cases h
 |bl b=>
  cases k with
  |bool b'=>have e:b=b':=g_ h;subst e;exact fm B1 fun σ H Q q=>uw (fun _ _=>.bl _) q
  |_=>cases h
 |int b=>
  cases k with
  |int b'=>have e:b=b':=g_ h;subst e;exact fm zQ fun σ H Q q=>uw (fun _ _=>.int _) q
  |_=>cases h
 |str b=>
  cases k with
  |str b'=>have e:b=b':=g_ h;subst e;exact fm zU fun σ H Q q=>uw (fun _ _=>.str _) q
  |_=>cases h
 |tup _=>cases k<;>cases h
 |lst _ _=>cases k<;>cases h
 |exc _=>cases k<;>cases h
 |dct o ks ds=>cases k<;>cases h
theorem s_g (g:GOk Z CX cl xp X ex G){n:Nat}{d:D}{x:Str}{pos:Pos}(h:jo Z G n x=Δ)(hk:Z.kst.any (fun p=>p.1 == n&&sP p.2 d)=Δ):PE X (.Name x pos) (RD X.K ex [] (evR cl (.g n d))):=by obtain⟨h1,h2,h3,h4⟩:=qU g h;rw[List.any_eq_true]at hk;obtain⟨⟨m,d'⟩,hm,hk⟩:=hk;rw[d_]at hk;have e1:m=n:=g_ hk.1;have e2:d'=d:=qS hk.2;subst e1 e2;obtain⟨u,v,hu,r,hr⟩:=g.cst m d' x hm h2;exact fm (wo h1 hu r h4) fun σ H Q q=>uw hr q
theorem Cu {op:BOp}{a b:Expr}{pos:Pos}{va vb:List Nat}{fa fb:Ev->Res D}(ha:PE X a (RD X.K ex va fa))(hb:PE X b (RD X.K ex vb fb)) :
  PE X (.BinOp a (bop op) b pos) (RD X.K ex (va++vb) fun τ=>bnd (fa τ) fun x=>bnd (fb τ) fun y=>opB op x y):=by
 refine fm (qz (Ay (ex:=ex) op) ha hb) fun σ H Q ⟨S,τ,hs,q⟩=>?_;refine fI (.refl _) hs.left (PO'.bnd q) fun x v H1 e1 _ m1 q1=>?_;refine fI e1 hs.right (PO'.bnd q1) fun y w H2 e2 e2' m2 q2=>?_;exact⟨nw S H,x,y,m1.later e2',m2,q2.mono fun d hd=>hd.fit e2⟩
theorem Cv {a:Expr}{pos:Pos}{va:List Nat}{fa:Ev->Res D}(ha:PE X a (RD X.K ex va fa)) :
  PE X (.UnaryOp .USub a pos) (RD X.K ex va fun τ=>bnd (fa τ) fun|.int i=>.ok (.int (-i))|_=>stk):=by
 refine fm (B9 Aj ha) fun σ H Q ⟨S,τ,hs,q⟩=>?_;refine fI (.refl _) hs (PO'.bnd q) fun x v H1 e1 _ m1 q1=>?_
 induction x using zD with
 |int i=>cases m1.intR;exact⟨i,rfl,q1.ok _ _ e1 (.int _)⟩
 |_=>exact q1.no.elim
theorem Cw (g:GOk Z CX cl xp X ex G){op:COp}{a b:Expr}{pos:Pos}{va vb:List Nat}{fa fb:Ev->Res D}(ha:PE X a (RD X.K ex va fa))(hb:PE X b (RD X.K ex vb fb))(hm:behindInMarks (cop op) b=Θ) :
  PE X (.Compare a [cop op] [b] pos) (RD X.K ex (va++vb) fun τ=>bnd (fa τ) fun x=>bnd (fb τ) fun y=>bnd (opC op x y) fun r=>.ok (.bl r))/\
  PT X (.Compare a [cop op] [b] pos) (RT X.K ex (va++vb) fun τ=>bnd (bnd (fa τ) fun x=>bnd (fb τ) fun y=>bnd (opC op x y) fun r=>.ok (.bl r)) fQ):=by
 refine⟨fm (wz (jU (ex:=ex) g.un op) ha hb hm) fun σ H Q ⟨S,τ,hs,q⟩=>?_,jj (wA (jU (ex:=ex) g.un op) ha hb hm) fun σ H Q ⟨S,τ,hs,q⟩=>?_⟩
 ·refine fI (.refl _) hs.left (PO'.bnd q) fun x v H1 e1 _ m1 q1=>?_;refine fI e1 hs.right (PO'.bnd q1) fun y w H2 e2 e2' m2 q2=>?_;exact⟨nw S H,x,y,m1.later e2',m2,(PO'.bnd q2).mono fun d hd=>hd.ok _ _ e2 (.bl _)⟩
 ·refine fI (.refl _) hs.left (PO'.bnd (PO'.bnd q)) fun x v H1 e1 _ m1 q1=>?_;refine fI e1 hs.right (PO'.bnd q1) fun y w H2 e2 e2' m2 q2=>?_;exact⟨nw S H,x,y,m1.later e2',m2,(PO'.bnd q2).mono fun d hd=>⟨d,rfl,hd.ok.ok H2 e2⟩⟩
theorem xn (g:GOk Z CX cl xp X ex G){op op':COp}{a b c:Expr}{pos:Pos}{va vb vc:List Nat}{fa fb fc:Ev->Res D}(ha:PE X a (RD X.K ex va fa))(hb:PE X b (RD X.K ex vb fb))(hc:PE X c (RD X.K ex vc fc))
  (hm:lastMarks [cop op,cop op'] [b,c]=Θ) :
  PE X (.Compare a [cop op,cop op'] [b,c] pos) (RD X.K ex (va++vb++vc) fun τ=>bnd (fa τ) fun x=>bnd (fb τ) fun y=>bnd (opC op x y) fun r=>if r=Δ then bnd (fc τ) fun z=>bnd (opC op' y z) fun r'=>.ok (.bl r') else .ok (.bl Θ))/\
  PT X (.Compare a [cop op,cop op'] [b,c] pos) (RT X.K ex (va++vb++vc) fun τ=>bnd (bnd (fa τ) fun x=>bnd (fb τ) fun y=>bnd (opC op x y) fun r=>if r=Δ then bnd (fc τ) fun z=>bnd (opC op' y z) fun r'=>.ok (.bl r') else .ok (.bl Θ)) fQ):=by
 refine⟨fm (tH (jU (ex:=ex) g.un op) (jU (ex:=ex) g.un op') ha hb hc hm) fun σ H Q ⟨S,τ,hs,q⟩=>?_,jj (tJ (jU (ex:=ex) g.un op) (jU (ex:=ex) g.un op') ha hb hc hm) fun σ H Q ⟨S,τ,hs,q⟩=>?_⟩
 ·refine fI (.refl _) hs.left.left (PO'.bnd q) fun x v H1 e1 _ m1 q1=>?_;refine fI e1 hs.left.right (PO'.bnd q1) fun y w H2 e2 e2' m2 q2=>?_;refine⟨nw S H,x,y,m1.later e2',m2,(PO'.bnd q2).mono fun d hd=>⟨d,rfl,?_⟩⟩
  induction d using zB with
  |false=>rw[b_ EC]at hd ⊢;exact hd.ok _ _ e2 (.bl _)
  |true=>rw[c_ rfl]at hd ⊢;refine fI e2 hs.right (PO'.bnd hd) fun z w' H3 e3 e3' m3 q3=>?_;exact⟨nw S H,y,z,m2.later e3',m3,(PO'.bnd q3).mono fun d hd=>hd.ok _ _ e3 (.bl _)⟩
 ·refine fI (.refl _) hs.left.left (PO'.bnd (PO'.bnd q)) fun x v H1 e1 _ m1 q1=>?_;refine fI e1 hs.left.right (PO'.bnd q1) fun y w H2 e2 e2' m2 q2=>?_;refine⟨nw S H,x,y,m1.later e2',m2,(PO'.bnd q2).mono fun d hd=>⟨d,rfl,?_⟩⟩
  induction d using zB with
  |false=>rw[b_ EC]at hd ⊢;exact⟨Θ,rfl,hd.ok.ok _ e2⟩
  |true=>rw[c_ rfl]at hd ⊢;refine fI e2 hs.right (PO'.bnd hd) fun z w' H3 e3 e3' m3 q3=>?_;exact⟨nw S H,y,z,m2.later e3',m3,(PO'.bnd q3).mono fun d hd=>⟨d,rfl,hd.ok.ok _ e3⟩⟩
theorem yM {a b:Expr}{rest:List Expr}{pos:Pos}{va vb:List Nat}{fa fb:Ev->Res D}(ha:PE X a (RD X.K ex va fa))(hb:PE X (.BoolOp .And (b::rest) pos) (RD X.K ex vb fb)) :
  PE X (.BoolOp .And (a::b::rest) pos) (RD X.K ex (va++vb) fun τ=>bnd (fa τ) fun x=>bnd (fQ x) fun r=>if r=Δ then fb τ else .ok x):=by
 intro pins s σ H Q I h;obtain⟨S,τ,hs,q⟩:=h;refine BoolOp_and (thn (ha pins s σ H (fun v H'=>∃d,dO H H'/\HRep X.K (nw S H) H' v d/\_) I (fI (.refl _) hs.left (PO'.bnd q) fun x v H1 e1 _ m1 q1=>⟨x,e1,m1,q1⟩)) fun v s1 ⟨x,H1,I1,r1,d,e1,m1,q1⟩=>?_);refine thn (ki (Q:=fun b H'=>H'=H1/\PO' ex (if b=Δ then fb τ else .ok d) (Kk X.K S H Q)) I1 r1 m1 ((PO'.bnd q1).mono fun b z=>⟨rfl,z⟩)) fun c s2 ⟨H2,I2,e2,q2⟩=>?_;subst e2
 induction c using zB with
 |true=>rw[c_ rfl]at q2 ⊢;exact hb pins s2 σ _ Q I2 (fI e1 hs.right q2 fun y w H3 e3 _ m3 q3=>q3 _ _ e3 m3)
 |false=>rw[b_ EC]at q2 ⊢;exact⟨x,_,I2,r1,q2.ok _ _ e1 m1⟩
theorem Cy {a b:Expr}{rest:List Expr}{pos:Pos}{va vb:List Nat}{fa fb:Ev->Res D}(ha:PE X a (RD X.K ex va fa))(hb:PE X (.BoolOp .Or (b::rest) pos) (RD X.K ex vb fb)) :
  PE X (.BoolOp .Or (a::b::rest) pos) (RD X.K ex (va++vb) fun τ=>bnd (fa τ) fun x=>bnd (fQ x) fun r=>if r=Δ then .ok x else fb τ):=by
 intro pins s σ H Q I h;obtain⟨S,τ,hs,q⟩:=h;refine BoolOp_or (thn (ha pins s σ H (fun v H'=>∃d,dO H H'/\HRep X.K (nw S H) H' v d/\_) I (fI (.refl _) hs.left (PO'.bnd q) fun x v H1 e1 _ m1 q1=>⟨x,e1,m1,q1⟩)) fun v s1 ⟨x,H1,I1,r1,d,e1,m1,q1⟩=>?_);refine thn (ki (Q:=fun b H'=>H'=H1/\PO' ex (if b=Δ then .ok d else fb τ) (Kk X.K S H Q)) I1 r1 m1 ((PO'.bnd q1).mono fun b z=>⟨rfl,z⟩)) fun c s2 ⟨H2,I2,e2,q2⟩=>?_;subst e2
 induction c using zB with
 |false=>rw[b_ EC]at q2 ⊢;exact hb pins s2 σ _ Q I2 (fI e1 hs.right q2 fun y w H3 e3 _ m3 q3=>q3 _ _ e3 m3)
 |true=>rw[c_ rfl]at q2 ⊢;exact⟨x,_,I2,r1,q2.ok _ _ e1 m1⟩
theorem Cz {a:Expr}{pos:Pos}{va:List Nat}{fa:Ev->Res D}(ha:PE X a (RD X.K ex va fa))(ht:PT X a (RT X.K ex va fun τ=>bnd (fa τ) fQ)) :
  PE X (.UnaryOp .Not a pos) (RD X.K ex va fun τ=>bnd (fa τ) fun x=>bnd (fQ x) fun r=>.ok (.bl !r))/\PT X (.UnaryOp .Not a pos) (RT X.K ex va fun τ=>bnd (bnd (fa τ) fun x=>bnd (fQ x) fun r=>.ok (.bl !r)) fQ):=by
 constructor
 ·intro pins s σ H Q I h;obtain⟨S,τ,hs,q⟩:=h;refine UnaryOp_ (thn (ha pins s σ H (fun v H'=>∃d,dO H H'/\HRep X.K (nw S H) H' v d/\_) I (fI (.refl _) hs (PO'.bnd q) fun x v H1 e1 _ m1 q1=>⟨x,e1,m1,q1⟩)) fun v s1 ⟨x,H1,I1,r1,d,e1,m1,q1⟩=>?_);refine not_of (thn (ki (Q:=fun b H'=>Q (.bl !b) H') I1 r1 m1 ((PO'.bnd q1).mono fun b z=>z.ok _ _ e1 (.bl _))) fun c s2 ⟨H2,I2,q2⟩=>⟨.bl !c,H2,I2,rfl,q2⟩)
 ·refine jj (zX ht) fun σ H Q ⟨S,τ,hs,q⟩=>?_;exact lJ (.refl _) hs (PO'.mk ((PO'.bnd (PO'.bnd q)).mono fun x hx=>(PO'.bnd hx).mono fun r hr=>hr.ok.ok)) fun x H2 e2 _ k=>k H2 e2
theorem ux {e:Expr}{pos:Pos}{op:BoolOp}{es:List Expr}{t:TT}(h:PT X (.BoolOp op es pos) t):PW X (.BoolOp op es pos) t:=fun _ pins s σ H Q I q=>h pins s σ H Q I q
theorem yN {a b:Expr}{rest:List Expr}{pos:Pos}{va vb:List Nat}{fa fb:Ev->Res D}(ha:PT X a (RT X.K ex va fun τ=>bnd (fa τ) fQ))(hb:PW X (.BoolOp .And (b::rest) pos) (RT X.K ex vb fun τ=>bnd (fb τ) fQ)) :
  PT X (.BoolOp .And (a::b::rest) pos) (RT X.K ex (va++vb) fun τ=>bnd (bnd (fa τ) fun x=>bnd (fQ x) fun r=>if r=Δ then fb τ else .ok x) fQ):=by
 refine jj (zW ha hb).pt fun σ H Q ⟨S,τ,hs,q⟩=>?_;refine lJ (.refl _) hs.left (Kt:=fun r=>PO' ex (if r=Δ then bnd (fb τ) fQ else .ok Θ) fun b=>∀H',dO H H'->Q b H') (PO'.mk ((PO'.bnd (PO'.bnd q)).mono fun x hx=>(PO'.bnd hx).eq.mono fun r hr=>?_)) fun r H2 e2 _ k=>?_
 ·obtain⟨er,hr⟩:=hr
  induction r using zB with
  |true=>rw[c_ rfl]at hr ⊢;exact PO'.mk hr
  |false=>rw[b_ EC]at hr ⊢;have hr':PO' ex (fQ x) _:=hr;rw[er]at hr';exact hr'
 ·induction r using zB with
  |true=>rw[c_ rfl]at k ⊢;exact lJ e2 hs.right k fun b H3 e3 _ z=>z H3 e3
  |false=>rw[b_ EC]at k ⊢;exact k.ok H2 e2
theorem CA {a b:Expr}{rest:List Expr}{pos:Pos}{va vb:List Nat}{fa fb:Ev->Res D}(ha:PT X a (RT X.K ex va fun τ=>bnd (fa τ) fQ))(hb:PW X (.BoolOp .Or (b::rest) pos) (RT X.K ex vb fun τ=>bnd (fb τ) fQ)) :
  PT X (.BoolOp .Or (a::b::rest) pos) (RT X.K ex (va++vb) fun τ=>bnd (bnd (fa τ) fun x=>bnd (fQ x) fun r=>if r=Δ then .ok x else fb τ) fQ):=by
 refine jj (B3 ha hb).pt fun σ H Q ⟨S,τ,hs,q⟩=>?_;refine lJ (.refl _) hs.left (Kt:=fun r=>PO' ex (if r=Δ then .ok Δ else bnd (fb τ) fQ) fun b=>∀H',dO H H'->Q b H') (PO'.mk ((PO'.bnd (PO'.bnd q)).mono fun x hx=>(PO'.bnd hx).eq.mono fun r hr=>?_)) fun r H2 e2 _ k=>?_
 ·obtain⟨er,hr⟩:=hr
  induction r using zB with
  |false=>rw[b_ EC]at hr ⊢;exact PO'.mk hr
  |true=>rw[c_ rfl]at hr ⊢;have hr':PO' ex (fQ x) _:=hr;rw[er]at hr';exact hr'
 ·induction r using zB with
  |false=>rw[b_ EC]at k ⊢;exact lJ e2 hs.right k fun b H3 e3 _ z=>z H3 e3
  |true=>rw[c_ rfl]at k ⊢;exact k.ok H2 e2
theorem CB {es:List Expr}{n:Nat}{pos:Pos}{va:List Nat}{fa:Ev->Res (List D)}(h:PA X es (RA X.K ex va fa)):PE X (.Tuple es n pos) (RD X.K ex va fun τ=>bnd (fa τ) fun ds=>grd (f7 ds.length) (.ok (.tup ds))):=by refine fm (mR h) fun σ H Q ⟨S,τ,hs,q⟩=>?_;refine nD (.refl _) hs (PO'.bnd q) fun ds vs H1 e1 _ m1 q1=>?_;obtain⟨g,q1⟩:=PO'.grd q1;exact⟨by rw[m1.length];exact fR g,fun p hp=>q1.ok _ _ (e1.trans (.upd hp)) ((Ax hp m1).mono (ka e1) (.refl _))⟩
theorem CD {es:List Expr}{pos:Pos}{va:List Nat}{fa:Ev->Res (List D)}(h:PA X es (RA X.K ex va fa)):PE X (.List es pos) (RD X.K ex va fun τ=>bnd (fa τ) fun ds=>grd (f7 ds.length) (.ok (.lst Δ ds))):=by refine fm (mS h) fun σ H Q ⟨S,τ,hs,q⟩=>?_;refine nD (.refl _) hs (PO'.bnd q) fun ds vs H1 e1 _ m1 q1=>?_;obtain⟨g,q1⟩:=PO'.grd q1;exact⟨by rw[m1.length];exact fR g,fun p hp=>q1.ok _ _ (e1.trans (.upd hp)) ((pW hp m1).mono (ka e1) (.refl _))⟩
theorem CF {a b:Expr}{pos:Pos}{va vb:List Nat}{fa fb:Ev->Res D}(ha:PE X a (RD X.K ex va fa))(hb:PE X b (RD X.K ex vb fb))(hp:fe b=Δ) :
  PE X (.Subscript a b pos) (RD X.K ex (va++vb) fun τ=>bnd (fa τ) fun x=>bnd (fb τ) fun y=>gx x y):=by
 refine fm (qB (w8 (ex:=ex)) ha hb fun o i=>by cases b<;>first|rfl|cases hp) fun σ H Q ⟨S,τ,hs,q⟩=>?_;refine fI (.refl _) hs.left (PO'.bnd q) fun x v H1 e1 _ m1 q1=>?_;refine fI e1 hs.right (PO'.bnd q1) fun y w H2 e2 e2' m2 q2=>?_;exact⟨nw S H,x,y,m1.later e2',m2,q2.mono fun d hd=>hd.fit e2⟩
theorem Et {a:Expr}{lo hi:Option Expr}{pos p2:Pos}{va vl vh:List Nat}{fa:Ev->Res D}{fl fh:Ev->Res (Option Int)}(ha:PE X a (RD X.K ex va fa))(hl:PO X lo (ROp X.K ex vl fl))(hh:PO X hi (ROp X.K ex vh fh)) :
  PE X (.Subscript a (.Slice lo hi Ξ p2) pos) (RD X.K ex (va++vl++vh) fun τ=>bnd (fa τ) fun x=>bnd (fl τ) fun l=>bnd (fh τ) fun h=>oI x l h):=by
 refine fm (oC (w9 (ex:=ex)) ha hl hh) fun σ H Q ⟨S,τ,hs,q⟩=>?_;refine fI (.refl _) hs.left.left (PO'.bnd q) fun x v H1 e1 _ m1 q1=>?_;refine xl e1 hs.left.right (PO'.bnd q1) fun l H2 e2 e2' q2=>?_;refine xl e2 hs.right (PO'.bnd q2) fun h H3 e3 e3' q3=>?_;exact⟨nw S H,x,m1.later (e2'.trans e3'),q3.mono fun d hd=>hd.fit e3⟩
theorem s_call (g:GOk Z CX cl xp X ex G){f:Nat}{x:Str}{p pos:Pos}{es:List IR}{args:List Expr}(h1:jo Z G f x=Δ)(h2:Z.fnc G f=Δ)(hst:ft Z G es args=Δ)(h:PA X args (RA X.K ex (cw es) (fy cl es))) :
  PE X (.Call (.Name x p) args [] pos) (RD X.K ex (cw es) fun τ=>bnd (fy cl es τ) fun ds=>cl f (ers ds)):=by
 obtain⟨k1,k2,k3,k4⟩:=qU g h1;obtain⟨k,fa',fd,ps,hm,hkp,hb,F,hr,hlen⟩:=(g.fns f (nB h2).1 (nB h2).2 x k2).ex;obtain⟨E,hP,hE⟩:=g.exs;intro pins s σ H Q I q;obtain⟨S,τ,hs,q⟩:=q;have fin:∀(us:List Φ) (s1:Ω) (vs:List V) (H1:Hp) (ds:List D),Inv X pins σ H1 s1->Vals vs us->dO H H1->HReps X.K (nw S H) H1 vs ds->PO' ex (cl f (ers ds)) (Kk X.K S H Q)->Ι (Κ X.prog X.w) X.A (call (.ref fa') us) (EP X pins σ Q) X.xe s1:=by
  intro us s1 vs H1 ds I1 r e m q1;have hl:=hlen ex _ _ q1;rw[gk]at hl;refine qT F hr hb hP g.hid I1 r (by rw[m.length];exact hl) (Fc:=fun a=>nw S H a/\H1 a≠Ξ) (fun a z=>z.2) m.tight ?_;cases z:cl f (ers ds) with
  |error er=>
   rw[z]at q1;cases er with
   |stuck=>exact q1.no.elim
   |exc c=>exact hE c _ q1
  |ok d=>
   rw[z]at q1;intro v H' F' fv o;refine q1.ok _ _ (e.trans o.same) (o.rep.read (fun a ha=>?_) fun a ha=>?_)
   ·rcases o.out a ha with z|z
    ·exact z.1
    ·exact .inr (e.free z)
   ·exact .inr (e.free (o.new a ha))
 refine E1 (kh I k1 hm ?_ k4)
 induction args using zL with
 |nil=>
  induction es using zL with
  |cons _ _=>cases hst
  |nil=>exact PySem.W.callWith_K0 I.kIn hkp (fin [] s [] H [] I .nil (.refl _) .nil q)
 |cons e l=>
  induction es using zL with
  |nil=>cases hst
  |cons a es=>have hst':(notStar e&&chk Z G a e&&ft Z G es l)=Δ:=hst;simp only[d_]at hst';refine PySem.W.callWith_K (h₀:=X.base) I.ok.mod.kin hkp (thn (h pos pins s σ H (fun vs H1=>∃ds,dO H H1/\HReps X.K (nw S H) H1 vs ds/\PO' ex (cl f (ers ds)) (Kk X.K S H Q)) I ⟨S,τ,hs,(PO'.bnd q).mono fun ds hd vs H1 e m=>⟨ds,e,m,hd⟩⟩) fun us s1 ⟨vs,H1,I1,r,ds,e,m,q1⟩=>⟨I1.kIn,?_⟩) (dN hst'.1.1 l X.env) (gH Z G (es:=es) pos X.env hst'.2);exact fin us s1 vs H1 ds I1 r e m q1
theorem Eu (g:GOk Z CX cl xp X ex G){f:Bi}{p pos:Pos}{es:List IR}{a:Expr}{args:List Expr}(hg:G.glc (mz f)=Δ)(hst:ft Z G es (a::args)=Δ)(h:PA X (a::args) (RA X.K ex (cw es) (fy cl es))) :
  PE X (.Call (.Name (iH f) p) (a::args) [] pos) (RD X.K ex (cw es) fun τ=>bnd (fy cl es τ) fun ds=>ip f ds):=by
 obtain⟨k1,k2,k3,k4⟩:=jc g (uo f) (ny hg)
 induction es using zL with
 |nil=>cases hst
 |cons b es=>
  have hst':(notStar a&&chk Z G b a&&ft Z G es args)=Δ:=hst;simp only[d_]at hst';have mono:∀σ H Q,RD X.K ex (cw (b::es)) (fun τ=>bnd (fy cl (b::es) τ) fun ds=>ip f ds) σ H Q->tCB (rBi X.K ex f) (RA X.K ex (cw (b::es)) (fy cl (b::es))) σ H Q:=by rintro σ H Q ⟨S,τ,hs,q⟩;refine nD (.refl _) hs (PO'.bnd q) fun ds vs H1 e1 _ m1 q1=>?_;exact⟨nw S H,ds,m1,q1.mono fun d hd=>hd.fit e1⟩
  refine fm ?_ mono;have hv:=qQ f;have hc:=xc (X:=X) (ex:=ex) (g.calm (nA hg)) f;unfold uh at hv hc;cases z:Cq f with
  |true=>rw[z,c_ rfl]at hv hc;exact jR hc k1 k2 hv h k3 k4 (dN hst'.1.1 args X.env) (gH Z G (es:=es) pos X.env hst'.2)
  |false=>rw[z,b_ EC]at hv hc;exact oB hc k1 k2 hv h k3 k4 (dN hst'.1.1 args X.env) (gH Z G (es:=es) pos X.env hst'.2)
noncomputable def kdV:Kd->V
 |.str=>.ty "str" |.int=>.ty "int" |.bool=>.ty "bool" |.list=>.ty "list" |.tuple=>.ty "tuple"
theorem qV (k:Kd):RelV (kdV k) (ui k):=by cases k<;>rfl
theorem uy (k:Kd):gK X (.builtin "isinstance") (fun xs H Q=>∃S x d,xs=[x,kdV k]/\HRep X.K S H x d/\oJ d=Δ/\Q (.bl (ni k d)) H):=by
 intro pins s σ H xs us Q I r h;obtain⟨S,x,d,rfl,m,hn,q⟩:=h;obtain⟨u,w',rfl,r1,r2⟩:=vals2 r;have e:w'=ui k:=by have:=r2.abs;have h2:=(qV k).abs;cases k<;>(revert r2;intro r2;exact r2)
 subst e;exact xi I r1 m k hn q
theorem CG (g:GOk Z CX cl xp X ex G){k:Kd}{e:Expr}{p p' pos:Pos}{va:List Nat}{fa:Ev->Res D}(hg:G.gl.contains 14=Δ)(hk:G.gl.contains (qR k)=Δ)(hn:notStar e=Δ)(ha:PE X e (RD X.K ex va fa)) :
  PE X (.Call (.Name "isinstance" p) [e,.Name (jn k) p'] [] pos) (RD X.K ex va fun τ=>bnd (fa τ) fun x=>grd (oJ x) (.ok (.bl (ni k x)))):=by
 obtain⟨k1,k2,k3,k4⟩:=jc g (show gq[14]? = Γ ("isinstance" : Str) from rfl) hg;obtain⟨j1,j2,j3,j4⟩:=jc g (AD k) hk;have pa:PA X [e,.Name (jn k) p'] (lP (RD X.K ex va fa) (lP (tC (kdV k)) Am)):=fX ha (fX (wq j1 j2 (xg k) (qV k) j3 j4) gW rfl) (dN hn _ _);refine fm (oB (uy k) k1 k2 PyProof.Rows.boot_isinstance pa k3 k4 (dN hn _ _) rfl) fun σ H Q ⟨S,τ,hs,q⟩=>?_;refine fI (.refl _) hs (PO'.bnd q) fun x v H1 e1 _ m1 q1=>?_;obtain⟨gd,q1⟩:=PO'.grd q1;exact⟨nw S H,v,x,rfl,m1,gd,q1.ok _ _ e1 (.bl _)⟩
theorem p9 {d:D}(h:jk d=Δ):∃x,d=.str x:=by
 induction d using zD<;>first|exact⟨_,rfl⟩|cases h
theorem CH (g:GOk Z CX cl xp X ex G){m:Mt}{o:Expr}{apos cpos:Pos}{vo:List Nat}{fo:Ev->Res D}{es:List IR}{a:Expr}{args:List Expr}(hn:kR o=Δ)(hl:(apos.endLine == cpos.line)=Δ)(hlen:(a::args).length < 29)(hcm:(G.cm||p6 m)=Δ)
  (hst:ft Z G es (a::args)=Δ) (ho:PE X o (RD X.K ex vo fo)) (h:PA X (a::args) (RA X.K ex (cw es) (fy cl es))) :
  PE X (.Call (.Attribute o (kO m) apos) (a::args) [] cpos) (RD X.K ex (vo++cw es) fun τ=>bnd (fo τ) fun x=>grd (jk x) (bnd (fy cl es τ) fun ds=>kK m x ds)):=by
 induction es using zL with
 |nil=>cases hst
 |cons b es=>
  have hst':(notStar a&&chk Z G b a&&ft Z G es args)=Δ:=hst;simp only[d_]at hst';have star:=gH Z G (es:=es) cpos X.env hst'.2;have mono:∀σ H Q,RD X.K ex (vo++cw (b::es)) (fun τ=>bnd (fo τ) fun x=>grd (jk x) (bnd (fy cl (b::es) τ) fun ds=>kK m x ds)) σ H Q->tBM X.K "str" (rMt X.K ex m) (RD X.K ex vo fo) (RA X.K ex (cw (b::es)) (fy cl (b::es))) σ H Q:=by rintro σ H Q ⟨S,τ,hs,q⟩;refine fI (.refl _) hs.left (PO'.bnd q) fun x v H1 e1 _ m1 q1=>?_;obtain⟨gd,q1⟩:=PO'.grd q1;obtain⟨z,rfl⟩:=p9 gd;cases m1.strR;refine⟨rfl,nD e1 hs.right (PO'.bnd q1) fun ds vs H2 e2 e2' m2 q2=>?_⟩;exact⟨nw S H,.str z,ds,.str z,m2,q2.mono fun d hd=>hd.fit e2⟩
  have hbase:attributeBase o (kO m) X.env (eval o X.env)=eval o X.env:=by
   induction o using zE with
   |Call f args kws pos=>
    induction args using zL with
    |nil=>
     induction kws using zL with
     |nil=>cases hn
     |cons _ _=>cases f<;>rfl
    |cons _ _=>cases f<;>rfl
   |_=>rfl
  have all0:(backTo cpos (Μ (a::args) X.env)).all (fun x=>!x.1)=Δ:=by rw[dN hst'.1.1];show(Δ&&(backTo cpos (Μ args X.env)).all (fun x=>!x.1))=Δ;rw[Bool.true_and,ED];intro y hy;have:=List.any_eq_false.mp star y hy;simpa using this
  have hfew:((backTo cpos (Μ (a::args) X.env)).all (fun x=>!x.1)&&(backToKw cpos (keywordEach [] X.env)).all (fun x=>x.1.isSome)&&decide ((a::args).length+([]:List Keyword).length+(if([]:List Keyword).isEmpty then 0 else 1) < 30))=Δ:=by rw[all0];have:decide ((a::args).length+([]:List Keyword).length+(if([]:List Keyword).isEmpty then 0 else 1) < 30)=Δ:=s_ (by simp at hlen ⊢;omega);rw[this];rfl
  refine fm ?_ mono;cases m with
  |join=>exact qD PySem.F.plainAttrs_str PySem.F.slot_str_join PySem.F.type_str_join (nq (ex:=ex) .join fun z=>by cases z) ho h hbase hfew hl (dN hst'.1.1 args X.env) star
  |index=>exact qD PySem.F.plainAttrs_str PySem.F.slot_str_index PySem.F.type_str_index (nq (ex:=ex) .index fun _=>g.calm (by rw[EJ]at hcm;exact hcm.elim id fun z=>by cases z)) ho h hbase hfew hl (dN hst'.1.1 args X.env) star
  |starts=>exact qD PySem.F.plainAttrs_str PySem.F.slot_str_startswith PySem.F.type_str_startswith (nq (ex:=ex) .starts fun z=>by cases z) ho h hbase hfew hl (dN hst'.1.1 args X.env) star
end
section
variable {Z:Sg}{CX:CXT}{cl:Nat->List D->Res D}{xp:XK->Hp->Str->Prop}{X:Cx}{ex:Str->Prop}{G:Gm}
theorem iS {K:Frag}{S:Ψ->Prop}{H:Hp}{w:V}{y:D}{q:Key}(m:HRep K S H w y)(h:iq y=Γ q):w=kV q:=by
 induction y using zD with
 |int i=>cases h;cases m.intR;rfl
 |str x=>cases h;cases m.strR;rfl
 |_=>cases h
theorem kS {K:Frag}{S:Ψ->Prop}{H:Hp}(q:Key):∀(kvs:List (Key×V)) (ds:List D),HReps K S H (kvs.map (·.2)) ds->
  (∀d,look (kvs.map (·.1)) ds q=Γ d->∃v,jS kvs q=Γ v/\HRep K S H v d)/\(look (kvs.map (·.1)) ds q).isSome=(jS kvs q).isSome:=by
 intro kvs
 induction kvs with
 |nil=>intro ds _;exact⟨fun d h=>(by cases h),rfl⟩
 |cons p kvs ih=>
  intro ds m;rw[a_]at m
  induction ds using zL with
  |nil=>exact absurd m.length (by simp)
  |cons d ds=>
   cases m with
   |cons m1 m2=>
    obtain⟨i1,i2⟩:=ih ds m2;have e1:look ((p::kvs).map (·.1)) (d::ds) q=if p.1=q then Γ d else look (kvs.map (·.1)) ds q:=rfl
    rw[e1];unfold jS at i1 i2 ⊢;rw[List.find?_cons];by_cases h:p.1=q
    ·rw[c_ h,s_ h];exact⟨fun d' z=>⟨p.2,rfl,by cases z;exact m1⟩,rfl⟩
    ·rw[b_ h,p_ h];exact⟨i1,i2⟩
theorem HRep.dctR {K:Frag}{S:Ψ->Prop}{H:Hp}{v:V}{o:Bool}{ks:List Key}{ds:List D}(h:HRep K S H v (.dct o ks ds)):∃a kvs,v=.ref a/\Rd H a (.dK kvs)/\kvs.map (·.1)=ks/\HReps K S H (kvs.map (·.2)) ds:=by
 cases h with
 |dct h0 h1 h2 h3=>exact⟨_,_,rfl,h1,h2,h3⟩
theorem AJ {pos:Pos}:PE X (.Dict [] [] pos) (RD X.K ex [] (evR cl .dnew)):=by refine fm oH fun σ H Q ⟨S,τ,hs,q⟩=>fun p hp=>?_;exact q.ok _ _ (.upd hp) (.dct (kvs:=[]) (.inr hp) (.inl dP) rfl .nil)
theorem AK (g:GOk Z CX cl xp X ex G){a b:Expr}{pos:Pos}{va vb:List Nat}{fa fb:Ev->Res D}(ha:PE X a (RD X.K ex va fa))(hb:PE X b (RD X.K ex vb fb))(hp:fe b=Δ) :
  PE X (.Subscript a b pos) (RD X.K ex (va++vb) fun τ=>bnd (fa τ) fun x=>bnd (fb τ) fun y=>mf x y):=by
 have hu:=g.un;refine fm (wQ (by omega) ha hb fun o i=>by cases b<;>first|rfl|cases hp) fun σ H Q ⟨S,τ,hs,q⟩=>?_;refine fI (.refl _) hs.left (PO'.bnd q) fun x v H1 e1 _ m1 q1=>?_;refine fI e1 hs.right (PO'.bnd q1) fun y w H2 e2 e2' m2 q2=>?_
 induction x using zD with
 |dct o ks ds=>
  have q3:PO' ex (match iq y with|some q=>(match look ks ds q with|some d=>.ok d|none=>stk)|none=>stk) (Kk X.K S H Q):=q2;cases hk:iq y with
  |none=>rw[hk]at q3;exact q3.no.elim
  |some k=>
   simp only[hk]at q3;obtain⟨p,kvs,rfl,h1,rfl,h3⟩:=(m1.later e2').dctR;cases hl:look (kvs.map (·.1)) ds k with
   |none=>rw[hl]at q3;exact q3.no.elim
   |some d=>rw[hl]at q3;obtain⟨v,hv,mv⟩:=(kS k kvs ds h3).1 d hl;exact⟨p,v,rfl,.inl ⟨kvs,k,h1,iS m2 hk,hv.symm⟩,q3.ok _ _ e2 mv⟩
 |_=>exact q2.no.elim
theorem ib {is:List Nat}{f:Ev->Res D}{σ:St}{H:Hp}{Q Q':VK}(h:RD X.K ex is f σ H Q)(m:∀v H',Q v H'->Q' v H'):RD X.K ex is f σ H Q':=by obtain⟨S,τ,hs,q⟩:=h;exact⟨S,τ,hs,q.mono fun d hd w H' e r=>m w H' (hd w H' e r)⟩
theorem oW {n:Bool}{va vb:List Nat}{fa fb:Ev->Res D}{σ:St}{H:Hp}{Q:VK}(h:RD X.K ex (vb++va) (fun τ=>bnd (fb τ) fun y=>bnd (fa τ) fun x=>oM n x y) σ H Q) :
  RD X.K ex vb fb σ H fun y H1=>RD X.K ex va fa σ H1 fun x H2=>∃a o,x=.ref a/\ng H2 a y o/\Q (.bl (n != o.isSome)) H2:=by
 obtain⟨S,τ,hs,q⟩:=h;refine fI (.refl _) hs.left (PO'.bnd q) fun y w H1 e1 _ m1 q1=>?_;refine fI e1 hs.right (PO'.bnd q1) fun x v H2 e2 e2' m2 q2=>?_
 induction x using zD with
 |dct o ks ds=>
  have q3:PO' ex (match iq y with|some q=>.ok (.bl (n != (look ks ds q).isSome))|none=>stk) (Kk X.K S H Q):=q2;cases hk:iq y with
  |none=>rw[hk]at q3;exact q3.no.elim
  |some k=>simp only[hk]at q3;obtain⟨p,kvs,rfl,h1,rfl,h3⟩:=m2.dctR;rw[(kS k kvs ds h3).2]at q3;exact⟨p,_,rfl,.inl ⟨kvs,k,h1,iS (m1.later e2') hk,rfl⟩,q3.ok _ _ e2 (.bl _)⟩
 |_=>exact q2.no.elim
theorem mB {n:Bool}{va vb:List Nat}{fa fb:Ev->Res D}{σ:St}{H:Hp}{Q:Bool->Hp->Prop}(h:RT X.K ex (vb++va) (fun τ=>bnd (bnd (fb τ) fun y=>bnd (fa τ) fun x=>oM n x y) fQ) σ H Q) :
  RD X.K ex vb fb σ H fun y H1=>RD X.K ex va fa σ H1 fun x H2=>∃a o,x=.ref a/\ng H2 a y o/\∃c,V.bl (n != o.isSome)=.bl c/\Q c H2:=by
 obtain⟨S,τ,hs,q⟩:=h;refine fI (.refl _) hs.left (PO'.bnd (PO'.bnd q)) fun y w H1 e1 _ m1 q1=>?_;refine fI e1 hs.right (PO'.bnd q1) fun x v H2 e2 e2' m2 q2=>?_
 induction x using zD with
 |dct o ks ds=>
  cases hk:iq y with
  |none=>
   have q3:oM n (.dct o ks ds) y=stk:=by show((match iq y with|some q=>.ok (.bl (n != (look ks ds q).isSome))|none=>stk:Res D))=_;rw[hk]
   rw[q3]at q2;exact q2.no.elim
  |some k=>
   have q3:oM n (.dct o ks ds) y=.ok (.bl (n != (look ks ds k).isSome)):=by show((match iq y with|some q=>.ok (.bl (n != (look ks ds q).isSome))|none=>stk:Res D))=_;rw[hk]
   rw[q3]at q2;obtain⟨p,kvs,rfl,h1,rfl,h3⟩:=m2.dctR;rw[(kS k kvs ds h3).2]at q2;exact⟨p,_,rfl,.inl ⟨kvs,k,h1,iS (m1.later e2') hk,rfl⟩,_,rfl,(q2.ok).ok _ e2⟩
 |_=>exact q2.no.elim
theorem CI (g:GOk Z CX cl xp X ex G){n:Bool}{a b:Expr}{pos:Pos}{va vb:List Nat}{fa fb:Ev->Res D}(hb:PE X b (RD X.K ex vb fb))(ha:PE X a (RD X.K ex va fa))(hm:behindInMarks (sQ n) a=Θ) :
  PE X (.Compare b [sQ n] [a] pos) (RD X.K ex (vb++va) fun τ=>bnd (fb τ) fun y=>bnd (fa τ) fun x=>oM n x y)/\
  PT X (.Compare b [sQ n] [a] pos) (RT X.K ex (vb++va) fun τ=>bnd (bnd (fb τ) fun y=>bnd (fa τ) fun x=>oM n x y) fQ):=by
 have hu:=g.un
 induction n using zB with
 |false=>
  refine⟨fm (tf (tX (by omega) hb ha) hm) fun σ H Q h=>?_,jj (tm (tX (by omega) hb ha) hm) fun σ H Q h=>?_⟩
  ·refine ib (oW h) fun y H1 z=>ib z fun x H2 ⟨p,o,e,d,q⟩=>⟨p,o,e,d,?_⟩
   rw[show(Θ != o.isSome)=o.isSome by cases o.isSome<;>rfl]at q;exact q
  ·refine ib (mB h) fun y H1 z=>ib z fun x H2 ⟨p,o,e,d,q⟩=>⟨p,o,e,d,?_⟩
   rw[show(Θ != o.isSome)=o.isSome by cases o.isSome<;>rfl]at q;exact q
 |true=>
  refine⟨fm (tf (md (by omega) hb ha) hm) fun σ H Q h=>?_,jj (tm (md (by omega) hb ha) hm) fun σ H Q h=>?_⟩
  ·refine ib (oW h) fun y H1 z=>ib z fun x H2 ⟨p,o,e,d,q⟩=>⟨p,o,e,d,?_⟩
   rw[show(Δ != o.isSome) = !o.isSome by cases o.isSome<;>rfl]at q;exact q
  ·refine ib (mB h) fun y H1 z=>ib z fun x H2 ⟨p,o,e,d,q⟩=>⟨p,o,e,d,?_⟩
   rw[show(Δ != o.isSome) = !o.isSome by cases o.isSome<;>rfl]at q;exact q
end
section
variable {Z:Sg}{CX:CXT}{cl:Nat->List D->Res D}{xp:XK->Hp->Str->Prop}{X:Cx}{ex:Str->Prop}{G:Gm}
theorem AL (g:GOk Z CX cl xp X ex G){e:Expr}{p p' pos pos':Pos}{va:List Nat}{fa:Ev->Res D}(h1:G.gl.contains 0=Δ)(h2:G.gl.contains 12=Δ)(hn:notStar e=Δ)(hcm:G.cm=Δ)(ha:PE X e (RD X.K ex va fa)) :
  PE X (.Call (.Name "len" p) [.Call (.Name "set" p') [e] [] pos'] [] pos) (RD X.K ex va fun τ=>bnd (fa τ) qJ):=by
 obtain⟨k1,k2,k3,k4⟩:=jc g (show gq[0]? = Γ ("len" : Str) from rfl) h1;obtain⟨j1,j2,j3,j4⟩:=jc g (show gq[12]? = Γ ("set" : Str) from rfl) h2;refine fm (wU (g.calm hcm) k1 k2 j1 j2 ha fun es=>dN hn es X.env) fun σ H Q ⟨S,τ,hs,q⟩=>?_;refine fI (.refl _) hs (PO'.bnd q) fun x v H1 e1 _ m1 q1=>?_
 induction x using zD with
 |lst o ds=>
  obtain⟨a,ys,rfl,qq,m⟩:=m1.lstR;have q2:PO' ex (match gI ds with|some ns=>grd (decide (ns.length < 1000)) (.ok (.int ((ns.foldl Sx.dd []).length:Nat)))|none=>stk) (Kk X.K S H Q):=q1;cases z:gI ds with
  |none=>rw[z]at q2;exact q2.no.elim
  |some ns=>rw[z]at q2;obtain⟨gd,q3⟩:=PO'.grd q2;rw[jm z]at m;rw[m.strs]at qq;exact⟨a,ns,rfl,qq,r_ gd,q3.ok _ _ e1 (.int _)⟩
 |_=>exact q1.no.elim
theorem AM (g:GOk Z CX cl xp X ex G){o:Expr}{p pos apos cpos:Pos}{va:List Nat}{fa:Ev->Res D}(h1:G.glc 1=Δ)(hn:isNm o=Δ)(hl:(apos.endLine == cpos.line)=Δ)(ha:PE X o (RD X.K ex va fa)) :
  PE X (.Call (.Name "sum" p) [.Call (.Attribute o "values" apos) [] [] cpos] [] pos) (RD X.K ex va fun τ=>bnd (fa τ) qI):=by
 obtain⟨k1,k2,k3,k4⟩:=jc g (show gq[1]? = Γ ("sum" : Str) from rfl) (ny h1);refine fm (wV (g.calm (nA h1)) k1 k2 ha (by cases o<;>first|rfl|cases hn) hl) fun σ H Q ⟨S,τ,hs,q⟩=>?_;refine fI (.refl _) hs (PO'.bnd q) fun x v H1 e1 _ m1 q1=>?_
 induction x using zD with
 |dct o ks ds=>
  obtain⟨a,kvs,rfl,rd,_,m⟩:=m1.dctR;have q2:PO' ex (match gy ds with|some ns=>.ok (.int ns.sum)|none=>stk) (Kk X.K S H Q):=q1;cases z:gy ds with
  |none=>rw[z]at q2;exact q2.no.elim
  |some ns=>rw[z]at q2;rw[jl z]at m;exact⟨a,kvs,ns,rfl,rd,m.ints,q2.ok _ _ e1 (.int _)⟩
 |_=>exact q1.no.elim
end
section
variable {prog:Β}{w:Α}{A:Η}{E:Φ->Ω->Prop}{s:Ω}
theorem kT {it t:Ψ}{items:Array Φ}(hne:t≠it):∀(n i:Nat) (s:Ω) (Q:List Φ->Ω->Prop),s.heap.IsListIter it t i->s.heap.IsList t items->i+n<=items.size->
  (∀h',h'.IsListIter it t (i+n)->Heap.SameBut it s.heap h'->Q ((items.toList.drop i).take n) {s with heap:=h'})->Ι (Κ prog w) A (draw (.ref it) n) Q E s
 |0,i,s,Q,hit,_,_,hQ=>by show Ι _ _ (pure []) Q E s;exact v_ (by simpa using hQ s.heap hit (Heap.SameBut.refl ..))
 |n+1,i,s,Q,hit,ht,hle,hQ=>by
  have hlt:i < items.size:=by omega
  show Ι _ _ (pyNext (.ref it) >>= _) Q E s;refine i_ (wpAny_pyNext_list_item hit ht (x:=items[i]) (by simp[hlt]) fun h₁ hit₁ hs₁=>?_);refine i_ (ES (kT hne n (i+1) _ _ hit₁ (ht.extBut hs₁.extBut hne) (by omega) fun h₂ hit₂ hs₂=>v_ ?_));have hd:items.toList.drop i=items[i]::items.toList.drop (i+1):=by simp[List.drop_eq_getElem_cons,hlt]
  have:=hQ h₂ (by rw[show i+(n+1)=i+1+n by omega];exact hit₂) (hs₁.trans hs₂);rw[hd,List.take_succ_cons]at this;exact this
theorem jW {t:Ψ}{items:Array Φ}{Q:List Φ->Ω->Prop}(hh:A.handled=Ξ)(ht:s.heap.IsList t items)
  (hQ:∀h',Heap.ExtBut s.heap.objs.size s.heap h'->Q items.toList {s with heap:=h'}):Ι (Κ prog w) A (unpackItems (.ref t) items.size Ξ) Q E s:=by
 have hlt:t≠s.heap.objs.size:=by obtain⟨o,ho,_⟩:=ht;exact x_ (l_ ho)
 have push:∀o,(s.heap.push o).IsList t items:=fun o=>by obtain⟨ob,e,c,n,d⟩:=ht;exact⟨ob,w_ _ e,c,n,d⟩
 unfold unpackItems;refine i_ ?_
 ·unfold notIterableAtAll;refine i_ (wpAny_specialOf ht.typeIs slot_list_iter.lookup ?_);refine v_ ?_;simp only[Bool.false_eq_true,if_false];refine i_ (ES (wpAny_pyIter_list ht ?_));refine i_ (ES (kT hlt items.size 0 _ _ ⟨_,EG _ rfl,rfl,rfl⟩ (push _) (by omega) fun h₁ hit₁ hs₁=>?_));have hall:List.take items.size (List.drop 0 items.toList)=items.toList:=by rw[List.drop_zero];exact List.take_of_length_le (by simp)
  rw[hall];rw[b_ (by simp)];have ht₁:h₁.IsList t items:=(push _).extBut hs₁.extBut hlt;refine i_ (ES (wpAny_pyNext_list_end hh hit₁ ht₁ (by simp) fun h₂ he₂=>?_));simp only[Option.isSome_none,Bool.false_eq_true,if_false];refine v_ (hQ h₂ fun b o hb e=>he₂ b o hb (hs₁.extBut b o hb (w_ _ e)))
end
def CJ (K:Frag)(n:Nat)(t:TGs):TG:=fun v σ H Q=>∃a xs,v=.ref a/\(SqT K H a xs∨SqL K H a xs)/\xs.length=n/\t xs σ H Q
theorem AN {X:Cx}{pos:Pos}{es:List Expr}{k:Nat}{t:TGs}{n:Nat}(hc:X.calm=Δ)(h:PGs X es t)(hn:(assignEach es X.env).length=n)(hst:(assignEach es X.env).findIdx? (·.1)=Ξ):PG X (.Tuple es k pos) (CJ X.K n t):=by
 intro pins s σ H v u Q I r hw;obtain⟨a,xs,e1,hq,hl,hw⟩:=hw;subst e1;cases r;rcases hq with hq|hq
 ·obtain⟨its,rv,ht,hz⟩:=I.tuple hq;refine assign_Tuple_tuple (I.ok.hd hc) ht (by simp[hn,<- hl,rv.length]) hst fun h' hx=>?_;have I1:Inv X pins σ H {s with heap:=h'}:=I.kept (t':=s.toks) fun b o e=>hx b o (x_ (l_ e)) e;exact h pins _ σ H xs _ Q I1 (by simpa using rv) hw
 ·obtain⟨its,rv,pl,hz⟩:=I.list hq;rw[assign_Tuple];refine i_ (wpAny_standAt ?_);unfold unpack;have hlen:(assignEach es X.env).length=its.toArray.size:=by simp[hn,<- hl,rv.length]
  rw[hlen,hst];refine i_ (ES (jW (I.ok.hd hc) pl.isList fun h' hx=>?_));have I1:Inv X pins σ H {s with heap:=h'}:=I.kept (t':=s.toks) fun b o e=>hx b o (x_ (l_ e)) e;exact h pins _ σ H xs _ Q I1 (by simpa using rv) hw
mutual
def gT (K:Frag):Tg->TG
 |.nm i=>tx i
 |.tp ts=>CJ K ts.length (gTs K ts)
def gTs (K:Frag):List Tg->TGs
 |[]=>B7
 |t::ts=>yC (gT K t) (gTs K ts)
end
theorem jE {e:Expr}(h:notStar e=Δ)(es:List Expr)(env:Env):assignEach (e::es) env=(Θ,assign e env)::assignEach es env:=by
 induction e using zE<;>first|rfl|cases h
section
variable {Z:Sg}{CX:CXT}{cl:Nat->List D->Res D}{xp:XK->Hp->Str->Prop}{X:Cx}{ex:Str->Prop}{G:Gm}
theorem kU (G:Gm):∀ {ts:List Tg}{es:List Expr} (env:Env),jb G ts es=Δ->(assignEach es env).length=ts.length/\(assignEach es env).findIdx? (·.1)=Ξ
 |[],[],_,_=>⟨rfl,rfl⟩
 |t::ts,e::es,env,h=>by have h':(notStar e&&fM G t e&&jb G ts es)=Δ:=h;simp only[d_]at h';obtain⟨h1,h2⟩:=kU G (ts:=ts) (es:=es) env h'.2;rw[jE h'.1.1];refine⟨by rw[List.length_cons,h1,List.length_cons],?_⟩;rw[List.findIdx?_cons,b_ (by simp),h2];rfl
 |[],_::_,_,h=>by cases h
 |_::_,[],_,h=>by cases h
mutual
theorem pgT (g:GOk Z CX cl xp X ex G):∀(t:Tg) (e:Expr),fM G t e=Δ->PG X e (gT X.K t)
 |.nm i,e,h=>by
  induction e using zE with
  |Name x pos=>
   have h':(G.N[i]? == Γ x&&(G.kd[i]? == Γ .local||(G.df&&G.kd[i]? == Γ .cell)))=Δ:=(EA.mp h).1;rw[d_,EJ,d_]at h';obtain⟨h1,h2⟩:=h';have hx:G.N[i]? = Γ x:=g_ h1;have hk:=g.kd i x hx;refine qw (by rw[g.N];exact g.nod) (by rw[g.N];exact hx) ?_ ?_
   ·rcases h2 with h2|h2
    ·exact .inl (hk.trans (g_ h2))
    ·exact .inr (hk.trans (g_ h2.2))
   ·rcases h2 with h2|h2
    ·exact .inr (hk.trans (g_ h2))
    ·exact .inl (g.df h2.1 x)
  |_=>cases h
 |.tp ts,e,h=>by
  induction e using zE with
  |Tuple es k pos=>have h0:(G.cm&&jb G ts es)=Δ:=h;rw[d_]at h0;have h':=h0.2;obtain⟨h1,h2⟩:=kU G X.env h';exact AN (g.calm h0.1) (CK g ts es h') h1 h2
  |_=>cases h
theorem CK (g:GOk Z CX cl xp X ex G):∀(ts:List Tg) (es:List Expr),jb G ts es=Δ->PGs X es (gTs X.K ts)
 |[],[],_=>qx
 |t::ts,e::es,h=>by have h':(notStar e&&fM G t e&&jb G ts es)=Δ:=h;simp only[d_]at h';exact ku (pgT g t e h'.1.2) (CK g ts es h'.2) (by rw[jE h'.1.1];rfl)
 |[],_::_,h=>by cases h
 |_::_,[],h=>by cases h
end
end
mutual
theorem iT {G:Gm}:∀(t:Tg) (e:Expr),fM G t e=Δ->∀j∈tgs t,G.io≠Γ j
 |.nm i,e,h,j,hj=>by
  induction e using zE with
  |Name x pos=>
   have h':=(EA.mp (show((G.N[i]? == Γ x&&(G.kd[i]? == Γ .local||(G.df&&G.kd[i]? == Γ .cell)))&&G.io != Γ i)=Δ from h)).2;have e:j=i:=by simpa[tgs] using hj
   subst e;simpa using h'
  |_=>cases h
 |.tp ts,e,h,j,hj=>by
  induction e using zE with
  |Tuple es k pos=>have h0:(G.cm&&jb G ts es)=Δ:=h;exact oX ts es (EA.mp h0).2 j hj
  |_=>cases h
theorem oX {G:Gm}:∀(ts:List Tg) (es:List Expr),jb G ts es=Δ->∀j∈oU ts,G.io≠Γ j
 |[],_,_,j,hj=>by cases hj
 |t::ts,[],h,_,_=>by cases h
 |t::ts,e::es,h,j,hj=>by
  have h':(notStar e&&fM G t e&&jb G ts es)=Δ:=h;simp only[d_]at h';rcases u_.mp (show j∈tgs t++oU ts from hj) with hj|hj
  ·exact iT t e h'.1.2 j hj
  ·exact oX ts es h'.2 j hj
end
def SlA (K:Frag)(S:Ψ->Prop)(H:Hp)(σ:St)(τ:Ev):Prop:=τ.length=σ.length/\∀i d,cq τ i=Γ d->∃v,σ[i]? = Γ (Γ v)/\HRep K S H v d
theorem jX {τ:Ev}{i j:Nat}{o:Option D}:cq (τ.set i o) j=if i=j/\i < τ.length then o else cq τ j:=by
 unfold cq;rw[List.getElem?_set];by_cases h:i=j
 ·subst h;by_cases h2:i < τ.length
  ·simp[h2]
  ·rw[c_ rfl,b_ h2,b_ (by omega)];rw[List.getElem?_eq_none (by omega)]
 ·rw[b_ h,b_ (by omega)]
section
variable {K:Frag}{S:Ψ->Prop}{H:Hp}{ex:Str->Prop}
mutual
theorem nE:∀(t:Tg) {σ:St}{τ:Ev}{v:V}{d:D}{Kt:Ev->Prop}{Q:St->Hp->Prop},SlA K S H σ τ->HRep K S H v d->PO' ex (gR t d τ) Kt->
  (∀τ' σ',SlA K S H σ' τ'->σ'.length=σ.length->(∀j,j∉tgs t->σ'[j]? = σ[j]?)->Kt τ'->Q σ' H)->gT K t v σ H Q
 |.nm i,σ,τ,v,d,Kt,Q,hs,m,h,k=>by
  refine k (τ.set i (Γ d)) (σ.set i (Γ v)) ⟨by rw[List.length_set,List.length_set,hs.1],fun j e z=>?_⟩ (by rw[List.length_set]) (fun j hj=>?_) h.ok
  ·rw[jX]at z;by_cases q:i=j/\i < τ.length
   ·rw[c_ q]at z;obtain⟨rfl,q⟩:=q;cases z;exact⟨v,by rw[List.getElem?_set_self (by rw[<- hs.1];exact q)],m⟩
   ·rw[b_ q]at z;obtain⟨w,h1,h2⟩:=hs.2 j e z;refine⟨w,?_,h2⟩;by_cases q2:i=j
    ·subst q2;exfalso;have:i < σ.length:=by have:=(B_.mp h1).1;exact this
     exact q ⟨rfl,by rw[hs.1];exact this⟩
    ·rw[EZ q2];exact h1
  ·have:i≠j:=fun z=>hj (by subst z;simp[tgs]);rw[EZ this]
 |.tp ts,σ,τ,v,d,Kt,Q,hs,m,h,k=>by
  induction d using zD with
  |tup ds=>obtain⟨a,xs,rfl,q,ms⟩:=m.tupR;obtain⟨g,h⟩:=PO'.grd h;have g':ds.length=ts.length:=r_ g;exact⟨a,xs,rfl,.inl q,by rw[ms.length,g'],kW ts hs ms h k⟩
  |lst o ds=>obtain⟨a,xs,rfl,q,ms⟩:=m.lstR;obtain⟨g,h⟩:=PO'.grd h;have g':ds.length=ts.length:=r_ g;exact⟨a,xs,rfl,.inr q,by rw[ms.length,g'],kW ts hs ms h k⟩
  |_=>exact h.no.elim
theorem kW:∀(ts:List Tg) {σ:St}{τ:Ev}{vs:List V}{ds:List D}{Kt:Ev->Prop}{Q:St->Hp->Prop},SlA K S H σ τ->HReps K S H vs ds->PO' ex (jy ts ds τ) Kt->
  (∀τ' σ',SlA K S H σ' τ'->σ'.length=σ.length->(∀j,j∉oU ts->σ'[j]? = σ[j]?)->Kt τ'->Q σ' H)->gTs K ts vs σ H Q
 |[],σ,τ,vs,ds,Kt,Q,hs,m,h,k=>by
  cases m with
  |nil=>exact⟨rfl,k τ σ hs rfl (fun _ _=>rfl) h.ok⟩
  |cons _ _=>exact h.no.elim
 |t::ts,σ,τ,vs,ds,Kt,Q,hs,m,h,k=>by
  cases m with
  |nil=>exact h.no.elim
  |cons m1 m2=>
   refine⟨_,_,rfl,nE t hs m1 (PO'.bnd h) fun τ' σ' hs' hn hk h'=>?_⟩;refine kW ts hs' m2 h' fun τ'' σ'' hs'' hn' hk' h''=>k τ'' σ'' hs'' (hn'.trans hn) (fun j hj=>?_) h'';have hj':j∉tgs t/\j∉oU ts:=by constructor<;>(intro z;apply hj;simp[oU,z])
   rw[hk' j hj'.2,hk j hj'.1]
end
end
section
variable {K:Frag}{S S':Ψ->Prop}{H H':Hp}{J:It}{ds:List D}
theorem Wlk.step (hl:∀a (u:LD),S a->Rd H a u.o->S' a/\Rd H' a u.o)(ht:∀a xs,SqE K H a xs->SqE K H' a xs)(h:Wlk K S H J ds):Wlk K S' H' J ds:=by
 cases h with
 |lst h0 h1 h2=>exact .lst (hl _ (.l _) h0 h1).1 (hl _ (.l _) h0 h1).2 (h2.step hl ht)
 |lstK h1 h2=>exact .lstK h1 (h2.step hl ht)
 |tup h1 h2=>exact .tup (ht _ (.inl _) h1) (h2.step hl ht)
 |rng lo hi=>exact .rng lo hi
 |str x=>exact .str x
theorem Wlk.mono (h:Wlk K S H J ds)(hS:∀a,S a->S' a)(e:dO H H'):Wlk K S' H' J ds:=h.step (fun a xs s r=>⟨hS a s,e.rd r⟩) fun a xs s=>e.seqT s
theorem kX (x:Str):(il x).length=x.cps.size:=by unfold il;simp
theorem iz (a b:Int):(ir a b).length=(b - a).toNat:=by unfold ir;simp
theorem Wlk.stop (h:Wlk K S H J ds){i:Nat}(hi:ds.length=i):J.stop i H:=by
 cases h with
 |lst h0 h1 h2=>exact⟨_,.inl h1,by rw[h2.length];omega⟩
 |lstK h1 h2=>exact⟨_,h1.sq,by rw[h2.length];omega⟩
 |tup h1 h2=>exact⟨_,h1,by rw[h2.length];omega⟩
 |rng lo hi'=>rw[iz]at hi;exact Nat.le_of_eq hi
 |str x=>rw[kX]at hi;exact Nat.le_of_eq hi
theorem Wlk.go (h:Wlk K S H J ds){i:Nat}(hi:i < ds.length):J.go i H:=by
 cases h with
 |lst h0 h1 h2=>obtain⟨v,hv,_⟩:=h2.get (i:=i) (d:=ds[i]) (by simp[hi]);exact⟨_,v,.inl h1,hv⟩
 |lstK h1 h2=>obtain⟨v,hv,_⟩:=h2.get (i:=i) (d:=ds[i]) (by simp[hi]);exact⟨_,v,h1.sq,hv⟩
 |tup h1 h2=>obtain⟨v,hv,_⟩:=h2.get (i:=i) (d:=ds[i]) (by simp[hi]);exact⟨_,v,h1,hv⟩
 |rng lo hi'=>rw[iz]at hi;exact hi
 |str x=>rw[kX]at hi;exact hi
theorem Wlk.yld (h:Wlk K S H J ds){i:Nat}{x:V}{H2:Hp}(y:J.yld i H x H2){d:D}(hd:ds[i]? = Γ d):dO H H2/\HRep K S H2 x d:=by
 have fin:∀ {xs:List V},HReps K S H xs ds->xs[i]? = Γ x->HRep K S H x d:=fun m e=>by obtain⟨d',e',m'⟩:=m.getV e;rw[hd]at e';cases e';exact m'
 cases h with
 |lst h0 h1 h2=>obtain⟨e,y⟩:=y;subst e;exact⟨.refl _,fin h2 (y _ (.inl h1))⟩
 |lstK h1 h2=>obtain⟨e,y⟩:=y;subst e;exact⟨.refl _,fin h2 (y _ h1.sq)⟩
 |tup h1 h2=>obtain⟨e,y⟩:=y;subst e;exact⟨.refl _,fin h2 (y _ h1)⟩
 |rng lo hi'=>
  obtain⟨e1,e2⟩:=y;subst e1;refine⟨.refl _,?_⟩;subst e2;unfold ir at hd;rw[EL]at hd;have hi:i < (hi' - lo).toNat:=by
   have:=(E4.mp hd)
   obtain⟨z,h1,_⟩:=this;have:=(B_.mp h1).1;simpa using this
  rw[List.getElem?_range hi]at hd;cases hd;exact .int _
 |str x=>
  obtain⟨e1,c,h1,e2⟩:=y;subst e1;refine⟨.refl _,?_⟩;subst e2;unfold il at hd;rw[EL]at hd;have h2:x.cps.toList[i]? = Γ c:=by simpa using h1
  rw[h2]at hd;cases hd;exact .str _
end
section
variable {Z:Sg}{CX:CXT}{cl:Nat->List D->Res D}{xp:XK->Hp->Str->Prop}{X:Cx}{ex:Str->Prop}{G:Gm}{K:Frag}{S:Ψ->Prop}{H H1:Hp}{σ:St}{τ:Ev}
theorem AO {is:List Nat}{f:Ev->Res (List D)}{Kt:List D->Prop}{R:It->Hp->Prop}(e:dO H H1)(hs:Slots K S H σ τ is)(h:PO' ex (f τ) Kt)(k:∀ds J H2,dO H H2->dO H1 H2->Wlk K (nw S H) H2 J ds->Kt ds->R J H2):RI K ex is f σ H1 R:=
 ⟨nw S H,τ,hs.go e,h.mono fun x hx J H2 e2 m=>k x J H2 (e.trans e2) e2 (m.mono (ka e) (.refl _)) hx⟩
theorem nG {tg:Expr}{pins:List (Ψ×Obj)}{s:Ω}{a:Ψ}{xs:List V}{R:It->Hp->Prop}(I:Inv X pins σ H s)(hq:SqL X.K H a xs)(q:R (Itl X.K a) H):Ι (Κ X.prog X.w) X.A (pyIter (.ref a)) (PIE X pins σ tg R) X.xe s:=by
 obtain⟨its,rv,p,hz⟩:=I.list hq;refine wpAny_pyIter_list p.isList ?_;refine⟨s.heap.objs.size,[s.heap.objs.size],_,_,H,rfl,I.kept (t':=s.toks) fun b o e=>w_ _ e,sk a _,⟨_,EG _ rfl,rfl,rfl⟩,fun b hb=>?_,q⟩;have e:b=s.heap.objs.size:=by simpa using hb
 subst e;exact I.fpOk (n_ _) (I.hok.fresh (n_ _))
theorem uz {tg:Expr}{pins:List (Ψ×Obj)}{s:Ω}{a:Ψ}{xs:List V}{R:It->Hp->Prop}(I:Inv X pins σ H s)(hq:SqT X.K H a xs)(q:R (Itt X.K a) H):Ι (Κ X.prog X.w) X.A (pyIter (.ref a)) (PIE X pins σ tg R) X.xe s:=by
 obtain⟨its,rv,p,hz⟩:=I.tuple hq;refine wpAny_pyIter_tuple (show s.heap.IsTuple a its.toArray from p) ?_;refine⟨s.heap.objs.size,[s.heap.objs.size],_,_,H,rfl,I.kept (t':=s.toks) fun b o e=>w_ _ e,pI a _,⟨_,EG _ rfl,rfl,rfl⟩,fun b hb=>?_,q⟩;have e:b=s.heap.objs.size:=by simpa using hb
 subst e;exact I.fpOk (n_ _) (I.hok.fresh (n_ _))
theorem CL {tg e:Expr}{va:List Nat}{fa:Ev->Res D}(ha:PE X e (RD X.K ex va fa)):PI X tg e (RI X.K ex va fun τ=>bnd (fa τ) kL):=by
 intro pins s σ H R I h;obtain⟨S,τ,hs,q⟩:=h;refine thn (ha pins s σ H (fun v H'=>∃d,dO H H'/\HRep X.K (nw S H) H' v d/\_) I (fI (.refl _) hs (PO'.bnd q) fun x v H1 e1 _ m1 q1=>⟨x,e1,m1,q1⟩)) fun v s1 ⟨x,H1,I1,r1,d,e1,m1,q1⟩=>?_
 induction d using zD with
 |lst o ds=>
  cases m1 with
  |lst h0 h1 h2=>cases r1;exact nG I1 (.inl h1) (q1.ok _ _ e1 (.lst h0 h1 h2))
  |lstK h1 h2=>cases r1;exact nG I1 h1.sq (q1.ok _ _ e1 (.lstK h1 h2))
 |tup ds=>obtain⟨a,xs,rfl,h1,h2⟩:=m1.tupR;cases r1;exact uz I1 h1 (q1.ok _ _ e1 (.tup h1 h2))
 |str z=>cases m1.strR;obtain⟨t,rfl⟩:=r1;obtain⟨_,q1⟩:=PO'.grd q1;exact AB I1 (q1.ok _ _ e1 (.str z))
 |_=>exact q1.no.elim
theorem AQ (g:GOk Z CX cl xp X ex G){tg e:Expr}{p pos:Pos}{va:List Nat}{fa:Ev->Res D}(hg:G.gl.contains 15=Δ)(hn:notStar e=Δ)(ha:PE X e (RD X.K ex va fa)) :
  PI X tg (.Call (.Name "range" p) [e] [] pos) (RI X.K ex va fun τ=>bnd (fa τ) fun|.int i=>grd (j9 i) (.ok (ir 0 i))|_=>stk):=by
 obtain⟨k1,k2,_,_⟩:=jc g (show gq[15]? = Γ ("range" : Str) from rfl) hg;refine tU (lN k1 k2 (fX ha gW (dN hn _ _)) (dN hn _ _)) fun σ H Q ⟨S,τ,hs,q⟩=>?_;refine fI (.refl _) hs (PO'.bnd q) fun x v H1 e1 _ m1 q1=>?_
 induction x using zD with
 |int i=>cases m1.intR;obtain⟨gd,q1⟩:=PO'.grd q1;have gd' : -(2 ^ 62)<=i/\i < 2 ^ 62:=r_ gd;refine⟨i,rfl,gd'.1,gd'.2,?_⟩;have:=q1.ok _ _ e1 (.rng 0 i);rw[Int.sub_zero]at this;exact this
 |_=>exact q1.no.elim
theorem iA {env:Env}{x:Str}:∀(names:List (Str×NameKind)),
  (names.map fun(n,k)=>if(k == Τ&&env.scope.kind == .function&&env.kindOf n == Γ .cell) then(n,NameKind.cell) else(n,k)).lookup x =
   (names.lookup x).map fun k=>if(k == Τ&&env.scope.kind == .function&&env.kindOf x == Γ .cell) then NameKind.cell else k
 |[]=>rfl
 | (n,k)::r=>by
  have ih:=iA (env:=env) (x:=x) r;rw[a_];show List.lookup x ((if(k == Τ&&env.scope.kind == .function&&env.kindOf n == Γ .cell)=Δ then(n,NameKind.cell) else(n,k))::_)=_;by_cases hc:(k == Τ&&env.scope.kind == .function&&env.kindOf n == Γ .cell)=Δ
  ·rw[c_ hc,E2,E2];cases hx:x == n with
   |true=>have e:x=n:=g_ hx;subst e;show Γ NameKind.cell=Γ (if _ then _ else _);rw[c_ hc]
   |false=>exact ih
  ·rw[b_ hc,E2,E2];cases hx:x == n with
   |true=>have e:x=n:=g_ hx;subst e;show Γ k=Γ (if _ then _ else _);rw[b_ hc]
   |false=>exact ih
theorem qa {scope:Scope}{env:Env}(h:∀y∈scope.names,y.2=.free->∃c,env.cells.lookup y.1=Γ c) :
  ∃cl',closureFor scope env=pure cl'/\(∀x c,cl'.lookup x=Γ c->env.cells.lookup x=Γ c)/\∀y∈scope.names,y.2=.free->∃c,cl'.lookup y.1=Γ c:=by
 have key:∀(names:List (Str×NameKind)) (acc:List (Str×Ψ)),(∀y∈names,y.2=.free->∃c,env.cells.lookup y.1=Γ c)->(∀x c,acc.lookup x=Γ c->env.cells.lookup x=Γ c)->
   ∃cl',(forIn names acc fun(p:Str×NameKind) (r:List (Str×Ψ))=>(if(p.2 == Τ)=Δ then do let a <- cellOf env p.1;pure (ForInStep.yield ((p.1,a)::r)) else pure (ForInStep.yield r):Sem (ForInStep (List (Str×Ψ)))))=pure cl'/\(∀x c,cl'.lookup x=Γ c->env.cells.lookup x=Γ c)/\
    (∀y∈names,y.2=.free->∃c,cl'.lookup y.1=Γ c)/\∀x c,acc.lookup x=Γ c->∃c',cl'.lookup x=Γ c':=by
  intro names
  induction names with
  |nil=>intro acc _ h2;exact⟨acc,rfl,h2,fun y hy=>absurd hy (by simp),fun x c e=>⟨c,e⟩⟩
  |cons p names ih=>
   intro acc h1 h2;rw[List.forIn_cons];by_cases hp:p.2=.free
   ·obtain⟨c,hc⟩:=h1 p (by simp) hp;have hb:(p.2 == Τ)=Δ:=by rw[hp];rfl
    have h2':∀x c',((p.1,c)::acc).lookup x=Γ c'->env.cells.lookup x=Γ c':=by
     intro x c' e;rw[E2]at e;cases hx:x == p.1 with
     |true=>rw[hx]at e;cases e;rw[g_ hx];exact hc
     |false=>rw[hx]at e;exact h2 x c' e
    obtain⟨cl',e1,e2,e3,e4⟩:=ih ((p.1,c)::acc) (fun y hy=>h1 y (q_ _ hy)) h2';refine⟨cl',?_,e2,fun y hy hf=>?_,fun x c' e=>?_⟩
    ·rw[c_ hb];have:cellOf env p.1=pure c:=by unfold cellOf;rw[hc]
     rw[this];exact e1
    ·rcases j_.mp hy with rfl|hy
     ·exact e4 y.1 c (by rw[E2];simp)
     ·exact e3 y hy hf
    ·rcases hx:x == p.1 with _|_
     ·exact e4 x c' (by rw[E2,hx];exact e)
     ·exact e4 x c (by rw[E2,hx])
   ·have hb:¬(p.2 == Τ)=Δ:=fun z=>hp (g_ z);obtain⟨cl',e1,e2,e3,e4⟩:=ih acc (fun y hy=>h1 y (q_ _ hy)) h2;refine⟨cl',?_,e2,fun y hy hf=>?_,e4⟩
    ·rw[b_ hb];exact e1
    ·rcases j_.mp hy with rfl|hy
     ·exact absurd hf hp
     ·exact e3 y hy hf
 obtain⟨cl',e1,e2,e3,_⟩:=key scope.names [] h (fun x c e=>by cases e);refine⟨cl',?_,e2,e3⟩;unfold closureFor;exact congrArg (fun(m:Sem (List (Str×Ψ)))=>m >>= fun r=>pure r) e1
structure ScOk (Z:Sg)(G:Gm)(scope:Scope)(G':Gm)(fr:List Nat):Prop where
 cm:G.cm=Δ
 kind:scope.kind=.function
 tr:G'.tr=Θ
 df:G'.df=Θ
 kdl:G'.kd.length=G'.N.length
 nocell:∀y∈scope.names,y.2≠.cell
 loc:∀y∈scope.names,y.2=.local->scope.names.lookup y.1=Γ .local
 fre:∀y∈scope.names,y.2=.free->∃i:Nat,G.N[i]? = Γ y.1/\(G.kd[i]? = Γ .cell∨G.kd[i]? = Γ .free)
 frs:∀(j:Nat) (i:Nat),fr[j]? = Γ i->∃x,G.N[i]? = Γ x/\G'.N[j]? = Γ x/\scope.names.lookup x=Γ .free/\(G.kd[i]? = Γ .cell∨G.kd[i]? = Γ .free)/\G'.kd[j]? = Γ (if(G.kd[i]? == Γ .cell)=Δ then .cell else .free)
 fle:fr.length<=G'.N.length
 tgs:∀(j:Nat) (x:Str),fr.length<=j->G'.N[j]? = Γ x->scope.names.lookup x=Γ .local/\G'.kd[j]? = Γ .local
 noD:∀x∈G'.N,(x == ("__debug__" : Str))=Θ/\(x == ("__classdict__" : Str))=Θ
 nod:G'.N.Nodup
 gl:∀n∈G'.gl,∃x,Z.name n=Γ x/\scope.names.lookup x=Γ .globalImplicit
theorem km {Z:Sg}{G:Gm}{scope:Scope}{G':Gm}{fr:List Nat}(h:gu Z G scope G' fr=Δ):ScOk Z G scope G' fr:=by
 unfold gu at h;simp only[d_]at h;obtain⟨⟨⟨⟨⟨⟨⟨⟨⟨⟨⟨⟨⟨h0,h1⟩,h1'⟩,h2⟩,h3⟩,h4⟩,h5⟩,h6⟩,h7⟩,h8⟩,h9⟩,h10⟩,h11⟩,h12⟩:=h;rw[ED]at h4 h5 h6 h7 h9 h10 h12;refine⟨h0,g_ h1,by simpa using h1',by simpa using h2,g_ h3,fun y hy=>by simpa using h4 y hy,fun y hy e=>?_,fun y hy e=>?_,fun j i e=>?_,r_ h8,fun j x hj e=>?_,fun x hx=>by simpa using h10 x hx,r_ h11,fun n hn=>?_⟩
 ·have:=h5 y hy;rw[e]at this;simpa using this
 ·have:=h6 y hy;rw[e]at this;simp only[bne_self_eq_false,Bool.false_or,List.any_eq_true,d_,EJ]at this;obtain⟨i,_,hi,hk⟩:=this;exact⟨i,g_ hi,hk.elim (fun z=>.inl (g_ z)) fun z=>.inr (g_ z)⟩
 ·have hj:j < fr.length:=(B_.mp e).1;have:=h7 j (List.mem_range.mpr hj);simp only[e,Option.bind_some,d_,EJ]at this;obtain⟨⟨⟨a1,a2⟩,a3⟩,a4⟩:=this;have a1':=g_ a1;have a2':=g_ a2;cases q:G'.N[j]? with
  |none=>rw[q]at a2';cases a2'
  |some x=>rw[q]at a2' a1';exact⟨x,a1'.symm,rfl,a2',a3.elim (fun z=>.inl (g_ z)) fun z=>.inr (g_ z),g_ a4⟩
 ·have hlt:j < G'.N.length:=(B_.mp e).1;have hm:j∈(List.range G'.N.length).drop fr.length:=by rw[List.mem_drop_iff_getElem];exact⟨j - fr.length,by simp;omega,by simp;omega⟩
  have:=h9 j hm;rw[e]at this;simp only[Option.bind_some,d_]at this;exact⟨g_ this.1,g_ this.2⟩
 ·have:=h12 n hn;cases q:Z.name n with
  |none=>rw[q]at this;cases this
  |some x=>rw[q]at this;exact⟨x,rfl,g_ this⟩
noncomputable def frN (G:Gm)(fr:List Nat):List (Str×Nat):=fr.map fun i=>(G.N.getD i "",i)
theorem CM {scope:Scope}{G':Gm}{fr:List Nat}(s:ScOk Z G scope G' fr):(frN G fr).map (·.1)++G'.N.drop fr.length=G'.N:=by
 have e:(frN G fr).map (·.1)=G'.N.take fr.length:=by
  apply List.ext_getElem?;intro j;unfold frN;rw[EB,EL,List.getElem?_take];cases q:fr[j]? with
  |none=>
   have:¬j < fr.length:=by intro z;rw[EK z]at q;cases q
   rw[b_ this];rfl
  |some i=>have:j < fr.length:=(B_.mp q).1;rw[c_ this];obtain⟨x,h1,h2,_⟩:=s.frs j i q;rw[h2];show Γ (G.N.getD i "")=Γ x;rw[EO,h1];rfl
 rw[e,List.take_append_drop]
theorem iU (g:GOk Z CX cl xp X ex G)(ok:X.Ok){scope:Scope}{G':Gm}{fr:List Nat}(s:ScOk Z G scope G' fr):∃cl',CompSc X scope cl' (frN G fr) (G'.N.drop fr.length):=by
 have hfree:∀y∈scope.names,y.2=.free->∃c,X.env.cells.lookup y.1=Γ c:=fun y hy hf=>by obtain⟨i,h1,h2⟩:=s.fre y hy hf;have hk:=g.kd i y.1 h1;exact ok.has y.1 (h2.elim (fun z=>.inl (hk.trans z)) fun z=>.inr (hk.trans z))
 obtain⟨cl',e1,e2,e3⟩:=qa hfree;refine⟨cl',e1,s.kind,s.nocell,s.loc,e2,fun x hx=>?_,fun p hp=>?_⟩
 ·have hl:=iA (env:=X.env) (x:=x) scope.names;have hx':((scope.names.lookup x).map fun k=>if(k == Τ&&X.env.scope.kind == .function&&X.env.kindOf x == Γ .cell)=Δ then NameKind.cell else k)=Γ .cell∨
    ((scope.names.lookup x).map fun k=>if(k == Τ&&X.env.scope.kind == .function&&X.env.kindOf x == Γ .cell)=Δ then NameKind.cell else k)=Γ .free:=by
   rcases hx with hx|hx
   ·exact .inl (hl.symm.trans hx)
   ·exact .inr (hl.symm.trans hx)
  cases q:scope.names.lookup x with
  |none=>rw[q]at hx';rcases hx' with z|z<;>cases z
  |some k=>
   have hm:(x,k)∈scope.names:=PySem.mem_of_lookup q;have hk:k=.free:=by
    rw[q]at hx';rcases hx' with z|z
    ·have z':(if(k == Τ&&X.env.scope.kind == .function&&X.env.kindOf x == Γ .cell)=Δ then NameKind.cell else k)=.cell:=EF z;split at z'
     ·rename_i hc
      simp only[d_]at hc;exact g_ hc.1.1
     ·exact absurd z' (s.nocell _ hm)
    ·have z':(if(k == Τ&&X.env.scope.kind == .function&&X.env.kindOf x == Γ .cell)=Δ then NameKind.cell else k)=.free:=EF z;split at z'
     ·cases z'
     ·exact z'
   exact e3 (x,k) hm hk
 ·unfold frN at hp;rw[List.mem_map]at hp;obtain⟨i,hi,rfl⟩:=hp;obtain⟨j,hj⟩:=List.getElem?_of_mem hi;obtain⟨x,h1,h2,h3,h4,h5⟩:=s.frs j i hj;have hn:G.N.getD i "" = x:=by rw[EO,h1];rfl
  show X.N[i]? = Γ (G.N.getD i "")/\_;rw[hn];have hk:=g.kd i x h1;refine⟨by rw[g.N];exact h1,h4.elim (fun z=>.inl (hk.trans z)) fun z=>.inr (hk.trans z),?_⟩;have hl:=iA (env:=X.env) (x:=x) scope.names;rw[h3]at hl;have hl':(relabel scope X.env).names.lookup x=Γ (if(Τ == Τ&&X.env.scope.kind == .function&&X.env.kindOf x == Γ .cell)=Δ then NameKind.cell else Τ):=hl;rw[hl'];split
  ·exact .inl rfl
  ·exact .inr rfl
theorem gf (g:GOk Z CX cl xp X ex G){scope:Scope}{G':Gm}{fr:List Nat}(s:ScOk Z G scope G' fr)(cl':List (Str×Ψ))(C:Ψ)(s3:Ω)(H3:Hp)(fp:List Ψ) :
  GOk Z CX cl xp (cxC X scope cl' ((frN G fr).map (·.1)++G'.N.drop fr.length) C s3 H3 fp) (fun _=>False) G' where
 N:=CM s
 nod:=s.nod
 calm:=fun _=>g.calm s.cm
 fk:=s.kind
 un:=g.un
 own:=fun _=>PassesOwn.never
 kd:=fun j x hx=>by
  show(relabel scope X.env).names.lookup x=_;have hl:=iA (env:=X.env) (x:=x) scope.names;by_cases hj:j < fr.length
  ·obtain⟨y,h1,h2,h3,h4,h5⟩:=s.frs j fr[j] (by simp[hj]);rw[hx]at h2;cases h2;rw[h3]at hl;rw[h5];refine hl.trans ?_;have hk:=g.kd fr[j] x h1;show Γ (if(Τ == Τ&&X.env.scope.kind == .function&&X.env.kindOf x == Γ .cell)=Δ then NameKind.cell else Τ)=_;rw[hk,g.fk];rfl
  ·obtain⟨h1,h2⟩:=s.tgs j x (by omega) hx;rw[h1]at hl;rw[h2];exact hl
 noD:=fun j x hx=>s.noD x (EM hx)
 gl:=fun n hn x e=>by obtain⟨y,h1,h2⟩:=s.gl n hn;rw[e]at h1;cases h1;show(relabel scope X.env).names.lookup x=_;have hl:=iA (env:=X.env) (x:=x) scope.names;rw[h2]at hl;exact hl
 nam:=g.nam
 df:=fun z=>by rw[s.df]at z;cases z
 blt:=g.blt
 cst:=g.cst
 fns:=fun f hf _ x hx=>g.fns f hf (.inl s.cm) x hx
 fio:=fun f hf _ x hx=>g.fio f hf s.cm x hx
 xcv:=g.xcv
 xcl:=g.xcl
 xmt:=g.xmt
 xrs:=g.xrs
 rse:=fun _ pins σ H s c C h' e vs _ z=>z.elim
 tr:=fun z=>by rw[s.tr]at z;cases z
 exs:=⟨fun _ _ _=>False,fun pins σ H s e s' _ h=>(g.exn _ _ _ _ _ h).elim,fun c _ z=>z.elim⟩
 hid:=g.hid
 exn:=g.exn
end
abbrev nox:Str->Prop:=fun _=>False
theorem PO'.noX {α:Type}{ex:Str->Prop}{x:Res α}{k:α->Prop}(h:PO' ex (L2.noX x) k):PO' nox x k:=by
 cases x with
 |ok a=>exact h
 |error e=>exact False.elim h
section
variable {K:Frag}{S:Ψ->Prop}{H:Hp}{σ:St}{τ:Ev}{ex:Str->Prop}{cl:Nat->List D->Res D}{G G':Gm}{fr:List Nat}
noncomputable def blk (G':Gm)(fr:List Nat)(τ:Ev):Ev:=fr.map (cq τ)++Ρ (G'.N.length - fr.length) Ξ
theorem xo (hl:fr.length<=G'.N.length):(blk G' fr τ).length=G'.N.length:=by unfold blk;rw[t_,f_,List.length_replicate];omega
theorem qW (Tg:List Str)(σ:St):(stC (frN G fr) Tg σ).length=fr.length+Tg.length:=by unfold stC frN;rw[t_,f_,f_,List.length_replicate]
theorem uA {j:Nat}{d:D}(h:cq (blk G' fr τ) j=Γ d):∃i,fr[j]? = Γ i/\cq τ i=Γ d:=by
 unfold cq blk at h;by_cases hj:j < fr.length
 ·rw[E3 (by simpa using hj),EL,EK hj]at h;exact⟨fr[j],by simp[hj],h⟩
 ·rw[List.getElem?_append_right (by simpa using hj),List.getElem?_replicate]at h;split at h<;>cases h
theorem qX {vs:List Nat}{σ':St}(hl:fr.length<=G'.N.length)(hs:Slots K S H σ τ (fr++vs))(hn:σ'.length=G'.N.length)(hσ:∀j,j < fr.length->σ'[j]? = (stC (frN G fr) (G'.N.drop fr.length) σ)[j]?):SlA K S H σ' (blk G' fr τ):=by refine⟨by rw[xo hl,hn],fun j d h=>?_⟩;obtain⟨i,hi,hd⟩:=uA h;have hj:j < fr.length:=(B_.mp hi).1;obtain⟨v,h1,h2⟩:=hs i (k_ _ (EM hi)) d hd;refine⟨v,?_,h2⟩;rw[hσ j hj];unfold stC frN;rw[E3 (by simpa using hj),EL,EL,hi];show Γ ((σ[i]?).join)=Γ (Γ v);rw[h1];rfl
noncomputable def fN (cl:Nat->List D->Res D)(T:Tg)(I:List IR)(E:IR)(τ0:Ev)(x:D):Res (Option D):=bnd (gR T x τ0) fun τ1=>bnd (iM cl I τ1) fun r=>if r=Δ then bnd (evR cl E τ1) fun d=>.ok (Γ d) else .ok Ξ
theorem iB {vs:List Nat}{fs:Ev->Res (List D)}{T:Tg}{I:List IR}{E:IR}{Kt:D->Prop}{Q:VK}(hl:fr.length<=G'.N.length)(ha:∀i∈tgs T,fr.length<=i)(hs:Slots K S H σ τ (fr++vs))
  (q:PO' ex (bnd (fs τ) fun its=>grd (hU its.length) (bnd (noX (fT (fN cl T I E (blk G' fr τ)) its)) fun ds=>.ok (.lst Δ ds))) Kt)
  (fin:∀A ys ds H',dO H H'->H A=Ξ->H' A=Γ (.lst ys)->HReps K (fun a=>nw S H a/\a≠A) H' ys ds->Kt (.lst Δ ds)->Q (.ref A) H') :
  qE (RI K ex vs fs) (stC (frN G fr) (G'.N.drop fr.length)) (gT K T) (RT K nox (cw I) (iM cl I)) (RD K nox (vars E) (evR cl E)) σ H Q:=by
 refine AO (.refl _) hs.right (PO'.bnd q) fun its J H1 e1 _ w1 q1 A hA=>?_;obtain⟨gd,q1⟩:=PO'.grd q1;have q2:=PO'.noX (PO'.bnd q1);have hsz:=iQ gd;have hHA:H A=Ξ:=e1.free hA
 -- what is read stands apart from the new list
 have tight:∀a,nw S H a->H1 a≠Ξ->nw S H a/\a≠A:=fun a h1 h2=>⟨h1,fun z=>h2 (by rw[z];exact hA)⟩
 have w2:Wlk K (fun a=>nw S H a/\a≠A) H1 J its:=w1.step (fun a xs h r=>⟨tight a h r.some,r⟩) fun a xs h=>h;have hs2:Slots K (fun a=>nw S H a/\a≠A) H1 σ τ (fr++vs):=fun i hi d z=>by obtain⟨v,h1,h2⟩:=(hs.go e1) i hi d z;exact⟨v,h1,h2.step (fun a xs h r=>⟨tight a h r.some,r⟩) fun a xs h=>h⟩
 refine⟨fun i m σ' H'=>m=its.length - i/\i<=its.length/\∃ys acc,H' A=Γ (.lst ys)/\HReps K (fun a=>nw S H a/\a≠A) H' ys acc/\ys.length<=i/\dO H1 H'/\σ'.length=G'.N.length/\
   (∀j,j < fr.length->σ'[j]? = (stC (frN G fr) (G'.N.drop fr.length) σ)[j]?)/\PO' nox (fT (fN cl T I E (blk G' fr τ)) (its.drop i)) fun ds=>Kt (.lst Δ (acc++ds)),⟨its.length,by simp,ET _,[],[],dP,.nil,n_ _,.upd hA,?_,fun _ _=>rfl,?_⟩,?_⟩
 ·rw[qW,List.length_drop];omega
 ·rw[List.drop_zero];exact q2.mono fun ds z=>z.ok
 ·rintro i m σ' H' ⟨rfl,hi,ys,acc,hy,my,ly,e2,hn,hσ,q3⟩;by_cases hlt:i < its.length
  ·refine .inr ⟨(w2.mono (fun _ z=>z) e2).go hlt,fun x H2 hy2=>?_⟩;obtain⟨eH,mx⟩:=(w2.mono (fun _ z=>z) e2).yld hy2 (d:=its[i]) (by simp[hlt]);have hy:=eH _ _ hy;have my:=my.mono (fun _ z=>z) eH;have e2:=e2.trans eH;have hd:its.drop i=its[i]::its.drop (i+1):=List.drop_eq_getElem_cons hlt;rw[hd]at q3;have q4:=PO'.bnd q3;have q5:PO' nox (gR T its[i] (blk G' fr τ)) _:=PO'.bnd q4
   have sl:SlA K (fun a=>nw S H a/\a≠A) H2 σ' (blk G' fr τ):=qX (G:=G) (vs:=vs) (σ:=σ) hl (fun i hi d z=>by
    obtain⟨v,h1,h2⟩:=hs2 i hi d z
    exact⟨v,h1,h2.mono (fun _ z=>z) e2⟩) hn hσ
   refine nE T sl mx q5 fun τ' σ2 sl2 hn' hk q6=>?_;have hn2:σ2.length=G'.N.length:=hn'.trans hn;have hσ2:∀j,j < fr.length->σ2[j]? = (stC (frN G fr) (G'.N.drop fr.length) σ)[j]?:=fun j hj=>by rw[hk j (fun z=>by have:=ha j z;omega)];exact hσ j hj
   have sl3:∀is,Slots K (fun a=>nw S H a/\a≠A) H2 σ2 τ' is:=fun is i _ d z=>sl2.2 i d z;refine lJ (.refl _) (sl3 _) (PO'.bnd q6) fun r H4 e4 _ q7=>?_
   induction r using zB with
   |false=>rw[b_ EC]at q7 ⊢;have q8:PO' nox (fT (fN cl T I E (blk G' fr τ)) (its.drop (i+1))) fun ds=>Kt (.lst Δ (acc++ds)):=q7;refine⟨its.length - (i+1),by omega,rfl,hlt,ys,acc,e4 _ _ hy,my.mono (fun _ z=>z) e4,by omega,e2.trans e4,hn2,hσ2,q8⟩
   |true=>
    rw[c_ rfl]at q7 ⊢;refine fI e4 (sl3 _) (PO'.bnd q7) fun d v H5 e5 e5' m5 q8=>?_;have q9:PO' nox (bnd (fT (fN cl T I E (blk G' fr τ)) (its.drop (i+1))) fun r=>.ok (d::r)) fun ds=>Kt (.lst Δ (acc++ds)):=q8;have q10:=PO'.bnd q9;have hy5:H5 A=Γ (.lst ys):=e5 _ _ hy;refine⟨ys,hy5,by omega,its.length - (i+1),by omega,rfl,hlt,ys++[v],acc++[d],dP,?_,by rw[t_,EH];omega,?_,hn2,hσ2,?_⟩
    ·have hl5:∀a (xs:LD),(nw S H a/\a≠A)->Rd H5 a xs.o->(nw S H a/\a≠A)/\Rd (upd H5 A (.lst (ys++[v]))) a xs.o:=fun a xs h r=>by refine⟨h,?_⟩;unfold Rd;rw[dM h.2];exact r
     have ht5:∀a xs,SqE K H5 a xs->SqE K (upd H5 A (.lst (ys++[v]))) a xs:=fun a xs h=>h.upd hy5
     have m6:HRep K (fun a=>nw S H a/\a≠A) H5 v d:=m5.step (fun a xs h r=>⟨by
      rcases h with h|h
      ·exact h
      ·have:H a=Ξ:=e1.free (e2.free h)
       exact⟨.inr this,fun z=>by rw[z,hy]at h;cases h⟩,r⟩) fun a xs h=>h
     exact(((my.mono (fun _ z=>z) e5).step hl5 ht5)).append (.cons (m6.step hl5 ht5) .nil)
    ·exact fun b o hb=>by
      have:b≠A:=by rintro rfl;rw[hA]at hb;cases hb
      rw[dM this];exact e5 _ _ (e2 _ _ hb)
    ·refine q10.mono fun ds z=>?_;have z':=z.ok;rw[o_];exact z'
  ·have e:i=its.length:=by omega
   subst e;refine .inl ⟨(w2.mono (fun _ z=>z) e2).stop rfl,?_⟩;rw[List.drop_length]at q3;have q4:=q3.ok;rw[D_]at q4;exact fin A ys acc H' (e1.trans e2) hHA hy my q4
end
section
variable {Z:Sg}{CX:CXT}{cl:Nat->List D->Res D}{xp:XK->Hp->Str->Prop}{X:Cx}{ex:Str->Prop}{G G':Gm}{fr:List Nat}
theorem jF {T:Tg}{s:Sr}{I:List IR}{E:IR}:evR cl (.comp G' fr T s I E)=fun τ=>bnd (jA cl s τ) fun its=>grd (hU its.length) (bnd (noX (fT (fN cl T I E (blk G' fr τ)) its)) fun ds=>.ok (.lst Δ ds)):=rfl
theorem AR (g:GOk Z CX cl xp X ex G){scope:Scope}{tg iter elt:Expr}{ifs:List Expr}{pos:Pos}{T:Tg}{s:Sr}{I:List IR}{E:IR}(hs:ScOk Z G scope G' fr)(hT:fM G' T tg=Δ)(ha:∀i∈tgs T,fr.length<=i)
  (hi:PI X tg iter (RI X.K ex (jz s) (jA cl s))) (ht:∀X',GOk Z CX cl xp X' nox G'->PTs X' ifs (RT X'.K nox (cw I) (iM cl I))) (he:∀X',GOk Z CX cl xp X' nox G'->PE X' elt (RD X'.K nox (vars E) (evR cl E)))
  (hf:∀x,foldedSetIterable iter X.env x=pure x):PE X (.ListComp elt [⟨tg,iter,ifs,0⟩] scope pos) (RD X.K ex (fr++jz s) (evR cl (.comp G' fr T s I E))):=by
 intro pins s' σ H Q Iv h;obtain⟨cl',S⟩:=iU g Iv.ok hs;have p:=mZ (pos:=pos) (elt:=elt) (ifs:=ifs) (tg:=tg) (g:=gT X.K T) (tt:=RT X.K nox (cw I) (iM cl I)) (te:=RD X.K nox (vars E) (evR cl E)) (g.calm hs.cm) S hi (fun C s H fp=>pgT (gf g hs cl' C s H fp) T tg hT) (fun C s H fp=>ht _ (gf g hs cl' C s H fp)) (fun C s H fp=>he _ (gf g hs cl' C s H fp)) hf;refine p pins s' σ H Q Iv ?_;obtain⟨S0,τ,hsl,q⟩:=h;rw[jF]at q;exact iB hs.fle ha hsl q fun A ys ds H' e hA hA' m k=>k _ _ e (.lst (.inr hA) (.inl hA') (m.mono (fun _ z=>z.1) (.refl _)))
end
section
variable {Z:Sg}{CX:CXT}{cl:Nat->List D->Res D}{xp:XK->Hp->Str->Prop}
theorem sR {e:Expr}{a:IR}{G:Gm}(h:chk Z G a e=Δ)(env:Env)(x:Φ):foldedSetIterable e env x=pure x:=by
 induction e using zE<;>first|rfl|(induction a using zI<;>cases h)
theorem gM {e:Expr}{a:Sr}{G:Gm}(h:gU Z G a e=Δ)(env:Env)(x:Φ):foldedSetIterable e env x=pure x:=by
 cases a with
 |val a=>exact sR (show chk Z G a e=Δ from h) env x
 |_=>induction e using zE<;>first|rfl|cases h
theorem both {X:Cx}{ex:Str->Prop}{e:Expr}{is:List Nat}{f:Ev->Res D}(h:PE X e (RD X.K ex is f))(he:∀whole,isTrue e X.env whole=(do let v <- whole;standAt e.pos;holding [v] (truthy v)):=by intro _;rfl) :
  PE X e (RD X.K ex is f)/\PT X e (RT X.K ex is fun τ=>bnd (f τ) fQ):=⟨h,Ct h he⟩
mutual
theorem snd:∀(a:IR) (X:Cx) (ex:Str->Prop) (G:Gm) (e:Expr),GOk Z CX cl xp X ex G->chk Z G a e=Δ->PE X e (RD X.K ex (vars a) (evR cl a))/\PT X e (RT X.K ex (vars a) fun τ=>bnd (evR cl a τ) fQ)
 |.c d,X,ex,G,e,g,h=>by
  induction e using zE with
  |Constant k j pos=>exact both (s_c h)
  |_=>exists h
 |.g n d,X,ex,G,e,g,h=>by
  induction e using zE with
  |Name x pos=>have h':(jo Z G n x&&Z.kst.any fun p=>p.1 == n&&sP p.2 d)=Δ:=h;rw[d_]at h';exact both (s_g g h'.1 h'.2)
  |_=>exists h
 |.v i,X,ex,G,e,g,h=>by
  induction e using zE with
  |Name x pos=>exact both (s_v g h)
  |_=>exists h
 |.bin op a b,X,ex,G,e,g,h=>by
  induction e using zE with
  |BinOp l o r pos=>have h':(o == bop op&&chk Z G a l&&chk Z G b r)=Δ:=h;simp only[d_]at h';have e1:o=bop op:=g_ h'.1.1;subst e1;exact both (Cu (snd a X ex G l g h'.1.2).1 (snd b X ex G r g h'.2).1)
  |_=>exists h
 |.neg a,X,ex,G,e,g,h=>by
  induction e using zE with
  |UnaryOp o l pos=>
   cases o with
   |USub=>exact both (Cv (snd a X ex G l g h).1)
   |_=>exists h
  |_=>exists h
 |.cmp op a b,X,ex,G,e,g,h=>by
  induction e using zE with
  |Compare l os rs pos=>
   match os,rs,h with
   |[o],[r],h=>have h':(o == cop op&&chk Z G a l&&chk Z G b r&&!behindInMarks o r)=Δ:=h;simp only[d_]at h';have e1:o=cop op:=g_ h'.1.1.1;subst e1;exact Cw g (snd a X ex G l g h'.1.1.2).1 (snd b X ex G r g h'.1.2).1 (by simpa using h'.2)
   |[],_,h=>exists h
   |[_],[],h=>exists h
   |[_],_::_::_,h=>exists h
   |_::_::_,_,h=>exists h
  |_=>exists h
 |.chain op op' a b c,X,ex,G,e,g,h=>by
  induction e using zE with
  |Compare l os rs pos=>
   match os,rs,h with
   |[o,o'],[m,r],h=>have h':(o == cop op&&o' == cop op'&&chk Z G a l&&chk Z G b m&&chk Z G c r&&!lastMarks [o,o'] [m,r])=Δ:=h;simp only[d_]at h';have e1:o=cop op:=g_ h'.1.1.1.1.1;have e2:o'=cop op':=g_ h'.1.1.1.1.2;subst e1 e2;exact xn g (snd a X ex G l g h'.1.1.1.2).1 (snd b X ex G m g h'.1.1.2).1 (snd c X ex G r g h'.1.2).1 (by simpa using h'.2)
   |[],_,h=>exists h
   |[_],_,h=>exists h
   |[_,_],[],h=>exists h
   |[_,_],[_],h=>exists h
   |[_,_],_::_::_::_,h=>exists h
   |_::_::_::_,_,h=>exists h
  |_=>exists h
 |.and_ a b,X,ex,G,e,g,h=>by
  induction e using zE with
  |BoolOp o es pos=>
   match o,es,h with
   |.And,[l,r],h=>have h':(chk Z G a l&&chk Z G b r)=Δ:=h;rw[d_]at h';obtain⟨pa,ta⟩:=snd a X ex G l g h'.1;obtain⟨pb,tb⟩:=snd b X ex G r g h'.2;exact⟨yM pa (tq pb),yN ta (wt tb)⟩
   |.And,l::r::r'::rest,h=>have h':(chk Z G a l&&chk Z G b (.BoolOp .And (r::r'::rest) pos))=Δ:=h;rw[d_]at h';obtain⟨pa,ta⟩:=snd a X ex G l g h'.1;obtain⟨pb,tb⟩:=snd b X ex G _ g h'.2;exact⟨yM pa pb,yN ta (ux (e:=l) tb)⟩
   |.And,[],h=>exists h
   |.And,[_],h=>exists h
   |.Or,_,h=>exists h
  |_=>exists h
 |.or_ a b,X,ex,G,e,g,h=>by
  induction e using zE with
  |BoolOp o es pos=>
   match o,es,h with
   |.Or,[l,r],h=>have h':(chk Z G a l&&chk Z G b r)=Δ:=h;rw[d_]at h';obtain⟨pa,ta⟩:=snd a X ex G l g h'.1;obtain⟨pb,tb⟩:=snd b X ex G r g h'.2;exact⟨Cy pa (tq pb),CA ta (zV tb)⟩
   |.Or,l::r::r'::rest,h=>have h':(chk Z G a l&&chk Z G b (.BoolOp .Or (r::r'::rest) pos))=Δ:=h;rw[d_]at h';obtain⟨pa,ta⟩:=snd a X ex G l g h'.1;obtain⟨pb,tb⟩:=snd b X ex G _ g h'.2;exact⟨Cy pa pb,CA ta (ux (e:=l) tb)⟩
   |.Or,[],h=>exists h
   |.Or,[_],h=>exists h
   |.And,_,h=>exists h
  |_=>exists h
 |.not_ a,X,ex,G,e,g,h=>by
  induction e using zE with
  |UnaryOp o l pos=>
   cases o with
   |Not=>obtain⟨pa,ta⟩:=snd a X ex G l g h;exact Cz pa ta
   |_=>exists h
  |_=>exists h
 |.tup es,X,ex,G,e,g,h=>by
  induction e using zE with
  |Tuple l n pos=>exact both (CB (nH es X ex G l g h))
  |_=>exists h
 |.lst es,X,ex,G,e,g,h=>by
  induction e using zE with
  |List l pos=>exact both (CD (nH es X ex G l g h))
  |_=>exists h
 |.idx a i,X,ex,G,e,g,h=>by
  induction e using zE with
  |Subscript o s pos=>
   have h':(fe s&&chk Z G a o&&chk Z G i s)=Δ:=by cases s<;>first|exact h|(rename_i l u st p;cases st<;>exact h)
   simp only[d_]at h';exact both (CF (snd a X ex G o g h'.1.2).1 (snd i X ex G s g h'.2).1 h'.1.1)
  |_=>exists h
 |.sl a lo hi,X,ex,G,e,g,h=>by
  induction e using zE with
  |Subscript o s pos=>
   match s,h with
   |.Slice l u Ξ p,h=>have h':(chk Z G a o&&p8 Z G lo l&&p8 Z G hi u)=Δ:=h;simp only[d_]at h';exact both (Et (snd a X ex G o g h'.1.1).1 (xq lo X ex G l g h'.1.2) (xq hi X ex G u g h'.2))
   |.Slice _ _ (Γ _) _,h=>exists h
   |.BoolOp ..,h=>exists h
   |.NamedExpr ..,h=>exists h
   |.BinOp ..,h=>exists h
   |.UnaryOp ..,h=>exists h
   |.Lambda ..,h=>exists h
   |.IfExp ..,h=>exists h
   |.Dict ..,h=>exists h
   |.Set ..,h=>exists h
   |.ListComp ..,h=>exists h
   |.SetComp ..,h=>exists h
   |.DictComp ..,h=>exists h
   |.GeneratorExp ..,h=>exists h
   |.Await ..,h=>exists h
   |.Yield ..,h=>exists h
   |.YieldFrom ..,h=>exists h
   |.Compare ..,h=>exists h
   |.Call ..,h=>exists h
   |.FormattedValue ..,h=>exists h
   |.JoinedStr ..,h=>exists h
   |.Constant ..,h=>exists h
   |.Attribute ..,h=>exists h
   |.Subscript ..,h=>exists h
   |.Starred ..,h=>exists h
   |.Name ..,h=>exists h
   |.List ..,h=>exists h
   |.Tuple ..,h=>exists h
  |_=>exists h
 |.call f es,X,ex,G,e,g,h=>by
  induction e using zE with
  |Call fn args kws pos=>
   induction fn using zE with
   |Name x p=>
    induction kws using zL with
    |nil=>have h':(jo Z G f x&&Z.fnc G f&&ft Z G es args)=Δ:=h;simp only[d_]at h';exact both (s_call g h'.1.1 h'.1.2 h'.2 (nH es X ex G args g h'.2))
    |cons _ _=>exists h
   |_=>exists h
  |_=>exists h
 |.bi f es,X,ex,G,e,g,h=>by
  induction e using zE with
  |Call fn args kws pos=>
   induction fn using zE with
   |Name x p=>
    induction kws using zL with
    |nil=>
     induction args using zL with
     |nil=>exists h
     |cons a args=>have h':(x == iH f&&G.glc (mz f)&&ft Z G es (a::args))=Δ:=h;simp only[d_]at h';have e1:x=iH f:=g_ h'.1.1;subst e1;exact both (Eu g h'.1.2 h'.2 (nH es X ex G _ g h'.2))
    |cons _ _=>cases args<;>exists h
   |_=>exists h
  |_=>exists h
 |.dnew,X,ex,G,e,g,h=>by
  have h:dcv e=Δ:=by induction e using zE<;>exact h
  obtain⟨pos,rfl⟩:=uv h;exact both AJ
 |.dget a k,X,ex,G,e,g,h=>by
  have h:sbx e (fun o s=>fe s&&chk Z G a o&&chk Z G k s)=Δ:=by induction e using zE<;>exact h
  obtain⟨o,s,pos,rfl,q1⟩:=AE h;simp only[d_]at q1;exact both (AK g (snd a X ex G o g q1.1.2).1 (snd k X ex G s g q1.2).1 q1.1.1)
 |.din n k a,X,ex,G,e,g,h=>by
  have h:cpx e (fun l o r=>o == sQ n&&chk Z G k l&&chk Z G a r&&!behindInMarks o r)=Δ:=by induction e using zE<;>exact h
  obtain⟨l,o,r,pos,rfl,q3⟩:=AF h;simp only[d_]at q3;have e1:o=sQ n:=g_ q3.1.1.1;subst e1;exact CI g (snd k X ex G l g q3.1.1.2).1 (snd a X ex G r g q3.1.2).1 (by simpa using q3.2)
 |.lset a,X,ex,G,e,g,h=>by
  have h:lrv e (fun x y e=>x == "len"&&G.gl.contains 0&&y == "set"&&G.gl.contains 12&&(notStar e&&G.cm)&&chk Z G a e)=Δ:=by induction e using zE<;>exact h
  obtain⟨x,p,y,p',e',q',q,rfl,h⟩:=AG h;have h:(x == "len"&&G.gl.contains 0&&y == "set"&&G.gl.contains 12&&(notStar e'&&G.cm)&&chk Z G a e')=Δ:=h;simp only[d_]at h;have e1:x = "len":=g_ h.1.1.1.1.1;have e2:y = "set":=g_ h.1.1.1.2;subst e1 e2;exact both (AL g h.1.1.1.1.2 h.1.1.2 h.1.2.1 h.1.2.2 (snd a X ex G e' g h.2).1)
 |.dsum a,X,ex,G,e,g,h=>by
  have h:dsv e (fun x o n l=>x == "sum"&&G.glc 1&&isNm o&&n == "values"&&l&&chk Z G a o)=Δ:=by induction e using zE<;>exact h
  obtain⟨x,p,o,n,apos,cpos,q,rfl,h⟩:=AH h;have h:(x == "sum"&&G.glc 1&&isNm o&&n == "values"&&(apos.endLine == cpos.line)&&chk Z G a o)=Δ:=h;simp only[d_]at h;have e1:x = "sum":=g_ h.1.1.1.1.1;have e2:n = "values":=g_ h.1.1.2;subst e1 e2;exact both (AM g h.1.1.1.1.2 h.1.1.1.2 h.1.2 (snd a X ex G o g h.2).1)
 |.isi a k,X,ex,G,e,g,h=>by
  induction e using zE with
  |Call fn args kws pos=>
   induction fn using zE with
   |Name x p=>
    match args,kws,h with
    |[o,.Name y p'],[],h=>have h':(x == "isinstance"&&G.gl.contains 14&&y == jn k&&G.gl.contains (qR k)&&notStar o&&chk Z G a o)=Δ:=h;simp only[d_]at h';have e1:x = "isinstance":=g_ h'.1.1.1.1.1;have e2:y=jn k:=g_ h'.1.1.1.2;subst e1 e2;exact both (CG g h'.1.1.1.1.2 h'.1.1.2 h'.1.2 (snd a X ex G o g h'.2).1)
    |[],_,h=>exists h
    |[_],_,h=>exists h
    |_::b::_::_,k,h=>cases b<;>cases k<;>exists h
    |[_,.Name _ _],_::_,h=>exists h
    |[_,.BoolOp ..],_,h=>exists h
    |[_,.NamedExpr ..],_,h=>exists h
    |[_,.BinOp ..],_,h=>exists h
    |[_,.UnaryOp ..],_,h=>exists h
    |[_,.Lambda ..],_,h=>exists h
    |[_,.IfExp ..],_,h=>exists h
    |[_,.Dict ..],_,h=>exists h
    |[_,.Set ..],_,h=>exists h
    |[_,.ListComp ..],_,h=>exists h
    |[_,.SetComp ..],_,h=>exists h
    |[_,.DictComp ..],_,h=>exists h
    |[_,.GeneratorExp ..],_,h=>exists h
    |[_,.Await ..],_,h=>exists h
    |[_,.Yield ..],_,h=>exists h
    |[_,.YieldFrom ..],_,h=>exists h
    |[_,.Compare ..],_,h=>exists h
    |[_,.Call ..],_,h=>exists h
    |[_,.FormattedValue ..],_,h=>exists h
    |[_,.JoinedStr ..],_,h=>exists h
    |[_,.Constant ..],_,h=>exists h
    |[_,.Attribute ..],_,h=>exists h
    |[_,.Subscript ..],_,h=>exists h
    |[_,.Starred ..],_,h=>exists h
    |[_,.Slice ..],_,h=>exists h
    |[_,.List ..],_,h=>exists h
    |[_,.Tuple ..],_,h=>exists h
   |_=>exists h
  |_=>exists h
 |.mth m o es,X,ex,G,e,g,h=>by
  induction e using zE with
  |Call fn args kws pos=>
   induction fn using zE with
   |Attribute oe name apos=>
    match args,kws,h with
    |a::args,[],h=>have h':(name == kO m&&kR oe&&apos.endLine == pos.line&&(decide ((a::args).length < 29)&&(G.cm||p6 m))&&chk Z G o oe&&ft Z G es (a::args))=Δ:=h;simp only[d_]at h';have e1:name=kO m:=g_ h'.1.1.1.1.1;subst e1;exact both (CH g h'.1.1.1.1.2 h'.1.1.1.2 (r_ h'.1.1.2.1) h'.1.1.2.2 h'.2 (snd o X ex G oe g h'.1.2).1 (nH es X ex G _ g h'.2))
    |[],_,h=>exists h
    |_::_,_::_,h=>exists h
   |_=>exists h
  |_=>exists h
 |.comp G' fr tg src ifs elt,X,ex,G,e,g,h=>by
  induction e using zE with
  |ListComp el gens scope pos=>
   have h:p7 gens (fun t it fs=>gu Z G scope G' fr&&fM G' tg t&&(tgs tg).all (fun i=>decide (fr.length<=i))&&(gU Z G src it&&jq src t)&&ft Z G' ifs fs&&chk Z G' elt el)=Δ:=h;obtain⟨t,it,fs,rfl,h⟩:=kj h;have h':(gu Z G scope G' fr&&fM G' tg t&&(tgs tg).all (fun i=>decide (fr.length<=i))&&(gU Z G src it&&jq src t)&&ft Z G' ifs fs&&chk Z G' elt el)=Δ:=h;simp only[d_]at h'
   exact both (AR g (km h'.1.1.1.1.1) h'.1.1.1.1.2 (fun i hi=>r_ (ED.mp h'.1.1.1.2 i hi)) (uC src X ex G it t g h'.1.1.2.1 h'.1.1.2.2)
    (fun X' g'=>uB ifs X' nox G' fs g' h'.1.2) (fun X' g'=>(snd elt X' nox G' el g' h'.2).1) (fun x=>gM h'.1.1.2.1 X.env x))
  |_=>exists h
theorem nH:∀(as:List IR) (X:Cx) (ex:Str->Prop) (G:Gm) (l:List Expr),GOk Z CX cl xp X ex G->ft Z G as l=Δ->PA X l (RA X.K ex (cw as) (fy cl as))
 |[],X,ex,G,l,g,h=>by
  induction l using zL with
  |nil=>exact mX gW fun σ H Q ⟨S,τ,hs,q⟩=>q.ok _ _ (.refl _) .nil
  |cons _ _=>exists h
 |a::as,X,ex,G,l,g,h=>by
  induction l using zL with
  |nil=>exists h
  |cons e l=>have h':(notStar e&&chk Z G a e&&ft Z G as l)=Δ:=h;simp only[d_]at h';refine mX (fX (snd a X ex G e g h'.1.2).1 (nH as X ex G l g h'.2) (dN h'.1.1 _ _)) fun σ H Q ⟨S,τ,hs,q⟩=>?_;refine fI (.refl _) hs.left (PO'.bnd q) fun x v H1 e1 _ m1 q1=>?_;refine nD e1 hs.right (PO'.bnd q1) fun ds vs H2 e2 e2' m2 q2=>?_;exact q2.ok _ _ e2 (.cons (m1.later e2') m2)
theorem xq:∀(o:Option IR) (X:Cx) (ex:Str->Prop) (G:Gm) (e:Option Expr),GOk Z CX cl xp X ex G->p8 Z G o e=Δ->PO X e (ROp X.K ex (ub o) (nj cl o))
 |none,X,ex,G,e,g,h=>by
  induction e using zO with
  |none=>intro pins s σ H Q I ⟨S,τ,hs,q⟩;exact wC pins s σ H Q I (q.ok H (.refl _))
  |some _=>exists h
 |some a,X,ex,G,e,g,h=>by
  induction e using zO with
  |none=>exists h
  |some e=>
   intro pins s σ H Q I ⟨S,τ,hs,q⟩;refine wD (snd a X ex G e g h).1 pins s σ H Q I ?_;refine fI (.refl _) hs (PO'.bnd q) fun x v H1 e1 _ m1 q1=>?_
   induction x using zD with
   |int i=>cases m1.intR;exact⟨i,rfl,q1.ok _ e1⟩
   |_=>exact q1.no.elim
theorem uB:∀(as:List IR) (X:Cx) (ex:Str->Prop) (G:Gm) (l:List Expr),GOk Z CX cl xp X ex G->ft Z G as l=Δ->PTs X l (RT X.K ex (cw as) (iM cl as))
 |[],X,ex,G,l,g,h=>by
  induction l using zL with
  |nil=>intro pins s σ H Q I ⟨S,τ,hs,q⟩;exact wJ pins s σ H Q I (q.ok H (.refl _))
  |cons _ _=>exists h
 |a::as,X,ex,G,l,g,h=>by
  induction l using zL with
  |nil=>exists h
  |cons e l=>
   have h':(notStar e&&chk Z G a e&&ft Z G as l)=Δ:=h;simp only[d_]at h';intro pins s σ H Q I ⟨S,τ,hs,q⟩;refine tV (snd a X ex G e g h'.1.2).2 (uB as X ex G l g h'.2) pins s σ H Q I ?_;refine lJ (.refl _) hs.left (PO'.bnd q) fun r H2 e2 _ k=>?_
   induction r using zB with
   |true=>rw[c_ rfl]at k ⊢;exact lJ e2 hs.right k fun b H3 e3 _ z=>z H3 e3
   |false=>rw[b_ EC]at k ⊢;exact k.ok H2 e2
theorem uC:∀(s:Sr) (X:Cx) (ex:Str->Prop) (G:Gm) (e tg:Expr),GOk Z CX cl xp X ex G->gU Z G s e=Δ->jq s tg=Δ->PI X tg e (RI X.K ex (jz s) (jA cl s))
 |.rng1 n,X,ex,G,e,tg,g,h,ht=>by
  induction e using zE with
  |Call fn args kws pos=>
   induction fn using zE with
   |Name x p=>
    match args,kws,h with
    |[a],[],h=>have h':(x == "range"&&G.gl.contains 15&&notStar a&&chk Z G n a)=Δ:=h;simp only[d_]at h';have e1:x = "range":=g_ h'.1.1.1;subst e1;exact AQ g h'.1.1.2 h'.1.2 (snd n X ex G a g h'.2).1
    |[],_,h=>exists h
    |[_],_::_,h=>exists h
    |_::_::_,_,h=>exists h
   |_=>exists h
  |_=>exists h
 |.val a,X,ex,G,e,tg,g,h,ht=>CL (snd a X ex G e g h).1
end
end
inductive Rps (K:Frag)(F:Ψ->Prop)(H:Hp):St->Ev->List Ψ->Prop where
 | nil:Rps K F H [] [] []
 | none {o:Option V}{σ:St}{τ:Ev}{f:List Ψ}:Rps K F H σ τ f->Rps K F H (o::σ) (.none::τ) f
 | some {v:V}{d:D}{f:List Ψ}{σ:St}{τ:Ev}{g:List Ψ}:MRep K F H v d f->Rps K F H σ τ g->Rps K F H (.some v::σ) (.some d::τ) (f++g)
section
variable {K:Frag}{F F':Ψ->Prop}{H H':Hp}{σ:St}{τ:Ev}{f:List Ψ}
theorem Rps.len:∀ {σ:St}{τ:Ev}{f:List Ψ},Rps K F H σ τ f->σ.length=τ.length
 |_,_,_,.nil=>rfl
 |_,_,_,.none h=>by rw[List.length_cons,List.length_cons,Rps.len h]
 |_,_,_,.some _ h=>by rw[List.length_cons,List.length_cons,Rps.len h]
theorem Rps.step (hl:∀a (u:LD),F a->Rd H a u.o->F' a/\Rd H' a u.o)(ht:∀a xs,SqE K H a xs->SqE K H' a xs):∀ {σ:St}{τ:Ev}{f:List Ψ},(∀a∈f,¬F a->H a≠Option.none->¬F' a/\H' a=H a)->Rps K F H σ τ f->Rps K F' H' σ τ f
 |_,_,_,_,.nil=>.nil
 |_,_,_,k,.none h=>.none (Rps.step hl ht k h)
 |_,_,_,k,.some m h=>.some (m.step hl ht fun a ha=>k a (k_ _ ha)) (Rps.step hl ht (fun a ha=>k a (m_ _ ha)) h)
theorem Rps.own:∀ {σ:St}{τ:Ev}{f:List Ψ},Rps K F H σ τ f->∀a∈f,¬F a/\∃u,H a=.some u
 |_,_,_,.nil=>fun _ h=>absurd h (by simp)
 |_,_,_,.none h=>Rps.own h
 |_,_,_,.some m h=>fun a ha=>by
  rcases u_.mp ha with ha|ha
  ·exact m.own a ha
  ·exact Rps.own h a ha
theorem gG {o:Option D}{τ:Ev}{i:Nat}:cq (o::τ) (i+1)=cq τ i:=by unfold cq;simp
theorem gN {o:Option D}{τ:Ev}:cq (o::τ) 0=o:=by unfold cq;simp
theorem Rps.at:∀ {σ:St}{τ:Ev}{f:List Ψ}{i:Nat}{d:D},Rps K F H σ τ f->cq τ i=.some d->∃v fv g,σ[i]? = .some (.some v)/\MRep K F H v d fv/\Rps K F H σ (τ.set i .none) g/\f.Perm (fv++g)
 |_,_,_,i,d,.nil,h=>by simp[cq]at h
 |_,_,_,0,d,.none _,h=>by rw[gN]at h;cases h
 |_,_,_,0,d,.some m h',h=>by rw[gN]at h;cases h;exact⟨_,_,_,rfl,m,.none h',.refl _⟩
 |_,_,_,i+1,d,.none h',h=>by rw[gG]at h;obtain⟨v,fv,g,h1,h2,h3,h4⟩:=Rps.at h' h;exact⟨v,fv,g,by simpa using h1,h2,.none h3,h4⟩
 |_,_,_,i+1,d,.some (f:=f0) m h',h=>by rw[gG]at h;obtain⟨v,fv,g,h1,h2,h3,h4⟩:=Rps.at h' h;refine⟨v,fv,f0++g,by simpa using h1,h2,.some m h3,?_⟩;refine(EW f0 h4).trans ?_;rw[<- o_,<- o_];exact List.Perm.append_right g EU
theorem Rps.put:∀ {σ:St}{τ:Ev}{f:List Ψ} (i:Nat) {v:V}{d:D}{fv:List Ψ},Rps K F H σ τ f->MRep K F H v d fv->∃g h,Rps K F H (σ.set i (.some v)) (τ.set i (.some d)) g/\(g++h).Perm (fv++f)
 |_,_,_,i,v,d,fv,.nil,m=>⟨[],_,.nil,.refl _⟩
 |_,_,_,0,v,d,fv,.none h,m=>⟨_,[],.some m h,by rw[D_]⟩
 |_,_,_,0,v,d,fv,.some (f:=f0) (g:=g0) m' h,m=>⟨_,f0,.some m h,by rw[o_];exact EW _ EU⟩
 |_,_,_,i+1,v,d,fv,.none h,m=>by obtain⟨g,h',h1,h2⟩:=Rps.put i h m;exact⟨g,h',.none h1,h2⟩
 |_,_,_,i+1,v,d,fv,.some (f:=f0) (g:=g0) m' h,m=>by obtain⟨g,h',h1,h2⟩:=Rps.put i h m;refine⟨f0++g,h',.some m' h1,?_⟩;rw[o_];refine(EW f0 h2).trans ?_;rw[<- o_,<- o_];exact List.Perm.append_right g0 EU
theorem Rps.slots {S:Ψ->Prop}{is:List Nat}(h:Rps K F H σ τ f)(hF:∀a,F a->S a)(hf:∀a∈f,S a):Slots K S H σ τ is:=fun i hi d z=>by obtain⟨v,fv,g,h1,h2,h3,h4⟩:=h.at z;exact⟨v,h1,h2.read hF fun a ha=>hf a (h4.mem_iff.mpr (k_ _ ha))⟩
theorem Rps.freeze (is:List Nat):∀ {σ:St}{τ:Ev}{f:List Ψ} (k:Nat),Rps K F H σ τ f->∃fi g,f.Perm (fi++g)/\(∀F':Ψ->Prop,(∀a,F a->F' a)->(∀a∈fi,F' a)->(∀a∈g,¬F a->¬F' a)->Rps K F' H σ (jT is k τ) g)/\
  ∀F':Ψ->Prop,(∀a,F a->F' a)->(∀a∈fi,F' a)->∀i,is.contains (k+i)=Δ->∀d,cq τ i=.some d->∃v,σ[i]? = .some (.some v)/\HRep K F' H v d
 |_,_,_,k,.nil=>⟨[],[],.refl _,fun _ _ _ _=>.nil,fun _ _ _ i _ d z=>by simp[cq]at z⟩
 |_,_,_,k,.none h=>by
  obtain⟨fi,g,h1,h2,h3⟩:=Rps.freeze is (k+1) h;refine⟨fi,g,h1,fun F' a b c=>?_,fun F' a b i hi d z=>?_⟩
  ·unfold jT;have e:(if is.contains k=Δ then Option.map er (Option.none:Option D) else Option.none)=Option.none:=by split<;>rfl
   rw[e];exact .none (h2 F' a b c)
  ·cases i with
   |zero=>rw[gN]at z;cases z
   |succ i=>rw[gG]at z;obtain⟨v,q1,q2⟩:=h3 F' a b i (by rw[show k+1+i=k+(i+1) by omega];exact hi) d z;exact⟨v,by simpa using q1,q2⟩
 |_,_,_,k,.some (v:=v) (d:=d0) (f:=f0) (g:=g0) m h=>by
  obtain⟨fi,g,h1,h2,h3⟩:=Rps.freeze is (k+1) h;by_cases hc:is.contains k=Δ
  ·refine⟨f0++fi,g,by rw[o_];exact EW _ h1,fun F' a b c=>?_,fun F' a b i hi d z=>?_⟩
   ·unfold jT;rw[c_ hc];exact .some (f:=[]) ((m.read a fun x hx=>b x (k_ _ hx)).frozen) (h2 F' a (fun x hx=>b x (m_ _ hx)) c)
   ·cases i with
    |zero=>rw[gN]at z;cases z;exact⟨v,rfl,m.read a fun x hx=>b x (k_ _ hx)⟩
    |succ i=>rw[gG]at z;obtain⟨v,q1,q2⟩:=h3 F' a (fun x hx=>b x (m_ _ hx)) i (by rw[show k+1+i=k+(i+1) by omega];exact hi) d z;exact⟨v,by simpa using q1,q2⟩
  ·refine⟨fi,f0++g,?_,fun F' a b c=>?_,fun F' a b i hi d z=>?_⟩
   ·refine(EW f0 h1).trans ?_;rw[<- o_,<- o_];exact List.Perm.append_right g EU
   ·unfold jT;rw[b_ hc];exact .some (m.step (fun x xs q r=>⟨a x q,r⟩) (fun x xs q=>q) fun x hx n _=>⟨c x (k_ _ hx) n,rfl⟩) (h2 F' a b fun x hx=>c x (m_ _ hx))
   ·cases i with
    |zero=>exact absurd hi hc
    |succ i=>rw[gG]at z;obtain⟨v,q1,q2⟩:=h3 F' a b i (by rw[show k+1+i=k+(i+1) by omega];exact hi) d z;exact⟨v,by simpa using q1,q2⟩
end
structure Stp (F:Ψ->Prop)(H:Hp)(f:List Ψ)(F':Ψ->Prop)(H':Hp):Prop where
 same:dO H H'
 inn:∀a,F a->F' a
 out:∀a,F' a->F a∨a∈f∨H a=Ξ
structure Ow (K:Frag)(F:Ψ->Prop)(H:Hp)(f:List Ψ)(F':Ψ->Prop)(H':Hp)(σ:St)(v:V)(d:D)(fv:List Ψ)(τ':Ev)(f':List Ψ):Prop where
 stp:Stp F H f F' H'
 fok:FOk F' H'
 rep:MRep K F' H' v d fv
 rps:Rps K F' H' σ τ' f'
 nod:(fv++f').Nodup
 mem:∀a∈fv++f',a∈f∨H a=Ξ
structure Ows (K:Frag)(F:Ψ->Prop)(H:Hp)(f:List Ψ)(F':Ψ->Prop)(H':Hp)(σ:St)(v:List V)(d:List D)(fv:List Ψ)(τ':Ev)(f':List Ψ):Prop where
 stp:Stp F H f F' H'
 fok:FOk F' H'
 rep:MReps K F' H' v d fv
 rps:Rps K F' H' σ τ' f'
 nod:(fv++f').Nodup
 mem:∀a∈fv++f',a∈f∨H a=Ξ
section
variable {K:Frag}{F F' F'':Ψ->Prop}{H H' H'':Hp}{f f':List Ψ}
theorem Stp.refl:Stp F H f F H:=⟨.refl _,fun _ h=>h,fun _ h=>.inl h⟩
theorem Stp.trans (a:Stp F H f F' H')(b:Stp F' H' f' F'' H'')(hf:∀x∈f',x∈f∨H x=Ξ):Stp F H f F'' H'':=⟨a.same.trans b.same,fun x h=>b.inn x (a.inn x h),fun x h=>by
 rcases b.out x h with h|h|h
 ·exact a.out x h
 ·rcases hf x h with h|h
  ·exact .inr (.inl h)
  ·exact .inr (.inr h)
 ·exact .inr (.inr (a.same.free h))⟩
theorem MRep.stp {v:V}{d:D}{fv:List Ψ}(m:MRep K F H v d fv)(s:Stp F H f F' H')(h:∀a∈fv,a∉f):MRep K F' H' v d fv:=
 m.step (fun a xs q r=>⟨s.inn a q,s.same.rd r⟩) (fun a xs q=>s.same.seqT q) fun a ha n hn=>by
  obtain⟨_,xs,e⟩:=m.own a ha;refine⟨fun z=>?_,(s.same _ _ e).trans e.symm⟩;rcases s.out a z with z|z|z
  ·exact n z
  ·exact h a ha z
  ·exact hn z
theorem MReps.stp {v:List V}{d:List D}{fv:List Ψ}(m:MReps K F H v d fv)(s:Stp F H f F' H')(h:∀a∈fv,a∉f):MReps K F' H' v d fv:=
 m.step (fun a xs q r=>⟨s.inn a q,s.same.rd r⟩) (fun a xs q=>s.same.seqT q) fun a ha n hn=>by
  obtain⟨_,xs,e⟩:=m.own a ha;refine⟨fun z=>?_,(s.same _ _ e).trans e.symm⟩;rcases s.out a z with z|z|z
  ·exact n z
  ·exact h a ha z
  ·exact hn z
end
def RO (K:Frag)(ex:Str->Prop)(g:Ev->Res (D×Ev)):TE:=fun σ H Q=>∃F τ f,FOk F H/\Rps K F H σ τ f/\f.Nodup/\PO' ex (g τ) fun p=>∀v H' F' fv f',Ow K F H f F' H' σ v p.1 fv p.2 f'->Q v H'
def ROs (K:Frag)(ex:Str->Prop)(g:Ev->Res (List D×Ev)):TA:=fun σ H Q=>∃F τ f,FOk F H/\Rps K F H σ τ f/\f.Nodup/\PO' ex (g τ) fun p=>∀v H' F' fv f',Ows K F H f F' H' σ v p.1 fv p.2 f'->Q v H'
abbrev Kn (K:Frag)(S:Ψ->Prop)(H:Hp)(Q:VK):List D->Prop:=fun ds=>∀p ys H',dO H H'->H p=Ξ->H' p=Γ (.lst ys)->HReps K (fun a=>nw S H a/\a≠p) H' ys ds->Q (.ref p) H'
def RN (K:Frag)(ex:Str->Prop)(is:List Nat)(f:Ev->Res (List D)):TE:=fun σ H Q=>∃S τ,Slots K S H σ τ is/\PO' ex (f τ) (Kn K S H Q)
def jd (K:Frag)(H H':Hp)(p:Ψ)(ys:List V)(ds:List D):Prop:=ds.all prD=Δ->∃f,MReps K (fun _=>False) H' ys (ds.map kg) f/\f.Nodup/\∀a∈f,H a=Ξ/\a≠p
def RNP (K:Frag)(ex:Str->Prop)(is:List Nat)(f:Ev->Res (List D)):TE:=fun σ H Q=>∃S τ,Slots K S H σ τ is/\PO' ex (f τ) fun ds=>∀p ys H',dO H H'->H p=Ξ->H' p=Γ (.lst ys)->HReps K (fun a=>nw S H a/\a≠p) H' ys ds->jd K H H' p ys ds->Q (.ref p) H'
theorem mC:∀ {ds:List D},ds.all prD=Δ->fF (ds.map kg)=Δ
 |[],_=>rfl
 |d::ds,h=>by
  rw[List.all_cons,d_]at h;show(fB (kg d)&&fF (ds.map kg))=Δ;rw[mC h.2,Bool.and_true];have h1:=h.1;unfold prD at h1;split at h1
  ·rename_i x o r
   rw[d_]at h1;show(fB x&&(fB (.lst Δ r)&&Δ))=Δ;rw[qH h1.1,Bool.and_true,Bool.true_and];show(Δ&&fF r)=Δ;rw[fG h1.2];rfl
  ·cases h1
noncomputable def gJ:D->Res (List D)
 |.lst _ ds=>.ok ds
 |_=>stk
section
variable {K:Frag}{F F':Ψ->Prop}{H H':Hp}{σ:St}{τ:Ev}{f:List Ψ}{ex:Str->Prop}{S:Ψ->Prop}
theorem sS {vs ws:List V}{ds:List D}{p:Ψ}{H2:Hp}(m:HReps K (nw S H) H2 vs ds)(hp:H2 p=Ξ):HReps K (fun a=>nw S H a/\a≠p) (upd H2 p (.lst ws)) vs ds:=
 m.step (fun a xs h r=>by
  have hne:a≠p:=fun z=>r.some (by rw[z];exact hp);refine⟨⟨h,hne⟩,?_⟩;unfold Rd;rw[dM hne]
  exact r) fun a xs h=>(dO.upd hp).seqT h
theorem grow (P:Ψ->Prop)(fok:FOk F H)(r:Rps K F H σ τ f)(e:dO H H') :
  FOk (fun a=>F a∨(P a/\H a=Ξ/\H' a≠Ξ)) H'/\Rps K (fun a=>F a∨(P a/\H a=Ξ/\H' a≠Ξ)) H' σ τ f/\Stp F H f (fun a=>F a∨(P a/\H a=Ξ/\H' a≠Ξ)) H':=by
 refine⟨fun a h=>?_,r.step (fun a xs q rd=>⟨.inl q,e.rd rd⟩) (fun a xs q=>e.seqT q) fun a ha n hn=>⟨fun z=>?_,?_⟩,⟨e,fun a h=>.inl h,fun a h=>?_⟩⟩
 ·rcases h with h|h
  ·intro z;exact fok a h (e.free z)
  ·exact h.2.2
 ·rcases z with z|z
  ·exact n z
  ·exact hn z.2.1
 ·obtain⟨_,xs,q⟩:=r.own a ha;exact(e _ _ q).trans q.symm
 ·rcases h with h|h
  ·exact .inl h
  ·exact .inr (.inr h.2.1)
theorem jf (fok:FOk F H)(r:Rps K F H σ τ f)(e:dO H H'):FOk F H'/\Rps K F H' σ τ f/\Stp F H f F H':=by refine⟨fun a h z=>fok a h (e.free z),r.step (fun a xs q rd=>⟨q,e.rd rd⟩) (fun a xs q=>e.seqT q) fun a ha n hn=>⟨n,?_⟩,⟨e,fun a h=>h,fun a h=>.inl h⟩⟩;obtain⟨_,xs,q⟩:=r.own a ha;exact(e _ _ q).trans q.symm
theorem iV (is:List Nat)(fok:FOk F H)(r:Rps K F H σ τ f)(nd:f.Nodup):∃F1 g,FOk F1 H/\Rps K F1 H σ (frz is τ) g/\g.Nodup/\Stp F H f F1 H/\(∀a∈g,a∈f)/\Slots K F1 H σ τ is:=by
 obtain⟨fi,g,h1,h2,h3⟩:=r.freeze is 0;have nd':(fi++g).Nodup:=h1.nodup_iff.mp nd;have dis:∀a∈g,a∉fi:=fun a ha hb=>(h_.mp nd').2.2 a hb a ha rfl;have inF:∀a∈fi,a∈f:=fun a ha=>h1.mem_iff.mpr (k_ _ ha);have inG:∀a∈g,a∈f:=fun a ha=>h1.mem_iff.mpr (m_ _ ha);refine⟨fun a=>F a∨a∈fi,g,fun a h=>?_,h2 _ (fun a h=>.inl h) (fun a h=>.inr h) (fun a ha n z=>?_),(h_.mp nd').2.1,⟨.refl _,fun a h=>.inl h,fun a h=>?_⟩,inG,fun i hi d z=>?_⟩
 ·rcases h with h|h
  ·exact fok a h
  ·obtain⟨_,xs,q⟩:=r.own a (inF a h);rw[q];simp
 ·rcases z with z|z
  ·exact n z
  ·exact dis a ha z
 ·rcases h with h|h
  ·exact .inl h
  ·exact .inr (.inl (inF a h))
 ·exact h3 _ (fun a h=>.inl h) (fun a h=>.inr h) i (by simpa using hi) d z
theorem gh {is:List Nat}(r:Rps K F H σ τ f):Slots K (fun _=>True) H σ τ is:=r.slots (fun _ _=>trivial) fun _ _=>trivial
theorem HRep.fix {v:V}{d:D}(m:HRep K (L2.nw F H) H' v d):HRep K (fun a=>F a∨(True/\H a=Ξ/\H' a≠Ξ)) H' v d:=m.step (fun a xs h r=>⟨h.elim (fun z=>.inl z) fun z=>.inr ⟨trivial,z,r.some⟩,r⟩) fun a xs h=>h
end
section
variable {X:Cx}{ex:Str->Prop}{cl:Nat->List D->Res D}
theorem o_v {i:Nat}{e:Expr}(he:PE X e (wm i))(mv:Bool):PE X e (RO X.K ex (evO cl mv (.v i))):=by
 refine fm he fun σ H Q ⟨F,τ,f,fok,r,nd,q⟩=>?_;rw[Cp]at q;cases z:cq τ i with
 |none=>rw[z]at q;exact q.no.elim
 |some d=>
  rw[z]at q;obtain⟨v,fv,g,h1,h2,h3,h4⟩:=r.at z;have nd':(fv++g).Nodup:=h4.nodup_iff.mp nd
  induction mv using zB with
  |true=>have q':=(show PO' ex (.ok (d,τ.set i Ξ):Res (D×Ev)) _ from q).ok;exact⟨v,h1,q' v H F fv g ⟨.refl,fok,h2,h3,nd',fun a ha=>.inl (h4.mem_iff.mpr ha)⟩⟩
  |false=>
   have q':=(show PO' ex (.ok (er d,τ.set i (Γ (er d))):Res (D×Ev)) _ from q).ok;have dis:∀a∈g,a∉fv:=fun a ha hb=>(h_.mp nd').2.2 a hb a ha rfl;have m1:MRep X.K (fun a=>F a∨a∈fv) H v (er d) []:=(h2.read (fun a h=>.inl h) (fun a h=>.inr h)).frozen;have r1:Rps X.K (fun a=>F a∨a∈fv) H σ (τ.set i Ξ) g:=h3.step (fun a xs h r=>⟨.inl h,r⟩) (fun a xs h=>h) fun a ha n _=>⟨fun z=>z.elim n (dis a ha),rfl⟩
   obtain⟨g',h',r2,p2⟩:=r1.put i m1;have hσ:σ.set i (Γ v)=σ:=by
    apply List.ext_getElem?;intro j;rw[List.getElem?_set];by_cases hj:i=j
    ·subst hj;have hlt:i < σ.length:=(B_.mp h1).1;rw[c_ rfl,c_ hlt,h1]
    ·rw[b_ hj]
   rw[hσ,List.set_set]at r2;rw[List.nil_append]at p2;have nd2:(g'++h').Nodup:=p2.nodup_iff.mpr (h_.mp nd').2.1;refine⟨v,h1,q' v H _ [] g' ⟨⟨.refl _,fun a h=>.inl h,fun a h=>?_⟩,fun a h=>?_,m1,r2,(h_.mp nd2).1,fun a ha=>?_⟩⟩
   ·exact h.elim (fun z=>.inl z) fun z=>.inr (.inl (h4.mem_iff.mpr (k_ _ z)))
   ·rcases h with h|h
    ·exact fok a h
    ·obtain⟨_,xs,e⟩:=h2.own a h;rw[e];simp
   ·have:a∈g:=p2.mem_iff.mp (k_ _ (by simpa using ha));exact .inl (h4.mem_iff.mpr (m_ _ this))
theorem o_tup {l:List Expr}{n:Nat}{pos:Pos}{g:Ev->Res (List D×Ev)}(h:PA X l (ROs X.K ex g)):PE X (.Tuple l n pos) (RO X.K ex fun τ=>bnd (g τ) fun p=>grd (f7 p.1.length) (.ok (.tup p.1,p.2))):=by
 refine fm (mR h) fun σ H Q ⟨F,τ,f,fok,r,nd,q⟩=>⟨F,τ,f,fok,r,nd,(PO'.bnd q).mono fun p hp vs H1 F1 fv f1 o=>?_⟩
 obtain⟨gd,hp⟩:=PO'.grd hp;refine⟨by rw[o.rep.length];exact fR gd,fun p' hp'=>hp.ok _ _ F1 fv f1 ?_⟩;have e:dO H1 (upd H1 p' (.tup vs)):=.upd hp';obtain⟨k1,k2,k3⟩:=jf o.fok o.rps e;refine⟨o.stp.trans k3 (fun x hx=>o.mem x (m_ _ hx)),k1,.tup (.inl (.inl dP)) (o.rep.stp k3 fun a ha hb=>(h_.mp o.nod).2.2 a ha a hb rfl),k2,o.nod,o.mem⟩
theorem o_lst {l:List Expr}{pos:Pos}{g:Ev->Res (List D×Ev)}(h:PA X l (ROs X.K ex g)):PE X (.List l pos) (RO X.K ex fun τ=>bnd (g τ) fun p=>grd (f7 p.1.length) (.ok (.lst Δ p.1,p.2))):=by
 refine fm (mS h) fun σ H Q ⟨F,τ,f,fok,r,nd,q⟩=>⟨F,τ,f,fok,r,nd,(PO'.bnd q).mono fun p hp vs H1 F1 fv f1 o=>?_⟩
 obtain⟨gd,hp⟩:=PO'.grd hp;refine⟨by rw[o.rep.length];exact fR gd,fun p' hp'=>hp.ok _ _ F1 (p'::fv) f1 ?_⟩;have e:dO H1 (upd H1 p' (.lst vs)):=.upd hp';obtain⟨k1,k2,k3⟩:=jf o.fok o.rps e;refine⟨o.stp.trans k3 (fun x hx=>o.mem x (m_ _ hx)),k1,.lstO (fun z=>o.fok _ z hp') dP (o.rep.stp k3 fun a ha hb=>(h_.mp o.nod).2.2 a ha a hb rfl),k2,?_,fun a ha=>?_⟩
 ·rw[e_,y_];refine⟨fun z=>?_,o.nod⟩;rcases u_.mp z with z|z
  ·obtain⟨_,xs,e⟩:=o.rep.own _ z;rw[hp']at e;cases e
  ·obtain⟨_,xs,e⟩:=o.rps.own _ z;rw[hp']at e;cases e
 ·rw[e_]at ha;rcases j_.mp ha with rfl|ha
  ·exact .inr (o.stp.same.free hp')
  ·exact o.mem a ha
theorem AS:PA X [] (ROs X.K ex fun τ=>.ok ([],τ)):=mX gW fun σ H Q ⟨F,τ,f,fok,r,nd,q⟩=>q.ok [] H F [] f ⟨.refl,fok,.nil,r,nd,fun a ha=>.inl ha⟩
theorem xr {e:Expr}{l:List Expr}{ga:Ev->Res (D×Ev)}{gs:Ev->Res (List D×Ev)}(hn:notStar e=Δ)(ha:PE X e (RO X.K ex ga))(hr:PA X l (ROs X.K ex gs)) :
  PA X (e::l) (ROs X.K ex fun τ=>bnd (ga τ) fun p=>bnd (gs p.2) fun q=>.ok (p.1::q.1,q.2)):=by
 refine mX (fX ha hr (dN hn _ _)) fun σ H Q ⟨F,τ,f,fok,r,nd,q⟩=>⟨F,τ,f,fok,r,nd,(PO'.bnd q).mono fun p hp v H1 F1 fv f1 o=>?_⟩
 refine⟨F1,p.2,f1,o.fok,o.rps,(h_.mp o.nod).2.1,(PO'.bnd hp).mono fun p' hp' vs H2 F2 fvs f2 o2=>?_⟩;have dis:∀a∈fv,a∉f1:=fun a h1 h2=>(h_.mp o.nod).2.2 a h1 a h2 rfl;have m2:=o.rep.stp o2.stp dis;refine hp'.ok (v::vs) H2 F2 (fv++fvs) f2 ⟨o.stp.trans o2.stp (fun x hx=>o.mem x (m_ _ hx)),o2.fok,.cons m2 o2.rep,o2.rps,?_,fun a ha=>?_⟩
 ·rw[o_];refine h_.mpr ⟨(h_.mp o.nod).1,o2.nod,fun a h1 b h2 e=>?_⟩;subst e;rcases o2.mem a h2 with z|z
  ·exact dis a h1 z
  ·obtain⟨_,xs,e⟩:=o.rep.own a h1;rw[z]at e;cases e
 ·rw[o_]at ha;rcases u_.mp ha with ha|ha
  ·exact o.mem a (k_ _ ha)
  ·rcases o2.mem a ha with z|z
   ·exact o.mem a (m_ _ z)
   ·exact .inr (o.stp.same.free z)
end
section
variable {Z:Sg}{CX:CXT}{cl:Nat->List D->Res D}{xp:XK->Hp->Str->Prop}{X:Cx}{ex:Str->Prop}{G:Gm}
def spP (K:Frag)(ex:Str->Prop)(cl:Nat->List D->Res D)(f:Nat)(vs:List V)(H:Hp)(Q:VK):Prop:=∃F ds,FOk F H/\HReps K F H vs ds/\PO' ex (cl f (ers ds)) fun d=>∀v H' F' fv,Out K F H F' H' v d fv->Q v H'
theorem uD (g:GOk Z CX cl xp X ex G){f:Nat}{x:Str}{p pos:Pos}{es:List IR}{args:List Expr}{t:TA}(h1:jo Z G f x=Δ)(h2:Z.fnc G f=Δ)(hst:ft Z G es args=Δ)(h:PA X args t)
  (h0:args=[]->∀σ H (Q:List V->Hp->Prop),t σ H Q->Q [] H):PE X (.Call (.Name x p) args [] pos) (fun σ H Q=>t σ H fun vs H1=>spP X.K ex cl f vs H1 Q):=by
 obtain⟨k1,k2,k3,k4⟩:=qU g h1;obtain⟨k,fa',fd,ps,hm,hkp,hb,F,hr,hlen⟩:=(g.fns f (nB h2).1 (nB h2).2 x k2).ex;obtain⟨E,hP,hE⟩:=g.exs;intro pins s σ H Q I q;have fin:∀(us:List Φ) (s1:Ω) (vs:List V) (H1:Hp),Inv X pins σ H1 s1->Vals vs us->spP X.K ex cl f vs H1 Q->Ι (Κ X.prog X.w) X.A (call (.ref fa') us) (EP X pins σ Q) X.xe s1:=by
  intro us s1 vs H1 I1 r ⟨Fc,ds,fok,m,q1⟩;have hl:=hlen ex _ _ q1;rw[gk]at hl;refine qT F hr hb hP g.hid I1 r (by rw[m.length];exact hl) fok m ?_;cases z:cl f (ers ds) with
  |error er=>
   rw[z]at q1;cases er with
   |stuck=>exact q1.no.elim
   |exc c=>exact hE c _ q1
  |ok d=>rw[z]at q1;exact q1.ok
 refine E1 (kh I k1 hm ?_ k4)
 induction args using zL with
 |nil=>
  induction es using zL with
  |cons _ _=>cases hst
  |nil=>exact PySem.W.callWith_K0 I.kIn hkp (fin [] s [] H I .nil (h0 rfl σ H _ q))
 |cons e l=>
  induction es using zL with
  |nil=>cases hst
  |cons a es=>have hst':(notStar e&&chk Z G a e&&ft Z G es l)=Δ:=hst;simp only[d_]at hst';refine PySem.W.callWith_K (h₀:=X.base) I.ok.mod.kin hkp (thn (h pos pins s σ H _ I q) fun us s1 ⟨vs,H1,I1,r,q1⟩=>⟨I1.kIn,?_⟩) (dN hst'.1.1 l X.env) (gH Z G (es:=es) pos X.env hst'.2);exact fin us s1 vs H1 I1 r q1
theorem o_call (g:GOk Z CX cl xp X ex G){f:Nat}{x:Str}{p pos:Pos}{es:List IR}{args:List Expr}(h1:jo Z G f x=Δ)(h2:Z.fnc G f=Δ)(hst:ft Z G es args=Δ)(mv:Bool) :
  PE X (.Call (.Name x p) args [] pos) (RO X.K ex (evO cl mv (.call f es))):=by
 have pa:=nH es X ex G args g hst
 have pe:=uD (p:=p) (pos:=pos) g h1 h2 hst pa (fun e σ H Q ⟨S,τ,hs,q⟩=>by
  subst e
  induction es using zL with
  |nil=>exact q.ok [] H (.refl _) .nil
  |cons _ _=>cases hst)
 refine fm pe fun σ H Q ⟨F,τ,fo,fok,r,nd,q⟩=>?_;have q':PO' ex (bnd (fy cl es τ) fun ds=>bnd (cl f (ers ds)) fun d=>if fB d=Δ then .ok (d,τ) else .ok (d,frz (cw es) τ)) (fun p=>∀v H' F' fv f',Ow X.K F H fo F' H' σ v p.1 fv p.2 f'->Q v H'):=q
 -- read without giving up
 have borrow:(∀ds,fy cl es τ=.ok ds->PO' ex (cl f (ers ds)) fun d=>fB d=Δ/\∀v H' F' fv f',Ow X.K F H fo F' H' σ v d fv τ f'->Q v H')->PO' ex (fy cl es τ) (fun _=>True)->RA X.K ex (cw es) (fy cl es) σ H (fun vs H1=>spP X.K ex cl f vs H1 Q):=by intro hk hok;refine nD (.refl _) (gh r) hok.eq fun ds vs H1 e1 _ m1 q1=>?_;refine⟨fun a=>H1 a≠Ξ,ds,fun a h=>h,m1.step (fun a xs h rd=>⟨rd.some,rd⟩) fun a xs h=>h,(hk ds q1.1).mono fun d hd v H' F' fv o=>?_⟩;obtain⟨k1,k2,k3⟩:=jf fok r (e1.trans o.same);have nw:∀a∈fv,H a=Ξ:=fun a ha=>e1.free (o.new a ha);refine hd.2 v H' F fv fo ⟨k3,k1,o.rep.aownF hd.1 fun a ha z=>fok a z (nw a ha),k2,h_.mpr ⟨o.nod,nd,fun a h1 b h2 e=>?_⟩,fun a ha=>(u_.mp ha).elim (fun z=>.inr (nw a z)) .inl⟩;subst e;obtain⟨_,u,hu⟩:=r.own a h2;rw[nw a h1]at hu;cases hu
 cases z:fy cl es τ with
 |error er=>
  rw[z]at q';cases er with
  |stuck=>exact q'.no.elim
  |exc c=>exact borrow (fun ds h=>by rw[z]at h;cases h) (by rw[z];exact q')
 |ok ds=>
  rw[z]at q';have q1:PO' ex (bnd (cl f (ers ds)) fun d=>if fB d=Δ then .ok (d,τ) else .ok (d,frz (cw es) τ)) (fun p=>∀v H' F' fv f',Ow X.K F H fo F' H' σ v p.1 fv p.2 f'->Q v H'):=q';cases zc:cl f (ers ds) with
  |error er=>
   rw[zc]at q1;cases er with
   |stuck=>exact q1.no.elim
   |exc c=>exact borrow (fun ds' h=>by rw[z]at h;cases h;rw[zc];exact q1) (by rw[z];trivial)
  |ok d=>
   rw[zc]at q1;have q2:PO' ex (if fB d=Δ then .ok (d,τ) else .ok (d,frz (cw es) τ)) (fun p=>∀v H' F' fv f',Ow X.K F H fo F' H' σ v p.1 fv p.2 f'->Q v H'):=q1;by_cases hl:fB d=Δ
   ·rw[c_ hl]at q2;exact borrow (fun ds' h=>by rw[z]at h;cases h;rw[zc];exact⟨hl,q2.ok⟩) (by rw[z];trivial)
   ·rw[b_ hl]at q2;obtain⟨F1,gg,b1,b2,b3,b4,b5,b6⟩:=iV (cw es) fok r nd;refine nD (Kt:=fun ds'=>ds'=ds) (.refl _) b6 (by rw[z];rfl) fun ds' vs H1 e1 _ m1 e=>?_;subst e;have hm:HReps X.K (fun a=>F1 a∨(True/\H a=Ξ/\H1 a≠Ξ)) H1 vs ds':=m1.step (fun a xs h r=>⟨h.elim (fun z=>.inl z) fun z=>.inr ⟨trivial,z,r.some⟩,r⟩) fun a xs h=>h;obtain⟨c1,c2,c3⟩:=grow (fun _=>True) b1 b2 e1;refine⟨_,ds',c1,hm,?_⟩;rw[zc];intro v H' F' fv o;have s1:Stp (fun a=>F1 a∨(True/\H a=Ξ/\H1 a≠Ξ)) H1 gg F' H':=⟨o.same,o.inn,fun a h=>(o.out a h).elim (fun z=>.inl z) fun z=>.inr (.inr z)⟩
    have r2:Rps X.K F' H' σ (frz (cw es) τ) gg:=c2.step (fun a xs q rd=>⟨o.inn a q,o.same.rd rd⟩) (fun a xs q=>o.same.seqT q) fun a ha n hn=>by
     obtain⟨_,xs,e⟩:=c2.own a ha;refine⟨fun z=>?_,(o.same _ _ e).trans e.symm⟩;rcases o.out a z with z|z
     ·exact n z
     ·exact hn z
    refine q2.ok v H' F' fv gg ⟨(b4.trans c3 (fun x hx=>.inl (b5 x hx))).trans s1 (fun x hx=>.inl (b5 x hx)),o.fok,o.rep,r2,?_,fun a ha=>?_⟩
    ·refine h_.mpr ⟨o.nod,b3,fun a h1 b h2 e=>?_⟩;subst e;obtain⟨_,xs,e⟩:=c2.own a h2;rw[o.new a h1]at e;cases e
    ·rcases u_.mp ha with ha|ha
     ·exact .inr (e1.free (o.new a ha))
     ·exact .inl (b5 a ha)
theorem fZ {a:IR}{e:Expr}(he:PE X e (RD X.K ex (vars a) (evR cl a)))(hN:fU a=Δ->PE X e (RN X.K ex (vars a) fun τ=>bnd (evR cl a τ) gJ))(hP:∀ds,iI a ds=Δ->PE X e (RNP X.K ex (vars a) fun τ=>bnd (evR cl a τ) gJ):=by intro ds h;cases h):PE X e (RO X.K ex fun τ=>bnd (evR cl a τ) fun d=>.ok (fH a d τ)):=by
 intro pins s σ H Q I h;obtain⟨F,τ,fo,fok,r,nd,q⟩:=h
 replace q:PO' ex (bnd (evR cl a τ) fun d=>.ok (fH a d τ)) (fun p=>∀v H' F' fv f',Ow X.K F H fo F' H' σ v p.1 fv p.2 f'->Q v H'):=q
 have rd:RD X.K ex (vars a) (evR cl a) σ H Q->Ι (Κ X.prog X.w) X.A (eval e X.env) (EP X pins σ Q) X.xe s:=fun h=>he pins s σ H Q I h;cases z:evR cl a τ with
 |error er=>
  rw[z]at q;cases er with
  |stuck=>exact q.no.elim
  |exc c=>exact rd ⟨fun _=>True,τ,gh r,by rw[z];exact q⟩
 |ok d=>
  rw[z]at q;have q1:∀v H' F' fv f',Ow X.K F H fo F' H' σ v (fH a d τ).1 fv (fH a d τ).2 f'->Q v H':=q;by_cases hl:fE d=Δ
  ·unfold fH at q1;rw[c_ hl]at q1;refine rd ⟨fun _=>True,τ,gh r,?_⟩;rw[z];intro v H' e m;obtain⟨k1,k2,k3⟩:=jf fok r e;exact q1 v H' F [] fo ⟨k3,k1,m.free hl,k2,by simpa using nd,fun a ha=>.inl (by simpa using ha)⟩
  ·have other:fH a d τ=(er d,frz (vars a) τ)->Ι (Κ X.prog X.w) X.A (eval e X.env) (EP X pins σ Q) X.xe s:=fun hk=>by rw[hk]at q1;obtain⟨F1,gg,b1,b2,b3,b4,b5,b6⟩:=iV (vars a) fok r nd;refine rd ⟨F1,τ,b6,?_⟩;rw[z];intro v H' e m;obtain⟨c1,c2,c3⟩:=grow (fun _=>True) b1 b2 e;exact q1 v H' _ [] gg ⟨b4.trans c3 (fun x hx=>.inl (b5 x hx)),c1,m.fix.frozen,c2,by simpa using b3,fun a ha=>.inl (b5 a (by simpa using ha))⟩
   by_cases hn:fU a=Δ
   ·induction d using zD with
    |lst o ds=>
     by_cases hi:cA ds=Δ
     ·have hk:fH a (.lst o ds) τ=(.lst Δ ds,τ):=by unfold fH;rw[b_ hl,hn];show(if cA ds=Δ then _ else _)=_;rw[c_ hi]
      rw[hk]at q1;refine hN hn pins s σ H Q I ⟨fun _=>True,τ,gh r,?_⟩;show PO' ex (bnd (evR cl a τ) gJ) _;rw[z];intro p ys H' e hp hy m;obtain⟨k1,k2,k3⟩:=jf fok r e;refine q1 (.ref p) H' F [p] fo ⟨k3,k1,.lstO (fun zz=>fok p zz hp) hy (m.free hi),k2,?_,fun a ha=>?_⟩
      ·rw[ER,y_];refine⟨fun zz=>?_,nd⟩;obtain⟨_,xs,e⟩:=r.own p zz;rw[hp]at e;cases e
      ·rw[ER]at ha;rcases j_.mp ha with rfl|ha
       ·exact .inr hp
       ·exact .inl ha
     ·by_cases hw:iI a ds=Δ
      ·have hk:fH a (.lst o ds) τ=(.lst Δ (ds.map kg),τ):=by unfold fH;rw[b_ hl,hn];show(if cA ds=Δ then _ else if iI a ds=Δ then _ else _)=_;rw[b_ hi,c_ hw]
       rw[hk]at q1;refine hP ds hw pins s σ H Q I ⟨fun _=>True,τ,gh r,?_⟩;show PO' ex (bnd (evR cl a τ) gJ) _;rw[z];intro p ys H' e hp hy m np;have hall:ds.all prD=Δ:=by
        cases a with
        |comp _ _ _ _ _ elt=>exact(EA.mp hw).2
        |_=>cases hw
       obtain⟨fi,m1,m2,m3⟩:=np hall;obtain⟨k1,k2,k3⟩:=jf fok r e;have dis:∀b∈p::fi,b∉fo:=fun b hb hc=>by
        obtain⟨_,xs,e'⟩:=r.own b hc;rcases j_.mp hb with rfl|hb
        ·rw[hp]at e';cases e'
        ·rw[(m3 b hb).1]at e';cases e'
       refine q1 (.ref p) H' F (p::fi) fo ⟨k3,k1,.lstO (fun zz=>fok p zz hp) hy (m1.aownF (mC hall) fun b hb zz=>fok b zz (m3 b hb).1),k2,?_,fun b hb=>?_⟩
       ·exact h_.mpr ⟨y_.mpr ⟨fun zz=>(m3 p zz).2 rfl,m2⟩,nd,fun b h1 c h2 e'=>dis b h1 (e' ▸ h2)⟩
       ·rcases u_.mp hb with hb|hb
        ·rcases j_.mp hb with rfl|hb
         ·exact .inr hp
         ·exact .inr (m3 b hb).1
        ·exact .inl hb
      have hk:fH a (.lst o ds) τ=(.lst Δ (ers ds),frz (vars a) τ):=by unfold fH;rw[b_ hl,hn];show(if cA ds=Δ then _ else if iI a ds=Δ then _ else _)=_;rw[b_ hi,b_ hw]
      rw[hk]at q1;obtain⟨F1,gg,b1,b2,b3,b4,b5,b6⟩:=iV (vars a) fok r nd;refine hN hn pins s σ H Q I ⟨F1,τ,b6,?_⟩;show PO' ex (bnd (evR cl a τ) gJ) _;rw[z];intro p ys H' e hp hy m;obtain⟨c1,c2,c3⟩:=grow (fun a=>a≠p) b1 b2 e;have m2:HReps X.K (fun a=>F1 a∨(a≠p/\H a=Ξ/\H' a≠Ξ)) H' ys ds:=m.step (fun a xs h r=>⟨h.1.elim (fun z=>.inl z) fun z=>.inr ⟨h.2,z,r.some⟩,r⟩) fun a xs h=>h;refine q1 (.ref p) H' _ [p] gg ⟨b4.trans c3 (fun x hx=>.inl (b5 x hx)),c1,.lstO (fun zz=>?_) hy m2.frozen,c2,?_,fun a ha=>?_⟩
      ·rcases zz with zz|zz
       ·exact b1 p zz hp
       ·exact zz.1 rfl
      ·rw[ER,y_];refine⟨fun zz=>?_,b3⟩;obtain⟨_,xs,e⟩:=b2.own p zz;rw[hp]at e;cases e
      ·rw[ER]at ha;rcases j_.mp ha with rfl|ha
       ·exact .inr hp
       ·exact .inl (b5 a ha)
    |_=>refine other ?_;unfold fH;rw[b_ hl,hn]
   ·have hn':fU a=Θ:=by simpa using hn
    refine other ?_;unfold fH;rw[b_ hl,hn']
theorem CN {a b:Expr}{pos:Pos}{va vb:List Nat}{fa fb:Ev->Res D}(ha:PE X a (RD X.K ex va fa))(hb:PE X b (RD X.K ex vb fb)) :
  PE X (.BinOp a .Add b pos) (RN X.K ex (va++vb) fun τ=>bnd (bnd (fa τ) fun x=>bnd (fb τ) fun y=>opB .add x y) gJ):=by
 refine fm (qz qM ha hb) fun σ H Q ⟨S,τ,hs,q⟩=>?_;refine fI (.refl _) hs.left (PO'.bnd (PO'.bnd q)) fun x v H1 e1 _ m1 q1=>?_;refine fI e1 hs.right (PO'.bnd q1) fun y w H2 e2 e2' m2 q2=>?_;have stuck:∀ {P:Prop},opB .add x y=stk->P:=fun z=>by rw[z]at q2;exact q2.no.elim
 induction x using zD with
 |int a=>induction y using zD with
  |int b=>exact q2.ok.no.elim
  |_=>exact stuck rfl
 |str a=>induction y using zD with
  |str b=>exact(PO'.grd q2).2.ok.no.elim
  |_=>exact stuck rfl
 |lst o a=>induction y using zD with
  |lst o' b=>obtain⟨p,xs,rfl,h1,n1⟩:=m1.lstL;obtain⟨p',ys,rfl,h2,n2⟩:=m2.lstL;obtain⟨gd,q3⟩:=PO'.grd q2;have g':=fR gd;have l1:=n1.length;have l2:=n2.length;have h1':Ls X.K H2 p xs:=h1.elim (fun z=>.inl (e2'.rd z)) .inr;exact⟨p,p',xs,ys,rfl,rfl,h1',h2,by omega,fun z hz=>q3.ok.ok z _ _ (e2.trans (.upd hz)) (e2.free hz) dP (sS ((n1.later e2').append n2) hz)⟩
  |_=>exact stuck rfl
 |_=>exact stuck rfl
theorem CO {a b:Expr}{pos:Pos}{va vb:List Nat}{fa fb:Ev->Res D}(ha:PE X a (RD X.K ex va fa))(hb:PE X b (RD X.K ex vb fb)) :
  PE X (.BinOp a .Mult b pos) (RN X.K ex (va++vb) fun τ=>bnd (bnd (fa τ) fun x=>bnd (fb τ) fun y=>opB .mul x y) gJ):=by
 refine fm (qz qN ha hb) fun σ H Q ⟨S,τ,hs,q⟩=>?_;refine fI (.refl _) hs.left (PO'.bnd (PO'.bnd q)) fun x v H1 e1 _ m1 q1=>?_;refine fI e1 hs.right (PO'.bnd q1) fun y w H2 e2 e2' m2 q2=>?_;have stuck:∀ {P:Prop},opB .mul x y=stk->P:=fun z=>by rw[z]at q2;exact q2.no.elim
 induction y using zD with
 |int b=>
  cases m2
  induction x using zD with
  |int a=>exact(PO'.grd q2).2.ok.no.elim
  |str a=>exact(PO'.grd q2).2.ok.no.elim
  |lst o a=>obtain⟨p,xs,rfl,h1,n1⟩:=m1.lstL;obtain⟨gd,q3⟩:=PO'.grd q2;have gd:=r_ gd;have h1':Ls X.K H2 p xs:=h1.elim (fun z=>.inl (e2'.rd z)) .inr;exact⟨p,b,xs,rfl,rfl,h1',gd.1,gd.2.1,by rw[n1.length];exact gd.2.2,fun z hz=>q3.ok.ok z _ _ (e2.trans (.upd hz)) (e2.free hz) dP (sS ((n1.later e2').rep b.toNat) hz)⟩
  |_=>exact stuck rfl
 |_=>induction x using zD<;>exact stuck rfl
theorem Ew {a:Expr}{lo hi:Option Expr}{pos p2:Pos}{va vl vh:List Nat}{fa:Ev->Res D}{fl fh:Ev->Res (Option Int)}(ha:PE X a (RD X.K ex va fa))(hl:PO X lo (ROp X.K ex vl fl))(hh:PO X hi (ROp X.K ex vh fh)) :
  PE X (.Subscript a (.Slice lo hi Ξ p2) pos) (RN X.K ex (va++vl++vh) fun τ=>bnd (bnd (fa τ) fun x=>bnd (fl τ) fun l=>bnd (fh τ) fun h=>oI x l h) gJ):=by
 refine fm (oC qC ha hl hh) fun σ H Q ⟨S,τ,hs,q⟩=>?_;refine fI (.refl _) hs.left.left (PO'.bnd (PO'.bnd q)) fun x v H1 e1 _ m1 q1=>?_;refine xl e1 hs.left.right (PO'.bnd q1) fun l H2 e2 e2' q2=>?_;refine xl e2 hs.right (PO'.bnd q2) fun h H3 e3 e3' q3=>?_
 induction x using zD with
 |lst o ds=>obtain⟨p,xs,rfl,h1,n1⟩:=m1.lstR;exact⟨p,xs,rfl,(e2'.trans e3').seq h1,fun z hz=>q3.ok.ok z _ _ (e3.trans (.upd hz)) (e3.free hz) dP (sS (qP l h (n1.later (e2'.trans e3'))) hz)⟩
 |str _=>exact(PO'.grd q3).2.ok.no.elim
 |_=>exact q3.no.elim
theorem lK (hc:X.calm=Δ):gK X (.type "list") (fun xs H Q=>(∃p ys,xs=[.ref p]/\(SqL X.K H p ys∨SqT X.K H p ys)/\∀l,H l=Ξ->Q (.ref l) (upd H l (.lst ys)))∨∃z:Str,xs=[.str z]/\z.length<=Ε/\∀l,H l=Ξ->Q (.ref l) (upd H l (.lst (ig z)))):=by
 intro pins s σ H xs us Q I r h;rcases h with h|h
 ·exact iF pins s σ H xs us Q I r h
 ·exact iZ hc pins s σ H xs us Q I r h
theorem AU (g:GOk Z CX cl xp X ex G){p pos:Pos}{es:List IR}{a:Expr}{args:List Expr}(hg:G.glc (mz .list)=Δ)(hst:ft Z G es (a::args)=Δ)(h:PA X (a::args) (RA X.K ex (cw es) (fy cl es))) :
  PE X (.Call (.Name (iH .list) p) (a::args) [] pos) (RN X.K ex (cw es) fun τ=>bnd (bnd (fy cl es τ) fun ds=>ip .list ds) gJ):=by
 obtain⟨k1,k2,k3,k4⟩:=jc g (uo .list) (ny hg)
 induction es using zL with
 |nil=>cases hst
 |cons b es=>
  have hst':(notStar a&&chk Z G b a&&ft Z G es args)=Δ:=hst;simp only[d_]at hst';refine fm (jR (lK (g.calm (nA hg))) k1 k2 (qQ .list) h k3 k4 (dN hst'.1.1 args X.env) (gH Z G (es:=es) pos X.env hst'.2)) fun σ H Q ⟨S,τ,hs,q⟩=>?_;refine nD (.refl _) hs (PO'.bnd (PO'.bnd q)) fun ds vs H1 e1 _ m1 q1=>?_;have stuck:∀ {P:Prop},ip .list ds=stk->P:=fun z=>by rw[z]at q1;exact q1.no.elim
  match ds,m1 with
  |[],_=>exact stuck rfl
  |d::_::_,_=>exact stuck (by induction d using zD<;>rfl)
  |[d],m1=>
   obtain⟨x,rfl,hd⟩:=m1.one1
   induction d using zD with
   |tup ds=>obtain⟨a,ys,rfl,q',m⟩:=hd.tupR;exact .inl ⟨a,ys,rfl,.inr q',fun z hz=>q1.ok.ok z _ _ (e1.trans (.upd hz)) (e1.free hz) dP (sS m hz)⟩
   |lst o ds=>obtain⟨a,ys,rfl,q',m⟩:=hd.lstR;exact .inl ⟨a,ys,rfl,.inl q',fun z hz=>q1.ok.ok z _ _ (e1.trans (.upd hz)) (e1.free hz) dP (sS m hz)⟩
   |str z=>cases hd.strR;obtain⟨gz,q1⟩:=PO'.grd q1;exact .inr ⟨z,rfl,fR gz,fun l hl=>q1.ok.ok l _ _ (e1.trans (.upd hl)) (e1.free hl) dP (sS (jV z) hl)⟩
   |_=>exact stuck rfl
end
def NPr (K:Frag)(H H':Hp)(v:V)(d:D):Prop:=prD d=Δ->∃l,H l=Ξ/\MRep K (fun _=>False) H' v (kg d) [l]
def RDP (K:Frag)(ex:Str->Prop)(is:List Nat)(f:Ev->Res D):TE:=fun σ H Q=>∃S τ,Slots K S H σ τ is/\PO' ex (f τ) fun d=>∀v H',dO H H'->HRep K (nw S H) H' v d->NPr K H H' v d->Q v H'
section
variable {K:Frag}{S:Ψ->Prop}{H H1 H':Hp}{σ:St}{τ:Ev}{ex:Str->Prop}
theorem CP {is:List Nat}{f:Ev->Res D}{Kt:D->Prop}{Q:VK}(e:dO H H1)(hs:Slots K S H σ τ is)(h:PO' ex (f τ) Kt)(k:∀x v H2,dO H H2->dO H1 H2->HRep K (nw S H) H2 v x->NPr K H1 H2 v x->Kt x->Q v H2):RDP K ex is f σ H1 Q:=
 ⟨nw S H,τ,hs.go e,h.mono fun x hx v H2 e2 m p=>k x v H2 (e.trans e2) e2 (m.mono (ka e) (.refl _)) p hx⟩
theorem jd.mono {p:Ψ}{ys:List V}{ds:List D}(h:jd K H H1 p ys ds)(e:dO H1 H'):jd K H H' p ys ds:=fun z=>by obtain⟨f,h1,h2,h3⟩:=h z;refine⟨f,h1.step (fun _ _ z=>z.elim) (fun a xs r=>e.seqT r) fun a ha _ _=>⟨fun z=>z,?_⟩,h2,h3⟩;obtain⟨_,u,hu⟩:=h1.own a ha;exact(e _ _ hu).trans hu.symm
theorem jd.snoc {A:Ψ}{ys:List V}{ds:List D}{v:V}{d:D}{H4 H5:Hp}(h:jd K H H4 A ys ds)(f0:∀a,H4 a=Ξ->H a=Ξ)(e:dO H4 H5)(p:NPr K H4 H5 v d)(hA:H4 A=Γ (.lst ys))(hy:H5 A=Γ (.lst ys)) :
  jd K H (upd H5 A (.lst (ys++[v]))) A (ys++[v]) (ds++[d]):=fun z=>by
 rw[List.all_append,d_]at z;obtain⟨f,h1,h2,h3⟩:=h z.1;obtain⟨l,hl,hm⟩:=p (by have:=z.2;rw[List.all_cons,List.all_nil,Bool.and_true]at this;exact this);have hlA:l≠A:=fun q=>by rw[q,hA]at hl;cases hl
 have own:∀a∈f,∃u,H4 a=Γ u:=fun a ha=>(h1.own a ha).2;have st:∀a xs,SqE K H5 a xs->SqE K (upd H5 A (.lst (ys++[v]))) a xs:=fun a xs r=>r.upd hy
 have m1:MReps K (fun _=>False) (upd H5 A (.lst (ys++[v]))) ys (ds.map kg) f:=h1.step (fun _ _ z=>z.elim) (fun a xs r=>st a xs (e.seqT r)) fun a ha _ _=>⟨fun z=>z,by
  rw[dM (h3 a ha).2];obtain⟨u,hu⟩:=own a ha
  exact(e _ _ hu).trans hu.symm⟩
 have m2:MRep K (fun _=>False) (upd H5 A (.lst (ys++[v]))) v (kg d) [l]:=hm.step (fun _ _ z=>z.elim) st fun a ha _ _=>⟨fun z=>z,dM (by rw[C_.mp ha];exact hlA)⟩
 rw[A_];refine⟨f++([l]++[]),m1.append (.cons m2 .nil),h_.mpr ⟨h2,by simp,fun a h4 b h5 q=>?_⟩,fun a ha=>?_⟩
 ·rw[D_,C_]at h5;subst h5 q;obtain⟨u,hu⟩:=own a h4;rw[hl]at hu;cases hu
 ·rcases u_.mp ha with ha|ha
  ·exact h3 a ha
  ·rw[D_,C_]at ha;subst ha;exact⟨f0 a hl,hlA⟩
theorem qb {vs:List Nat}{fs:Ev->Res (List D)}{T:Tg}{I:List IR}{E:IR}{Kt:D->Prop}{Q:VK}(hl:fr.length<=G'.N.length)(ha:∀i∈tgs T,fr.length<=i)(hs:Slots K S H σ τ (fr++vs))
  (q:PO' ex (bnd (fs τ) fun its=>grd (hU its.length) (bnd (noX (fT (fN cl T I E (blk G' fr τ)) its)) fun ds=>.ok (.lst Δ ds))) Kt)
  (fin:∀A ys ds H',dO H H'->H A=Ξ->H' A=Γ (.lst ys)->HReps K (fun a=>nw S H a/\a≠A) H' ys ds->jd K H H' A ys ds->Kt (.lst Δ ds)->Q (.ref A) H') :
  qE (RI K ex vs fs) (stC (frN G fr) (G'.N.drop fr.length)) (gT K T) (RT K nox (cw I) (iM cl I)) (RDP K nox (vars E) (evR cl E)) σ H Q:=by
 refine AO (.refl _) hs.right (PO'.bnd q) fun its J H1 e1 _ w1 q1 A hA=>?_;obtain⟨gd,q1⟩:=PO'.grd q1;have q2:=PO'.noX (PO'.bnd q1);have hsz:=iQ gd;have hHA:H A=Ξ:=e1.free hA
 -- what is read stands apart from the new list
 have tight:∀a,nw S H a->H1 a≠Ξ->nw S H a/\a≠A:=fun a h1 h2=>⟨h1,fun z=>h2 (by rw[z];exact hA)⟩
 have w2:Wlk K (fun a=>nw S H a/\a≠A) H1 J its:=w1.step (fun a xs h r=>⟨tight a h r.some,r⟩) fun a xs h=>h;have hs2:Slots K (fun a=>nw S H a/\a≠A) H1 σ τ (fr++vs):=fun i hi d z=>by obtain⟨v,h1,h2⟩:=(hs.go e1) i hi d z;exact⟨v,h1,h2.step (fun a xs h r=>⟨tight a h r.some,r⟩) fun a xs h=>h⟩
 refine⟨fun i m σ' H'=>m=its.length - i/\i<=its.length/\∃ys acc,H' A=Γ (.lst ys)/\HReps K (fun a=>nw S H a/\a≠A) H' ys acc/\jd K H H' A ys acc/\ys.length<=i/\dO H1 H'/\σ'.length=G'.N.length/\
   (∀j,j < fr.length->σ'[j]? = (stC (frN G fr) (G'.N.drop fr.length) σ)[j]?)/\PO' nox (fT (fN cl T I E (blk G' fr τ)) (its.drop i)) fun ds=>Kt (.lst Δ (acc++ds)),⟨its.length,by simp,ET _,[],[],dP,.nil,fun _=>⟨[],.nil,List.nodup_nil,fun _ z=>nomatch z⟩,n_ _,.upd hA,?_,fun _ _=>rfl,?_⟩,?_⟩
 ·rw[qW,List.length_drop];omega
 ·rw[List.drop_zero];exact q2.mono fun ds z=>z.ok
 ·rintro i m σ' H' ⟨rfl,hi,ys,acc,hy,my,np,ly,e2,hn,hσ,q3⟩;by_cases hlt:i < its.length
  ·refine .inr ⟨(w2.mono (fun _ z=>z) e2).go hlt,fun x H2 hy2=>?_⟩;obtain⟨eH,mx⟩:=(w2.mono (fun _ z=>z) e2).yld hy2 (d:=its[i]) (by simp[hlt]);have hy:=eH _ _ hy;have my:=my.mono (fun _ z=>z) eH;have np:=np.mono eH;have e2:=e2.trans eH;have hd:its.drop i=its[i]::its.drop (i+1):=List.drop_eq_getElem_cons hlt;rw[hd]at q3;have q4:=PO'.bnd q3;have q5:PO' nox (gR T its[i] (blk G' fr τ)) _:=PO'.bnd q4
   have sl:SlA K (fun a=>nw S H a/\a≠A) H2 σ' (blk G' fr τ):=qX (G:=G) (vs:=vs) (σ:=σ) hl (fun i hi d z=>by
    obtain⟨v,h1,h2⟩:=hs2 i hi d z
    exact⟨v,h1,h2.mono (fun _ z=>z) e2⟩) hn hσ
   refine nE T sl mx q5 fun τ' σ2 sl2 hn' hk q6=>?_;have hn2:σ2.length=G'.N.length:=hn'.trans hn;have hσ2:∀j,j < fr.length->σ2[j]? = (stC (frN G fr) (G'.N.drop fr.length) σ)[j]?:=fun j hj=>by rw[hk j (fun z=>by have:=ha j z;omega)];exact hσ j hj
   have sl3:∀is,Slots K (fun a=>nw S H a/\a≠A) H2 σ2 τ' is:=fun is i _ d z=>sl2.2 i d z;refine lJ (.refl _) (sl3 _) (PO'.bnd q6) fun r H4 e4 _ q7=>?_
   induction r using zB with
   |false=>rw[b_ EC]at q7 ⊢;have q8:PO' nox (fT (fN cl T I E (blk G' fr τ)) (its.drop (i+1))) fun ds=>Kt (.lst Δ (acc++ds)):=q7;refine⟨its.length - (i+1),by omega,rfl,hlt,ys,acc,e4 _ _ hy,my.mono (fun _ z=>z) e4,np.mono e4,by omega,e2.trans e4,hn2,hσ2,q8⟩
   |true=>
    rw[c_ rfl]at q7 ⊢;refine CP e4 (sl3 _) (PO'.bnd q7) fun d v H5 e5 e5' m5 p5 q8=>?_;have q9:PO' nox (bnd (fT (fN cl T I E (blk G' fr τ)) (its.drop (i+1))) fun r=>.ok (d::r)) fun ds=>Kt (.lst Δ (acc++ds)):=q8;have q10:=PO'.bnd q9;have hy5:H5 A=Γ (.lst ys):=e5 _ _ hy;refine⟨ys,hy5,by omega,its.length - (i+1),by omega,rfl,hlt,ys++[v],acc++[d],dP,?_,?_,by rw[t_,EH];omega,?_,hn2,hσ2,?_⟩
    ·have hl5:∀a (xs:LD),(nw S H a/\a≠A)->Rd H5 a xs.o->(nw S H a/\a≠A)/\Rd (upd H5 A (.lst (ys++[v]))) a xs.o:=fun a xs h r=>by refine⟨h,?_⟩;unfold Rd;rw[dM h.2];exact r
     have ht5:∀a xs,SqE K H5 a xs->SqE K (upd H5 A (.lst (ys++[v]))) a xs:=fun a xs h=>h.upd hy5
     have m6:HRep K (fun a=>nw S H a/\a≠A) H5 v d:=m5.step (fun a xs h r=>⟨by
      rcases h with h|h
      ·exact h
      ·have:H a=Ξ:=e1.free (e2.free h)
       exact⟨.inr this,fun z=>by rw[z,hy]at h;cases h⟩,r⟩) fun a xs h=>h
     exact(((my.mono (fun _ z=>z) e5).step hl5 ht5)).append (.cons (m6.step hl5 ht5) .nil)
    ·exact jd.snoc (np.mono e4) (fun a ha=>e1.free (e2.free (e4.free ha))) e5' p5 (e4 _ _ hy) hy5
    ·exact fun b o hb=>by
      have:b≠A:=by rintro rfl;rw[hA]at hb;cases hb
      rw[dM this];exact e5 _ _ (e2 _ _ hb)
    ·refine q10.mono fun ds z=>?_;have z':=z.ok;rw[o_];exact z'
  ·have e:i=its.length:=by omega
   subst e;refine .inl ⟨(w2.mono (fun _ z=>z) e2).stop rfl,?_⟩;rw[List.drop_length]at q3;have q4:=q3.ok;rw[D_]at q4;exact fin A ys acc H' (e1.trans e2) hHA hy my np q4
end
section
variable {X:Cx}{ex:Str->Prop}
theorem AV {pos:Pos}:PE X (.List [] pos) (RN X.K ex [] fun τ=>bnd (.ok (.lst Δ [])) gJ):=by refine fm (mS gW) fun σ H Q ⟨S,τ,hs,q⟩=>?_;exact⟨ET _,fun p hp=>q.ok p [] _ (.upd hp) hp dP .nil⟩
theorem xu {cl:Nat->List D->Res D}{es:List IR}{τ:Ev}{d:D}(z:evR cl (.bi .list es) τ=.ok d):∃o ds,d=.lst o ds:=by
 have z:bnd (fy cl es τ) (fun ds=>ip .list ds)=.ok d:=z;cases q:fy cl es τ with
 |error e=>rw[q]at z;cases z
 |ok ds=>
  rw[q]at z;have z:ip .list ds=.ok d:=z
  match ds,z with
  |[x],z=>
   cases x with
   |lst o l=>injection z with z;exact⟨_,_,z.symm⟩
   |tup l=>injection z with z;exact⟨_,_,z.symm⟩
   |str y=>
    have z:grd (f7 y.length) (.ok (.lst Δ (il y)))=.ok d:=z;unfold grd at z;split at z
    ·injection z with z;exact⟨_,_,z.symm⟩
    ·cases z
   |_=>cases z
  |[],z=>cases z
  |x::_::_,z=>cases x<;>cases z
theorem prT {cl:Nat->List D->Res D}{a b:Expr}{n:Nat}{pos:Pos}{A B:IR}(ha:PE X a (RD X.K ex (vars A) (evR cl A)))(hb:PE X b (RN X.K ex (vars B) fun τ=>bnd (evR cl B τ) gJ))(hl:∀τ d,evR cl B τ=.ok d->∃o ds,d=.lst o ds)(na:notStar a=Δ)(nb:notStar b=Δ) :
  PE X (.Tuple [a,b] n pos) (RDP X.K ex (vars (.tup [A,B])) (evR cl (.tup [A,B]))):=by
 refine fm (mR (fX ha (fX hb gW (dN nb _ _)) (dN na _ _))) fun σ H Q ⟨S,τ,hs,q⟩=>?_;have hv:vars (.tup [A,B])=vars A++(vars B++[]):=rfl;rw[hv,D_]at hs;have q0:PO' ex (bnd (bnd (evR cl A τ) fun d=>bnd (bnd (evR cl B τ) fun d2=>bnd (.ok []) fun ds=>.ok (d2::ds)) fun ds=>.ok (d::ds)) fun ds=>grd (f7 ds.length) (.ok (D.tup ds))) (fun d=>∀v H',dO H H'->HRep X.K (nw S H) H' v d->NPr X.K H H' v d->Q v H'):=q;refine fI (.refl _) hs.left (PO'.bnd (PO'.bnd q0)) fun x v H1 e1 _ m1 q1=>?_;refine⟨nw S H,τ,hs.right.go e1,?_⟩;have q2:=PO'.bnd (PO'.bnd q1);cases zb:evR cl B τ with
 |error er=>
  rw[zb]at q2;show PO' ex (bnd (evR cl B τ) gJ) _;rw[zb];cases er with
  |stuck=>exact q2.no.elim
  |exc c=>exact q2
 |ok d=>obtain⟨o,r,rfl⟩:=hl τ d zb;rw[zb]at q2;show PO' ex (bnd (evR cl B τ) gJ) _;rw[zb];intro p ys H2 e2 hp hy m2;obtain⟨gd,q3⟩:=PO'.grd (show PO' ex (grd (f7 [x,D.lst o r].length) (.ok (D.tup [x,.lst o r]))) (fun d=>∀v H',dO H H'->HRep X.K (nw S H) H' v d->NPr X.K H H' v d->Q v H') from q2);refine⟨fR gd,fun p' hp'=>?_⟩;have e3:dO H2 (upd H2 p' (.tup [v,.ref p])):=.upd hp';have m1':HRep X.K (nw S H) H2 v x:=m1.mono (fun _ z=>z) e2;have m2':HRep X.K (nw S H) H2 (.ref p) (.lst o r):=.lst (.inr (e1.free hp)) (.inl hy) (m2.mono (fun a z=>ka e1 a z.1) (.refl _));refine q3.ok _ _ ((e1.trans e2).trans e3) (.tup (.inl (.inl dP)) (.cons (m1'.mono (fun _ z=>z) e3) (.cons (m2'.mono (fun _ z=>z) e3) .nil))) fun pd=>?_;have pd':(fE x&&cA r)=Δ:=pd;rw[d_]at pd';refine⟨p,e1.free hp,?_⟩;show MRep X.K (fun _=>False) _ _ (.tup [x,.lst Δ r]) ([]++([p]++[]));exact .tup (.inl (.inl dP)) (.cons ((m1'.mono (fun _ z=>z) e3).free pd'.1) (.cons (.lstO (fun z=>z) (e3 _ _ hy) (((m2.mono (fun a z=>z.1) e3)).free pd'.2)) .nil))
end
section
variable {Z:Sg}{CX:CXT}{cl:Nat->List D->Res D}{xp:XK->Hp->Str->Prop}
theorem iC {X:Cx}{ex:Str->Prop}{G:Gm}(g:GOk Z CX cl xp X ex G){i:Nat}{x:Str}{pos:Pos}(h:gb G i x=Δ):PE X (.Name x pos) (wm i):=by
 unfold gb at h;rw[d_]at h;have hx:G.N[i]? = Γ x:=g_ h.1;have hk:=g.kd i x hx;have hv:Vis X.env.scope x:=by
  have h2:=h.2;rw[EJ,EJ]at h2;rcases h2 with(h2|h2)|h2
  ·exact .inl (hk.trans (g_ h2))
  ·exact .inr (.inl (hk.trans (g_ h2)))
  ·exact .inr (.inr (hk.trans (g_ h2)))
 exact sZ (i:=i) (by rw[g.N];exact hx) hv (g.noD i x hx).1 (g.noD i x hx).2
theorem AW {X:Cx}{ex:Str->Prop}{G G':Gm}{fr:List Nat}(g:GOk Z CX cl xp X ex G){scope:Scope}{tg iter elt:Expr}{ifs:List Expr}{pos:Pos}{T:Tg}{s:Sr}{I:List IR}{E:IR}(hs:ScOk Z G scope G' fr)(hT:fM G' T tg=Δ)(ha:∀i∈tgs T,fr.length<=i)
  (hi:gU Z G s iter=Δ/\jq s tg=Δ) (ht:ft Z G' I ifs=Δ) (he:chk Z G' E elt=Δ) :
  PE X (.ListComp elt [⟨tg,iter,ifs,0⟩] scope pos) (RN X.K ex (vars (.comp G' fr T s I E)) fun τ=>bnd (evR cl (.comp G' fr T s I E) τ) gJ):=by
 intro pins s' σ H Q Iv h;obtain⟨cl',S⟩:=iU g Iv.ok hs;have p:=mZ (pos:=pos) (elt:=elt) (ifs:=ifs) (tg:=tg) (g:=gT X.K T) (tt:=RT X.K nox (cw I) (iM cl I)) (te:=RD X.K nox (vars E) (evR cl E)) (g.calm hs.cm) S (uC s X ex G iter tg g hi.1 hi.2) (fun C s H fp=>pgT (gf g hs cl' C s H fp) T tg hT)
  (fun C s H fp=>uB I _ nox G' ifs (gf g hs cl' C s H fp) ht) (fun C s H fp=>(snd E _ nox G' elt (gf g hs cl' C s H fp) he).1) (fun x=>gM hi.1 X.env x)
 refine p pins s' σ H Q Iv ?_;obtain⟨S0,τ,hsl,q⟩:=h;have q':=PO'.bnd (show PO' ex (bnd (evR cl (.comp G' fr T s I E) τ) gJ) _ from q);rw[jF]at q';exact iB hs.fle ha hsl q' fun A ys ds H' e hA hA' m k=>k.ok A ys H' e hA hA' m
theorem snN:∀(a:IR) (X:Cx) (ex:Str->Prop) (G:Gm) (e:Expr),GOk Z CX cl xp X ex G->chk Z G a e=Δ->fU a=Δ->PE X e (RN X.K ex (vars a) fun τ=>bnd (evR cl a τ) gJ):=by
 intro a X ex G e g h n;cases a with
 |bin op a b=>
  cases op with
  |add=>
   induction e using zE with
   |BinOp l o r pos=>have h':(o == bop .add&&chk Z G a l&&chk Z G b r)=Δ:=h;simp only[d_]at h';have e1:o=bop .add:=g_ h'.1.1;subst e1;exact CN (snd a X ex G l g h'.1.2).1 (snd b X ex G r g h'.2).1
   |_=>exists h
  |mul=>
   induction e using zE with
   |BinOp l o r pos=>have h':(o == bop .mul&&chk Z G a l&&chk Z G b r)=Δ:=h;simp only[d_]at h';have e1:o=bop .mul:=g_ h'.1.1;subst e1;exact CO (snd a X ex G l g h'.1.2).1 (snd b X ex G r g h'.2).1
   |_=>exists h
  |_=>cases n
 |sl a lo hi=>
  induction e using zE with
  |Subscript o s pos=>
   induction s using zE with
   |Slice l u st p=>
    induction st using zO with
    |none=>have h':(chk Z G a o&&p8 Z G lo l&&p8 Z G hi u)=Δ:=h;simp only[d_]at h';exact Ew (snd a X ex G o g h'.1.1).1 (xq lo X ex G l g h'.1.2) (xq hi X ex G u g h'.2)
    |some _=>exists h
   |_=>exists h
  |_=>exists h
 |bi f es=>
  cases f with
  |list=>
   induction e using zE with
   |Call fn args kws pos=>
    induction fn using zE with
    |Name x p=>
     induction kws using zL with
     |nil=>
      induction args using zL with
      |nil=>exists h
      |cons a args=>have h':(x == iH .list&&G.glc (mz .list)&&ft Z G es (a::args))=Δ:=h;simp only[d_]at h';have e1:x=iH .list:=g_ h'.1.1;subst e1;exact AU g h'.1.2 h'.2 (nH es X ex G _ g h'.2)
     |cons _ _=>cases args<;>exists h
    |_=>exists h
   |_=>exists h
  |_=>cases n
 |comp G' fr tg src ifs elt=>
  induction e using zE with
  |ListComp el gens scope pos=>have h:p7 gens (fun t it fs=>gu Z G scope G' fr&&fM G' tg t&&(tgs tg).all (fun i=>decide (fr.length<=i))&&(gU Z G src it&&jq src t)&&ft Z G' ifs fs&&chk Z G' elt el)=Δ:=h;obtain⟨t,it,fs,rfl,h⟩:=kj h;have h':(gu Z G scope G' fr&&fM G' tg t&&(tgs tg).all (fun i=>decide (fr.length<=i))&&(gU Z G src it&&jq src t)&&ft Z G' ifs fs&&chk Z G' elt el)=Δ:=h;simp only[d_]at h';exact AW g (km h'.1.1.1.1.1) h'.1.1.1.1.2 (fun i hi=>r_ (ED.mp h'.1.1.1.2 i hi)) h'.1.1.2 h'.1.2 h'.2
  |_=>exists h
 |_=>cases n
theorem o_dnew {X:Cx}{ex:Str->Prop}{pos:Pos}(mv:Bool):PE X (.Dict [] [] pos) (RO X.K ex (evO cl mv .dnew)):=by
 refine fm oH fun σ H Q ⟨F,τ,fo,fok,r,nd,q⟩=>fun p hp=>?_;have q':∀v H' F' fv f',Ow X.K F H fo F' H' σ v (.dct Δ [] []) fv τ f'->Q v H':=q;have e:dO H (upd H p (.dK [])):=.upd hp;obtain⟨k1,k2,k3⟩:=jf fok r e;have nF:¬F p:=fun z=>fok p z hp;have nfo:p∉fo:=fun z=>by obtain⟨_,u,eu⟩:=r.own p z;rw[hp]at eu;cases eu
 exact q' _ _ F [p] fo ⟨k3,k1,.dctO (kvs:=[]) nF dP rfl .nil,k2,by rw[ER,y_];exact⟨nfo,nd⟩,fun a ha=>by
  rcases u_.mp ha with ha|ha
  ·rw[C_.mp ha];exact .inr hp
  ·exact .inl ha⟩
theorem AX {X:Cx}{ex:Str->Prop}{G:Gm}{E:IR}{e:Expr}(hE:prE E=Δ)(g:GOk Z CX cl xp X ex G)(h:chk Z G E e=Δ):PE X e (RDP X.K ex (vars E) (evR cl E)):=by
 unfold prE at hE;split at hE
 ·rename_i i j
  induction e using zE with
  |Tuple l n pos=>
   have h:ft Z G [.v i,.bi .list [.v j]] l=Δ:=h
   match l,h with
   |[e1,e2],h=>have h':(notStar e1&&chk Z G (.v i) e1&&(notStar e2&&chk Z G (.bi .list [.v j]) e2&&ft Z G [] []))=Δ:=h;simp only[d_]at h';refine prT (snd (.v i) X ex G e1 g h'.1.2).1 (snN (.bi .list [.v j]) X ex G e2 g h'.2.1.2 rfl) (fun τ d z=>?_) h'.1.1 h'.2.1.1;exact xu z
   |[],h=>cases h
   |[e1],h=>cases(ke (show(notStar e1&&chk Z G (.v i) e1&&ft Z G [.bi .list [.v j]] [])=Δ from h)).2
   |e1::e2::e3::l,h=>cases(ke (ke (show(notStar e1&&chk Z G (.v i) e1&&(notStar e2&&chk Z G (.bi .list [.v j]) e2&&ft Z G [] (e3::l)))=Δ from h)).2).2
  |_=>exists h
 ·rename_i i
  induction e using zE with
  |Tuple l n pos=>
   have h:ft Z G [.v i,.lst []] l=Δ:=h
   match l,h with
   |[e1,e2],h=>
    have h':(notStar e1&&chk Z G (.v i) e1&&(notStar e2&&chk Z G (.lst []) e2&&ft Z G [] []))=Δ:=h;simp only[d_]at h';have h2:=h'.2.1.2;have hn2:=h'.2.1.1;clear h
    induction e2 using zE with
    |List l2 p2=>
     match l2,h2 with
     |[],_=>exact prT (snd (.v i) X ex G e1 g h'.1.2).1 AV (fun τ d z=>⟨Δ,[],by injection (show(Except.ok (D.lst Δ []):Res D)=.ok d from z) with z;exact z.symm⟩) h'.1.1 hn2
     |_::_,h2=>cases h2
    |_=>first|exact aM h2|cases h2
   |[],h=>cases h
   |[e1],h=>cases(ke (show(notStar e1&&chk Z G (.v i) e1&&ft Z G [.lst []] [])=Δ from h)).2
   |e1::e2::e3::l,h=>cases(ke (ke (show(notStar e1&&chk Z G (.v i) e1&&(notStar e2&&chk Z G (.lst []) e2&&ft Z G [] (e3::l)))=Δ from h)).2).2
  |_=>exists h
 ·cases hE
theorem xw {X:Cx}{ex:Str->Prop}{G G':Gm}{fr:List Nat}(g:GOk Z CX cl xp X ex G){scope:Scope}{tg iter elt:Expr}{ifs:List Expr}{pos:Pos}{T:Tg}{s:Sr}{I:List IR}{E:IR}(hE:prE E=Δ)(hs:ScOk Z G scope G' fr)(hT:fM G' T tg=Δ)(ha:∀i∈tgs T,fr.length<=i)
  (hi:gU Z G s iter=Δ/\jq s tg=Δ) (ht:ft Z G' I ifs=Δ) (he:chk Z G' E elt=Δ) :
  PE X (.ListComp elt [⟨tg,iter,ifs,0⟩] scope pos) (RNP X.K ex (vars (.comp G' fr T s I E)) fun τ=>bnd (evR cl (.comp G' fr T s I E) τ) gJ):=by
 intro pins s' σ H Q Iv h;obtain⟨cl',S⟩:=iU g Iv.ok hs;have p:=mZ (pos:=pos) (elt:=elt) (ifs:=ifs) (tg:=tg) (g:=gT X.K T) (tt:=RT X.K nox (cw I) (iM cl I)) (te:=RDP X.K nox (vars E) (evR cl E)) (g.calm hs.cm) S (uC s X ex G iter tg g hi.1 hi.2) (fun C s H fp=>pgT (gf g hs cl' C s H fp) T tg hT)
  (fun C s H fp=>uB I _ nox G' ifs (gf g hs cl' C s H fp) ht) (fun C s H fp=>AX hE (gf g hs cl' C s H fp) he) (fun x=>gM hi.1 X.env x)
 refine p pins s' σ H Q Iv ?_;obtain⟨S0,τ,hsl,q⟩:=h;have q':=PO'.bnd (show PO' ex (bnd (evR cl (.comp G' fr T s I E) τ) gJ) _ from q);rw[jF]at q';exact qb hs.fle ha hsl q' fun A ys ds H' e hA hA' m np k=>k.ok A ys H' e hA hA' m np
theorem snP {X:Cx}{ex:Str->Prop}{G G':Gm}{fr:List Nat}{tg:Tg}{src:Sr}{ifs:List IR}{elt:IR}{e:Expr}(g:GOk Z CX cl xp X ex G)(h:chk Z G (.comp G' fr tg src ifs elt) e=Δ)(ds:List D)(hw:iI (.comp G' fr tg src ifs elt) ds=Δ):PE X e (RNP X.K ex (vars (.comp G' fr tg src ifs elt)) fun τ=>bnd (evR cl (.comp G' fr tg src ifs elt) τ) gJ):=by
 have hE:prE elt=Δ:=(EA.mp hw).1
 induction e using zE with
 |ListComp el gens scope pos=>have h:p7 gens (fun t it fs=>gu Z G scope G' fr&&fM G' tg t&&(tgs tg).all (fun i=>decide (fr.length<=i))&&(gU Z G src it&&jq src t)&&ft Z G' ifs fs&&chk Z G' elt el)=Δ:=h;obtain⟨t,it,fs,rfl,h⟩:=kj h;have h':(gu Z G scope G' fr&&fM G' tg t&&(tgs tg).all (fun i=>decide (fr.length<=i))&&(gU Z G src it&&jq src t)&&ft Z G' ifs fs&&chk Z G' elt el)=Δ:=h;simp only[d_]at h';exact xw g hE (km h'.1.1.1.1.1) h'.1.1.1.1.2 (fun i hi=>r_ (ED.mp h'.1.1.1.2 i hi)) h'.1.1.2 h'.1.2 h'.2
 |_=>exists h
mutual
theorem snO:∀(a:IR) (mv:Bool) (X:Cx) (ex:Str->Prop) (G:Gm) (e:Expr),GOk Z CX cl xp X ex G->chk Z G a e=Δ->PE X e (RO X.K ex (evO cl mv a))
 |.v i,mv,X,ex,G,e,g,h=>by
  induction e using zE with
  |Name x pos=>exact o_v (iC g h) mv
  |_=>exists h
 |.tup es,mv,X,ex,G,e,g,h=>by
  induction e using zE with
  |Tuple l n pos=>exact o_tup (AY es mv X ex G l g h)
  |_=>exists h
 |.lst es,mv,X,ex,G,e,g,h=>by
  induction e using zE with
  |List l pos=>exact o_lst (AY es mv X ex G l g h)
  |_=>exists h
 |.call f es,mv,X,ex,G,e,g,h=>by
  induction e using zE with
  |Call fn args kws pos=>
   induction fn using zE with
   |Name x p=>
    induction kws using zL with
    |nil=>have h':(jo Z G f x&&Z.fnc G f&&ft Z G es args)=Δ:=h;simp only[d_]at h';exact o_call g h'.1.1 h'.1.2 h'.2 mv
    |cons _ _=>exists h
   |_=>exists h
  |_=>exists h
 |.c d,mv,X,ex,G,e,g,h=>fZ (snd _ X ex G e g h).1 (snN _ X ex G e g h)
 |.g n d,mv,X,ex,G,e,g,h=>fZ (snd _ X ex G e g h).1 (snN _ X ex G e g h)
 |.bin op a b,mv,X,ex,G,e,g,h=>fZ (snd _ X ex G e g h).1 (snN _ X ex G e g h)
 |.neg a,mv,X,ex,G,e,g,h=>fZ (snd _ X ex G e g h).1 (snN _ X ex G e g h)
 |.cmp op a b,mv,X,ex,G,e,g,h=>fZ (snd _ X ex G e g h).1 (snN _ X ex G e g h)
 |.chain op op' a b c,mv,X,ex,G,e,g,h=>fZ (snd _ X ex G e g h).1 (snN _ X ex G e g h)
 |.and_ a b,mv,X,ex,G,e,g,h=>fZ (snd _ X ex G e g h).1 (snN _ X ex G e g h)
 |.or_ a b,mv,X,ex,G,e,g,h=>fZ (snd _ X ex G e g h).1 (snN _ X ex G e g h)
 |.not_ a,mv,X,ex,G,e,g,h=>fZ (snd _ X ex G e g h).1 (snN _ X ex G e g h)
 |.idx a i,mv,X,ex,G,e,g,h=>fZ (snd _ X ex G e g h).1 (snN _ X ex G e g h)
 |.sl a lo hi,mv,X,ex,G,e,g,h=>fZ (snd _ X ex G e g h).1 (snN _ X ex G e g h)
 |.bi f es,mv,X,ex,G,e,g,h=>fZ (snd _ X ex G e g h).1 (snN _ X ex G e g h)
 |.isi a k,mv,X,ex,G,e,g,h=>fZ (snd _ X ex G e g h).1 (snN _ X ex G e g h)
 |.dget a k,mv,X,ex,G,e,g,h=>fZ (snd _ X ex G e g h).1 (snN _ X ex G e g h)
 |.din n k a,mv,X,ex,G,e,g,h=>fZ (snd _ X ex G e g h).1 (snN _ X ex G e g h)
 |.lset a,mv,X,ex,G,e,g,h=>fZ (snd _ X ex G e g h).1 (snN _ X ex G e g h)
 |.dsum a,mv,X,ex,G,e,g,h=>fZ (snd _ X ex G e g h).1 (snN _ X ex G e g h)
 |.dnew,mv,X,ex,G,e,g,h=>by
  have h:dcv e=Δ:=by induction e using zE<;>exact h
  obtain⟨pos,rfl⟩:=uv h;exact o_dnew mv
 |.mth m o es,mv,X,ex,G,e,g,h=>fZ (snd _ X ex G e g h).1 (snN _ X ex G e g h)
 |.comp G' fr tg src ifs elt,mv,X,ex,G,e,g,h=>fZ (snd _ X ex G e g h).1 (snN _ X ex G e g h) (snP g h)
theorem AY:∀(as:List IR) (mv:Bool) (X:Cx) (ex:Str->Prop) (G:Gm) (l:List Expr),GOk Z CX cl xp X ex G->ft Z G as l=Δ->PA X l (ROs X.K ex (lI cl mv as))
 |[],mv,X,ex,G,l,g,h=>by
  induction l using zL with
  |nil=>exact AS
  |cons _ _=>exists h
 |a::as,mv,X,ex,G,l,g,h=>by
  induction l using zL with
  |nil=>exists h
  |cons e l=>have h':(notStar e&&chk Z G a e&&ft Z G as l)=Δ:=h;simp only[d_]at h';exact xr h'.1.1 (snO a mv X ex G e g h'.1.2) (AY as mv X ex G l g h'.2)
end
end
structure Bs (io:Option Nat) where
 F:Ψ->Prop
 H:Hp
 L:Ψ->LD->Prop
 T:Ψ->List V ⊕ Str->Prop
 N:Option Ψ:=Ξ
structure Frm (K:Frag){io:Option Nat}(B:Bs io)(F:Ψ->Prop)(H:Hp)(σ:St)(τ:Ev)(f:List Ψ):Prop where
 fok:FOk F H
 rps:Rps K F H σ τ f
 nod:f.Nodup
 same:dO B.H H
 own:∀a∈f,B.H a=Ξ
 inn:∀a,B.F a->F a
 out:∀a,F a->B.F a∨B.H a=Ξ
 pin:∀a xs,B.L a xs->F a/\Rd H a xs.o
 pit:∀a xs,B.T a xs->SqE K H a xs
 nm:∀j a,io=Γ j->B.N=Γ a->σ[j]? = Γ (Γ (.ref a))
def Fk (K:Frag){io:Option Nat}(B:Bs io)(Dn:Ends):Fl->Prop
 |.nx τ=>∀σ H F f,Frm K B F H σ τ f->Dn.nx σ H
 |.bk τ=>∀σ H F f,Frm K B F H σ τ f->Dn.bk σ H
 |.ct τ=>∀σ H F f,Frm K B F H σ τ f->Dn.ct σ H
 |.rt d=>∀v H F fv,Out K B.F B.H F H v d fv->Dn.rt v H
 |.ri d ks es=>∀v H F fv kvs a,(∀a',B.N=Γ a'->a'=a)->Out K B.F B.H F H v d fv->¬F a->a∉fv->H a=Γ (.dK kvs)->kvs.map (·.1)=ks->HReps K F H (kvs.map (·.2)) es->Dn.rt v H
def RS (K:Frag)(io:Option Nat)(ex:Str->Prop)(g:Ev->Res Fl):TS:=fun Dn σ H=>∃(B:Bs io),∃F τ f,Frm K B F H σ τ f/\PO' ex (g τ) (Fk K B Dn)
section
variable {K:Frag}{io:Option Nat}{B:Bs io}{F F':Ψ->Prop}{H H':Hp}{σ:St}{τ τ':Ev}{f f':List Ψ}{ex:Str->Prop}
theorem Frm.stp (m:Frm K B F H σ τ f)(s:Stp F H f F' H')(fok:FOk F' H')(r:Rps K F' H' σ τ' f')(nd:f'.Nodup)(hm:∀a∈f',a∈f∨H a=Ξ):Frm K B F' H' σ τ' f' where
 fok:=fok
 rps:=r
 nod:=nd
 same:=m.same.trans s.same
 own:=fun a ha=>(hm a ha).elim (m.own a) fun z=>m.same.free z
 inn:=fun a h=>s.inn a (m.inn a h)
 out:=fun a h=>by
  rcases s.out a h with h|h|h
  ·exact m.out a h
  ·exact .inr (m.own a h)
  ·exact .inr (m.same.free h)
 pin:=fun a xs h=>⟨s.inn a (m.pin a xs h).1,s.same.rd (m.pin a xs h).2⟩
 pit:=fun a xs h=>s.same.seqT (m.pit a xs h)
 nm:=m.nm
theorem Frm.ow {v:V}{d:D}{fv:List Ψ}(m:Frm K B F H σ τ f)(o:Ow K F H f F' H' σ v d fv τ' f'):Frm K B F' H' σ τ' f'/\∀a∈fv,B.H a=Ξ:=
 ⟨m.stp o.stp o.fok o.rps (h_.mp o.nod).2.1 fun a ha=>o.mem a (m_ _ ha),fun a ha=>(o.mem a (k_ _ ha)).elim (m.own a) fun z=>m.same.free z⟩
theorem Frm.grow (m:Frm K B F H σ τ f)(e:dO H H'):Frm K B F H' σ τ f:=by obtain⟨k1,k2,k3⟩:=jf m.fok m.rps e;exact m.stp k3 k1 k2 m.nod fun a ha=>.inl ha
theorem Frm.ro {g:Ev->Res (D×Ev)}{Kt:D×Ev->Prop}{Q:VK}(m:Frm K B F H σ τ f)(h:PO' ex (g τ) Kt)(k:∀p v H' F' fv f',Ow K F H f F' H' σ v p.1 fv p.2 f'->Kt p->Q v H'):RO K ex g σ H Q:=
 ⟨F,τ,f,m.fok,m.rps,m.nod,h.mono fun p hp v H' F' fv f' o=>k p v H' F' fv f' o hp⟩
theorem Frm.rt {is:List Nat}{g:Ev->Res Bool}{Kt:Bool->Prop}{Q:Bool->Hp->Prop}(m:Frm K B F H σ τ f)(h:PO' ex (g τ) Kt)(k:∀b H',Frm K B F H' σ τ f->dO H H'->Kt b->Q b H'):RT K ex is g σ H Q:=
 lJ (.refl _) (gh m.rps) h fun b H2 e2 _ hb=>k b H2 (m.grow e2) e2 hb
theorem Frm.rd {is:List Nat}{g:Ev->Res D}{Kt:D->Prop}{Q:VK}(m:Frm K B F H σ τ f)(h:PO' ex (g τ) Kt)(k:∀d v H',Frm K B F H' σ τ f->dO H H'->HRep K (nw (fun _=>True) H) H' v d->Kt d->Q v H'):RD K ex is g σ H Q:=
 fI (.refl _) (gh m.rps) h fun b v H2 e2 _ mv hb=>k b v H2 (m.grow e2) e2 mv hb
mutual
theorem uE:∀(t:Tg) {σ:St}{τ:Ev}{f:List Ψ}{v:V}{d:D}{fv:List Ψ}{Kt:Ev->Prop}{Q:St->Hp->Prop},Rps K F H σ τ f->MRep K F H v d fv->(fv++f).Nodup->PO' ex (gR t d τ) Kt->
  (∀τ' σ' f',Rps K F H σ' τ' f'->f'.Nodup->(∀a∈f',a∈fv++f)->(∀j,j∉tgs t->σ'[j]? = σ[j]?)->Kt τ'->Q σ' H)->gT K t v σ H Q
 |.nm i,σ,τ,f,v,d,fv,Kt,Q,r,m,nd,h,k=>by obtain⟨g,h',r2,p2⟩:=r.put i m;have nd2:(g++h').Nodup:=p2.nodup_iff.mpr nd;exact k (τ.set i (Γ d)) (σ.set i (Γ v)) g r2 (h_.mp nd2).1 (fun a ha=>p2.mem_iff.mp (k_ _ ha)) (fun j hj=>EZ (fun z=>hj (by rw[<- z];exact C_.mpr rfl))) h.ok
 |.tp ts,σ,τ,f,v,d,fv,Kt,Q,r,m,nd,h,k=>by
  cases m with
  |tup h1 h2=>obtain⟨gd,h⟩:=PO'.grd h;have g':=r_ gd;exact⟨_,_,rfl,.inl h1,by rw[h2.length];exact g',jG ts r h2 nd h k⟩
  |lstS h0 h1 h2=>obtain⟨gd,h⟩:=PO'.grd h;have g':=r_ gd;exact⟨_,_,rfl,.inr (.inl h1),by rw[h2.length];exact g',jG ts r h2 nd h k⟩
  |lstK h1 h2=>obtain⟨gd,h⟩:=PO'.grd h;have g':=r_ gd;exact⟨_,_,rfl,.inr h1.sq,by rw[h2.length];exact g',jG ts r h2 nd h k⟩
  |lstO h0 h1 h2=>obtain⟨gd,h⟩:=PO'.grd h;have g':=r_ gd;rw[e_,y_]at nd;exact⟨_,_,rfl,.inr (.inl (.inl h1)),by rw[h2.length];exact g',jG ts r h2 nd.2 h fun τ' σ' f' a1 a2 a3 a5 a4=>k τ' σ' f' a1 a2 (fun x hx=>by rw[e_];exact q_ _ (a3 x hx)) a5 a4⟩
  |_=>exact h.no.elim
theorem jG:∀(ts:List Tg) {σ:St}{τ:Ev}{f:List Ψ}{vs:List V}{ds:List D}{fv:List Ψ}{Kt:Ev->Prop}{Q:St->Hp->Prop},Rps K F H σ τ f->MReps K F H vs ds fv->(fv++f).Nodup->PO' ex (jy ts ds τ) Kt->
  (∀τ' σ' f',Rps K F H σ' τ' f'->f'.Nodup->(∀a∈f',a∈fv++f)->(∀j,j∉oU ts->σ'[j]? = σ[j]?)->Kt τ'->Q σ' H)->gTs K ts vs σ H Q
 |[],σ,τ,f,vs,ds,fv,Kt,Q,r,m,nd,h,k=>by
  cases m with
  |nil=>exact⟨rfl,k τ σ f r (by simpa using nd) (fun a ha=>by simpa using ha) (fun _ _=>rfl) h.ok⟩
  |cons _ _=>exact h.no.elim
 |t::ts,σ,τ,f,vs,ds,fv,Kt,Q,r,m,nd,h,k=>by
  cases m with
  |nil=>exact h.no.elim
  |cons m1 m2=>
   rename_i v d f1 vs ds f2
   have nd':(f2++(f1++f)).Nodup:=by refine(List.Perm.nodup_iff ?_).mp nd;rw[<- o_];exact List.Perm.append_right f EU
   refine⟨_,_,rfl,uE t r m1 (h_.mp nd').2.1 (PO'.bnd h) fun τ' σ' f' r' nf' hm' hj' h'=>?_⟩;refine jG ts r' m2 (h_.mpr ⟨(h_.mp nd').1,nf',fun a h1 b h2 e=>(h_.mp nd').2.2 a h1 b (hm' b h2) e⟩) h' fun τ'' σ'' f'' r'' nf'' hm'' hj'' h''=>k τ'' σ'' f'' r'' nf'' (fun a ha=>?_) (fun j hj=>(hj'' j fun z=>hj (m_ _ z)).trans (hj' j fun z=>hj (k_ _ z))) h'';rcases u_.mp (hm'' a ha) with z|z
   ·exact k_ _ (m_ _ z)
   ·rcases u_.mp (hm' a z) with z|z
    ·exact k_ _ (k_ _ z)
    ·exact m_ _ z
end
theorem Frm.gT {t:Tg}{v:V}{d:D}{fv:List Ψ}{Kt:Ev->Prop}{Q:St->Hp->Prop}(m:Frm K B F H σ τ f)(mv:MRep K F H v d fv)(nd:(fv++f).Nodup)(hb:∀a∈fv,B.H a=Ξ)(hio:∀j∈tgs t,io≠Γ j)(h:PO' ex (gR t d τ) Kt)
  (k:∀τ' σ' f',Frm K B F H σ' τ' f'->Kt τ'->Q σ' H):L2.gT K t v σ H Q:=
 uE t m.rps mv nd h fun τ' σ' f' r' nf' hm hj h'=>k τ' σ' f' ⟨m.fok,r',nf',m.same,fun a ha=>(u_.mp (hm a ha)).elim (hb a) (m.own a),m.inn,m.out,m.pin,m.pit,fun j a e1 e2=>(hj j fun z=>hio j z e1).trans (m.nm j a e1 e2)⟩ h'
theorem Frm.write {i:Nat}{ds ds':List D}{w:V}{d:D}{fv:List Ψ}{l:Ψ}{xs ys:List V}(m:Frm K B F H σ τ f)(hs:cq τ i=Γ (.lst Δ ds))(hσ:σ[i]? = Γ (Γ (.ref l)))(hl:H l=Γ (.lst xs))(mw:MRep K F H w d fv)(nd:(fv++f).Nodup)(hb:∀a∈fv,B.H a=Ξ)
  (hy:∀fi,MReps K F H xs ds fi->∃fl h,MReps K F H ys ds' fl/\(fl++h).Perm (fv++fi)):∃f',Frm K B F (upd H l (.lst ys)) σ (τ.set i (Γ (.lst Δ ds'))) f':=by
 obtain⟨v,fs,g,h1,h2,h3,h4⟩:=m.rps.at hs;rw[hσ]at h1;cases h1;cases h2 with
 | @lstO a xs' ds0 fi hF hH hm=>
  rw[hl]at hH;cases hH;obtain⟨fl,h,hm',hp⟩:=hy fi hm;have ndf:((l::fi)++g).Nodup:=h4.nodup_iff.mp m.nod;have nda:(fv++((l::fi)++g)).Nodup:=(EW fv h4).nodup_iff.mp nd;have lg:l∉g:=by rw[e_,y_]at ndf;exact fun z=>ndf.1 (m_ _ z)
  have lfi:l∉fi:=by rw[e_,y_]at ndf;exact fun z=>ndf.1 (k_ _ z)
  have lfv:l∉fv:=fun z=>(h_.mp nda).2.2 l z l (by simp) rfl;have inFl:∀a∈fl,a∈fv++fi:=fun a ha=>hp.mem_iff.mp (k_ _ ha);have lfl:l∉fl:=fun z=>(u_.mp (inFl l z)).elim lfv lfi;have sl:∀a (u:LD),F a->Rd H a u.o->F a/\Rd (upd H l (.lst ys)) a u.o:=fun a xs h r=>by refine⟨h,?_⟩;have:a≠l:=fun z=>hF (by rw[<- z];exact h);unfold Rd;rw[dM this];exact r
  have st:∀a xs,SqE K H a xs->SqE K (upd H l (.lst ys)) a xs:=fun a xs h=>h.upd hl;have r1:Rps K F (upd H l (.lst ys)) σ (τ.set i Ξ) g:=h3.step sl st fun a ha n _=>⟨n,dM fun z=>lg (by rw[<- z];exact ha)⟩
  have m1:MRep K F (upd H l (.lst ys)) (.ref l) (.lst Δ ds') (l::fl):=.lstO hF dP (hm'.step sl st fun a ha n _=>⟨n,dM fun z=>lfl (by rw[<- z];exact ha)⟩);obtain⟨g',h',r2,p2⟩:=r1.put i m1;have hσ':σ.set i (Γ (.ref l))=σ:=by
   apply List.ext_getElem?;intro j;rw[List.getElem?_set];by_cases hj:i=j
   ·subst hj;have hlt:i < σ.length:=(B_.mp hσ).1;rw[c_ rfl,c_ hlt,hσ]
   ·rw[b_ hj]
  rw[hσ',List.set_set]at r2;have ndl:((l::fl)++g).Nodup:=by
   rw[e_,y_];refine⟨fun z=>(u_.mp z).elim lfl lg,h_.mpr ⟨?_,(h_.mp ndf).2.1,fun a h1 b h2 e=>?_⟩⟩
   ·have:(fl++h).Nodup:=hp.nodup_iff.mpr (h_.mpr ⟨(h_.mp nda).1,(y_.mp (h_.mp ndf).1).2,fun a h1 b h2 e=>(h_.mp nda).2.2 a h1 b (k_ _ (q_ _ h2)) e⟩);exact(h_.mp this).1
   ·subst e;rcases u_.mp (inFl a h1) with z|z
    ·exact(h_.mp nda).2.2 a z a (m_ _ h2) rfl
    ·exact(h_.mp ndf).2.2 a (q_ _ z) a h2 rfl
  have nd2:(g'++h').Nodup:=p2.nodup_iff.mpr ndl;have lB:B.H l=Ξ:=m.own l (h4.mem_iff.mpr (by simp));refine⟨g',fun a h=>?_,r2,(h_.mp nd2).1,fun b o hbo=>?_,fun a ha=>?_,m.inn,m.out,fun a xs h=>⟨(m.pin a xs h).1,(sl a xs (m.pin a xs h).1 (m.pin a xs h).2).2⟩,fun a xs h=>st a xs (m.pit a xs h),m.nm⟩
  ·have:a≠l:=fun z=>hF (by rw[<- z];exact h);rw[dM this];exact m.fok a h
  ·have:b≠l:=fun z=>by rw[z,lB]at hbo;cases hbo
   rw[dM this];exact m.same _ _ hbo
  ·have:a∈(l::fl)++g:=p2.mem_iff.mp (k_ _ ha);rcases u_.mp this with z|z
   ·rcases j_.mp z with rfl|z
    ·exact lB
    ·rcases u_.mp (inFl a z) with z|z
     ·exact hb a z
     ·exact m.own a (h4.mem_iff.mpr (k_ _ (q_ _ z)))
   ·exact m.own a (h4.mem_iff.mpr (m_ _ z))
theorem MReps.set {w:V}{d:D}{fv:List Ψ}(mw:MRep K F H w d fv):∀ {xs:List V}{ds:List D}{fi:List Ψ} (j:Nat),MReps K F H xs ds fi->∃fl h,MReps K F H (xs.set j w) (ds.set j d) fl/\(fl++h).Perm (fv++fi)
 |_,_,_,_,.nil=>⟨[],_,.nil,.refl _⟩
 |_,_,_,0,.cons (f:=f0) (g:=g0) m1 m2=>⟨_,f0,.cons mw m2,by rw[o_];exact EW _ EU⟩
 |_,_,_,j+1,.cons (f:=f0) (g:=g0) m1 m2=>by obtain⟨fl,h,h1,h2⟩:=MReps.set mw j m2;refine⟨f0++fl,h,.cons m1 h1,?_⟩;rw[o_];refine(EW f0 h2).trans ?_;rw[<- o_,<- o_];exact List.Perm.append_right g0 EU
theorem MReps.snoc {w:V}{d:D}{fv:List Ψ}(mw:MRep K F H w d fv){xs:List V}{ds:List D}{fi:List Ψ}(m:MReps K F H xs ds fi):∃fl h,MReps K F H (xs++[w]) (ds++[d]) fl/\(fl++h).Perm (fv++fi):=
 ⟨fi++(fv++[]),[],m.append (.cons mw .nil),by rw[D_,D_];exact EU⟩
end
noncomputable def notTuple:Expr->Bool
 |.Tuple ..=>Θ
 |_=>Δ
noncomputable def isName:Expr->Bool
 |.Name ..=>Δ
 |_=>Θ
noncomputable def isTup:Expr->Bool
 |.Tuple ..=>Δ
 |_=>Θ
noncomputable def civ:Stmt->(Expr->Str->List Expr->Bool)->Bool
 |.Assign [t] (.Call (.Name xf _) args [] _) _,k=>k t xf args
 |_,_=>Θ
theorem uF {s:Stmt}{k:Expr->Str->List Expr->Bool}(h:civ s k=Δ):∃t xf p args q pos,s=.Assign [t] (.Call (.Name xf p) args [] q) pos/\k t xf args=Δ:=by
 unfold civ at h;split at h
 ·exact⟨_,_,_,_,_,_,rfl,h⟩
 ·cases h
noncomputable def upv:Stmt->(Str->Str->Bool->Str->Bool)->Bool
 |.Expr (.Call (.Attribute (.Name x _) name apos) [.Name y _] [] cpos) _,k=>k x name (apos.endLine == cpos.line) y
 |_,_=>Θ
theorem AZ {s:Stmt}{k:Str->Str->Bool->Str->Bool}(h:upv s k=Δ):∃x px name apos y py cpos pos,s=.Expr (.Call (.Attribute (.Name x px) name apos) [.Name y py] [] cpos) pos/\k x name (apos.endLine == cpos.line) y=Δ:=by
 unfold upv at h;split at h
 ·exact⟨_,_,_,_,_,_,_,_,rfl,h⟩
 ·cases h
noncomputable def mvv:Stmt->(Expr->Expr->Bool)->Bool
 |.Assign [.Name x p] (.Name y q) _,k=>k (.Name x p) (.Name y q)
 |_,_=>Θ
theorem A1 {s:Stmt}{k:Expr->Expr->Bool}(h:mvv s k=Δ):∃x p y q pos,s=.Assign [.Name x p] (.Name y q) pos/\k (.Name x p) (.Name y q)=Δ:=by
 unfold mvv at h;split at h
 ·exact⟨_,_,_,_,_,rfl,h⟩
 ·cases h
noncomputable def mxv:Stmt->(Expr->Str->Expr->Bool)->Bool
 |.Assign [.Name x p] (.Subscript (.Name y _) b _) _,k=>k (.Name x p) y b
 |_,_=>Θ
theorem A3 {s:Stmt}{k:Expr->Str->Expr->Bool}(h:mxv s k=Δ):∃x p y q b sp pos,s=.Assign [.Name x p] (.Subscript (.Name y q) b sp) pos/\k (.Name x p) y b=Δ:=by
 unfold mxv at h;split at h
 ·exact⟨_,_,_,_,_,_,_,rfl,h⟩
 ·cases h
noncomputable def dyv:Stmt->(Str->Expr->Expr->Bool)->Bool
 |.Assign [.Subscript (.Name x _) s _] v _,k=>k x s v
 |_,_=>Θ
theorem A4 {s:Stmt}{k:Str->Expr->Expr->Bool}(h:dyv s k=Δ):∃x p sx sp v pos,s=.Assign [.Subscript (.Name x p) sx sp] v pos/\k x sx v=Δ:=by
 unfold dyv at h;split at h
 ·exact⟨_,_,_,_,_,_,rfl,h⟩
 ·cases h
noncomputable def dpv:Stmt->(Str->Expr->Expr->Expr->Bool)->Bool
 |.Assign [.Tuple [.Subscript (.Name x _) s _,.Name y yp] _ _] v _,k=>k x s (.Name y yp) v
 |_,_=>Θ
theorem A5 {s:Stmt}{k:Str->Expr->Expr->Expr->Bool}(h:dpv s k=Δ):∃x p sx sp y yp tn tp v pos,s=.Assign [.Tuple [.Subscript (.Name x p) sx sp,.Name y yp] tn tp] v pos/\k x sx (.Name y yp) v=Δ:=by
 unfold dpv at h;split at h
 ·exact⟨_,_,_,_,_,_,_,_,_,_,rfl,h⟩
 ·cases h
noncomputable def clv:Stmt->(Expr->Expr->Str->Expr->Str->Expr->Str->Str->Bool->Bool)->Bool
 |.For t (.BinOp (.Subscript (.Name x _) c0 _) .Add (.List [.Tuple [n,.Subscript (.Name y _) c1 _] _ _] _) _) [.Expr (.Call (.Attribute (.Name b _) name apos) [] [] cpos) _] [] _,k=>k t n x c0 y c1 b name (apos.endLine == cpos.line)
 |_,_=>Θ
theorem A6 {s:Stmt}{k:Expr->Expr->Str->Expr->Str->Expr->Str->Str->Bool->Bool}(h:clv s k=Δ):∃t x px c0 sp0 n y py c1 sp1 tn tp lp bp b bpp name apos cpos ep pos,s=.For t (.BinOp (.Subscript (.Name x px) c0 sp0) .Add (.List [.Tuple [n,.Subscript (.Name y py) c1 sp1] tn tp] lp) bp) [.Expr (.Call (.Attribute (.Name b bpp) name apos) [] [] cpos) ep] [] pos/\k t n x c0 y c1 b name (apos.endLine == cpos.line)=Δ:=by
 unfold clv at h;split at h
 ·exact⟨_,_,_,_,_,_,_,_,_,_,_,_,_,_,_,_,_,_,_,_,_,rfl,h⟩
 ·cases h
mutual
noncomputable def sT (Z:Sg)(G:Gm):IS->Stmt->Bool
 |.asg tg e,.Assign [t] v _=>fM G tg t&&chk Z G e v&&(isName t||(isTup t&&notTuple v))&&wY e
 |.setix i k e,.Assign [.Subscript (.Name x _) s _] v _=>gb G i x&&fe s&&chk Z G k s&&chk Z G e v
 |.dset i k e,.Assign [.Subscript (.Name x _) s _] v _=>gb G i x&&fe s&&chk Z G k s&&chk Z G e v
 |.reti i e,.Return (Γ v) _=>G.io == Γ i&&chk Z G e v
 |.app i e,.Expr (.Call (.Attribute (.Name x _) name apos) [v] [] cpos) _=>gb G i x&&name == "append"&&apos.endLine == cpos.line&&notStar v&&chk Z G e v
 |.dof j e,s=>civ s fun t xf args=>isName t&&fM G (.nm j) t&&xf == "dict"&&G.glc 19&&ft Z G [e] args
 |.dupd i j,s=>upv s fun x n l y=>gb G i x&&n == "update"&&l&&gb G j y&&decide (i≠j)
 |.cio j f es i es2 th,s=>civ s fun t xf args=>isName t&&fM G (.nm j) t&&G.cm&&(jo Z G f xf&&Z.fio.contains f)&&ft Z G (es++.v i::es2) args&&!(cw es++cw es2).contains i&&decide (i≠j)&&thN j i th
 |.mov j i,s=>mvv s fun t v=>fM G (.nm j) t&&chk Z G (.v i) v
 |.mvx j i k,s=>mxv s fun t y b=>fM G (.nm j) t&&gb G i y&&chk Z G (.c (.int k)) b&&fe b
 |.dsety i k e,s=>dyv s fun x sx v=>gb G i x&&chk Z G k sx&&chk Z G e v
 |.dsetp i k j e,s=>dpv s fun x sx t v=>gb G i x&&fe sx&&chk Z G k sx&&chk Z G e v&&fM G (.nm j) t&&G.cm&&notTuple v
 |.clrA a b i,s=>clv s fun t n x c0 y c1 bn name l=>G.cm&&G.rs&&fM G (.tp [.nm a,.nm b]) t&&chk Z G (.c .non) n&&notStar n&&gb G i x&&gb G i y&&chk Z G (.c (.int 0)) c0&&fe c0&&chk Z G (.c (.int 1)) c1&&fe c1&&gb G b bn&&name == "clear"&&l&&decide (a≠b)
 |.ret e,.Return (Γ v) _=>chk Z G e v
 |.if_ t a b,.If c x y _=>chk Z G t c&&ic Z G a x&&ic Z G b y
 |.for_ tg s body,.For t it b [] _=>((G.cm&&G.rs)&&fM G tg t)&&(gU Z G s it&&jq s t)&&ic Z G body b
 |.never,_=>Δ
 |_,_=>Θ
noncomputable def ic (Z:Sg)(G:Gm):List IS->List Stmt->Bool
 |[],[]=>Δ
 |a::as,s::ss=>sT Z G a s&&ic Z G as ss
 |_,_=>Θ
end
noncomputable def yO:IS->Bool
 |_=>Θ
theorem qc {Z:Sg}{G:Gm}{a:IS}{as:List IS}{s:Stmt}{ss:List Stmt}(h:yO a=Θ):ic Z G (a::as) (s::ss)=(sT Z G a s&&ic Z G as ss):=by
 induction a using zT<;>first|rfl|cases h
section
variable {Z:Sg}{CX:CXT}{cl:Nat->List D->Res D}{xp:XK->Hp->Str->Prop}{X:Cx}{ex:Str->Prop}{G:Gm}
theorem uG {tg:Tg}{t:Expr}(ht:fM G tg t=Δ){ga:Ev->Res (D×Ev)}{Dn:Ends}{σ:St}{H:Hp}(h:RS X.K G.io ex (fun τ=>bnd (ga τ) fun p=>bnd (gR tg p.1 p.2) fun τ'=>.ok (.nx τ')) Dn σ H):Ab (RO X.K ex ga) (gT X.K tg) Dn σ H:=by obtain⟨B,F,τ,f,m,q⟩:=h;refine m.ro (PO'.bnd q) fun p v H' F' fv f' o hp=>?_;obtain⟨m',hb⟩:=m.ow o;exact m'.gT o.rep o.nod hb (iT tg t ht) (PO'.bnd hp) fun τ' σ' f'' m'' h'=>h'.ok _ _ _ _ m''
theorem st_asg (g:GOk Z CX cl xp X ex G){tg:Tg}{e:IR}{t v:Expr}{pos:Pos}(ht:fM G tg t=Δ)(hv:chk Z G e v=Δ)(hc:(isName t||(isTup t&&notTuple v))=Δ)(hw:wY e=Δ):PS X (.Assign [t] v pos) (RS X.K G.io ex (evS cl (.asg tg e))):=by
 have pe:=snO e Θ X ex G v g hv;have pg:=pgT g tg t ht
 induction t using zE with
 |Name x px=>
  cases tg with
  |tp _=>cases ht
  |nm i=>
   have ht':(G.N[i]? == Γ x&&(G.kd[i]? == Γ .local||(G.df&&G.kd[i]? == Γ .cell)))=Δ:=(EA.mp ht).1;rw[d_,EJ,d_]at ht';have hx:G.N[i]? = Γ x:=g_ ht'.1;have hk:=g.kd i x hx;have hloc:Loc X.env.scope x:=ht'.2.elim (fun z=>.inl (hk.trans (g_ z))) fun z=>.inr (hk.trans (g_ z.2));have hfn:X.fn x=Δ∨X.env.scope.names.lookup x=Γ .local:=ht'.2.elim (fun z=>.inr (hk.trans (g_ z))) fun z=>.inl (g.df z.1 x);have plain:swapsWith v (Γ (.Name x px)) pos.line X.env=pure Θ->PS X (.Assign [.Name x px] v pos) (RS X.K G.io ex (evS cl (.asg (.nm i) e))):=fun hs=>
    fS (kx (i:=i) (by rw[g.N];exact g.nod) (by rw[g.N];exact hx) hloc pe hs hfn) fun Dn σ H h=>uG ht h
   induction v using zE with
   |ListComp el gens scope vpos=>
    have hsw:swapsWith (.ListComp el gens scope vpos) (Γ (.Name x px)) pos.line X.env=pure (X.env.blockKind == .function&&X.env.kindOf x == Γ .local&&px.line == vpos.line&&!(scope.names.any fun(n,k)=>n == x&&(k == .local||k == .cell))):=rfl;cases hb:(X.env.blockKind == .function&&X.env.kindOf x == Γ .local&&px.line == vpos.line&&!(scope.names.any fun(n,k)=>n == x&&(k == .local||k == .cell))) with
    |false=>exact plain (by rw[hsw,hb])
    |true=>
     rw[hb]at hsw;have hlx:X.env.kindOf x=Γ .local:=by simp only[d_]at hb;exact g_ hb.1.1.2
     cases e with
     |comp G' fr T src ifs elt=>
      have hv:p7 gens (fun t it fs=>gu Z G scope G' fr&&fM G' T t&&(tgs T).all (fun i=>decide (fr.length<=i))&&(gU Z G src it&&jq src t)&&ft Z G' ifs fs&&chk Z G' elt el)=Δ:=hv;obtain⟨t,it,fs,rfl,hv⟩:=kj hv;have h':(gu Z G scope G' fr&&fM G' T t&&(tgs T).all (fun i=>decide (fr.length<=i))&&(gU Z G src it&&jq src t)&&ft Z G' ifs fs&&chk Z G' elt el)=Δ:=hv;simp only[d_]at h';have hs:=km h'.1.1.1.1.1;have hT:=h'.1.1.1.1.2;have ha:∀i∈tgs T,fr.length<=i:=fun i hi=>r_ (ED.mp h'.1.1.1.2 i hi);intro pins s' σ H Dn Iv h;obtain⟨cl',S⟩:=iU g Iv.ok hs;have p:=wK (py:=px) (spos:=pos) (i:=i) (pos:=vpos) (elt:=el) (ifs:=fs) (tg:=t) (g:=gT X.K T) (tt:=RT X.K nox (cw ifs) (iM cl ifs)) (te:=RD X.K nox (vars elt) (evR cl elt)) (g.calm hs.cm) (by rw[g.N];exact g.nod) (by rw[g.N];exact hx) hlx S (uC src X ex G it t g h'.1.1.2.1 h'.1.1.2.2) (fun C s H fp=>pgT (gf g hs cl' C s H fp) T t hT)
       (fun C s H fp=>uB ifs _ nox G' fs (gf g hs cl' C s H fp) h'.1.2) (fun C s H fp=>(snd elt _ nox G' el (gf g hs cl' C s H fp) h'.2).1) hsw (fun x=>gM h'.1.1.2.1 X.env x)
      refine p pins s' σ H Dn Iv ?_;obtain⟨B,F,τ,f,m,q⟩:=h
      -- as one that is kept
      have q0:PO' ex (bnd (bnd (evR cl (.comp G' fr T src ifs elt) τ) fun d=>.ok (fH (.comp G' fr T src ifs elt) d τ)) fun p=>bnd (gR (.nm i) p.1 p.2) fun τ'=>.ok (.nx τ')) (Fk X.K B Dn):=q;have q1:=PO'.bnd (PO'.bnd q0);have fin:∀(d:D) (v:V) (H':Hp) (F':Ψ->Prop) (fv f':List Ψ),Ow X.K F H f F' H' σ v (fH (.comp G' fr T src ifs elt) d τ).1 fv (fH (.comp G' fr T src ifs elt) d τ).2 f'->(∀(p:D×Ev),p=fH (.comp G' fr T src ifs elt) d τ->PO' ex (bnd (gR (.nm i) p.1 p.2) fun τ'=>.ok (.nx τ')) (Fk X.K B Dn))->Dn.nx (σ.set i (Γ v)) H':=by intro d v H' F' fv f' o hp;obtain⟨m',hb'⟩:=m.ow o;have:=m'.gT (t:=.nm i) (Q:=Dn.nx) o.rep o.nod hb' (iT _ _ ht) (PO'.bnd (hp _ rfl)) fun τ' σ' f'' m'' h'=>h'.ok _ _ _ _ m'';exact this
      cases z:evR cl (.comp G' fr T src ifs elt) τ with
      |error er=>
       rw[z]at q1;cases er with
       |stuck=>exact q1.no.elim
       |exc c=>refine iB (S:=fun _=>True) (τ:=τ) (ex:=ex) (Kt:=fun _=>False) hs.fle ha (gh m.rps) ?_ fun A ys ds H' e hA hA' mm k=>k.elim;show PO' ex (evR cl (.comp G' fr T src ifs elt) τ) _;rw[z];exact q1
      |ok d=>
       rw[z]at q1;have q2:=q1.ok.ok;obtain⟨o',ds,rfl⟩:∃o ds,d=.lst o ds:=by have zz:=z;rw[jF]at zz;obtain⟨its,_,zz⟩:=gY zz;obtain⟨_,zz⟩:=pV zz;obtain⟨ds,_,zz⟩:=gY zz;cases zz;exact⟨Δ,ds,rfl⟩
       by_cases hi:cA ds=Δ
       ·have hkp:fH (.comp G' fr T src ifs elt) (.lst o' ds) τ=(.lst Δ ds,τ):=by unfold fH;rw[b_ (show ¬fE (.lst o' ds)=Δ by intro z;cases z)];show(if cA ds=Δ then _ else _)=_;rw[c_ hi]
        refine iB (S:=fun _=>True) (τ:=τ) (ex:=ex) (Kt:=fun d'=>∃o'',d'=.lst o'' ds) hs.fle ha (gh m.rps) ?_ fun A ys ds' H' e hA hA' mm k=>?_
        ·show PO' ex (evR cl (.comp G' fr T src ifs elt) τ) _;rw[z];exact⟨o',rfl⟩
        ·obtain⟨o'',k⟩:=k;cases k;obtain⟨k1,k2,k3⟩:=jf m.fok m.rps e;refine fin (.lst o' ds) (.ref A) H' F [A] f ?_ (fun p hp=>by subst hp;exact q2);rw[hkp];refine⟨k3,k1,.lstO (fun zz=>m.fok A zz hA) hA' (mm.free hi),k2,?_,fun a ha=>?_⟩
         ·rw[ER,y_];refine⟨fun zz=>?_,m.nod⟩;obtain⟨_,xs,e⟩:=m.rps.own A zz;rw[hA]at e;cases e
         ·rw[ER]at ha;rcases j_.mp ha with rfl|ha
          ·exact .inr hA
          ·exact .inl ha
       ·have hkp:fH (.comp G' fr T src ifs elt) (.lst o' ds) τ=(.lst Δ (ers ds),frz (vars (.comp G' fr T src ifs elt)) τ):=by
         unfold fH;rw[b_ (show ¬fE (.lst o' ds)=Δ by intro z;cases z)];show(if cA ds=Δ then _ else if iI (.comp G' fr T src ifs elt) ds=Δ then _ else _)=_;have hw':prE elt=Θ:=by simpa[wY] using hw
         rw[b_ hi,b_ (by show ¬(prE elt&&ds.all prD)=Δ;rw[hw'];simp)]
        obtain⟨F1,gg,b1,b2,b3,b4,b5,b6⟩:=iV (vars (.comp G' fr T src ifs elt)) m.fok m.rps m.nod;refine iB (S:=F1) (τ:=τ) (ex:=ex) (Kt:=fun d'=>∃o'',d'=.lst o'' ds) hs.fle ha b6 ?_ fun A ys ds' H' e hA hA' mm k=>?_
        ·show PO' ex (evR cl (.comp G' fr T src ifs elt) τ) _;rw[z];exact⟨o',rfl⟩
        ·obtain⟨o'',k⟩:=k;cases k;obtain⟨c1,c2,c3⟩:=grow (fun a=>a≠A) b1 b2 e;have m2:HReps X.K (fun a=>F1 a∨(a≠A/\H a=Ξ/\H' a≠Ξ)) H' ys ds:=mm.step (fun a xs h r=>⟨h.1.elim (fun z=>.inl z) fun z=>.inr ⟨h.2,z,r.some⟩,r⟩) fun a xs h=>h;refine fin (.lst o' ds) (.ref A) H' (fun a=>F1 a∨(a≠A/\H a=Ξ/\H' a≠Ξ)) [A] gg ?_ (fun p hp=>by subst hp;exact q2);rw[hkp];refine⟨b4.trans c3 (fun x hx=>.inl (b5 x hx)),c1,.lstO (fun zz=>?_) hA' m2.frozen,c2,?_,fun a ha=>?_⟩
         ·rcases zz with zz|zz
          ·exact b1 A zz hA
          ·exact zz.1 rfl
         ·rw[ER,y_];refine⟨fun zz=>?_,b3⟩;obtain⟨_,xs,e⟩:=b2.own A zz;rw[hA]at e;cases e
         ·rw[ER]at ha;rcases j_.mp ha with rfl|ha
          ·exact .inr hA
          ·exact .inl (b5 a ha)
     |_=>first|exact aM hv|cases hv
   |SetComp _ _ _ _=>cases e<;>first|exact aM hv|cases hv
   |DictComp _ _ _ _ _=>cases e<;>first|exact aM hv|cases hv
   |_=>exact plain rfl
 |Tuple ts k px=>
  have hc':notTuple v=Δ:=hc;refine fS (pH pe pg ?_ ?_ rfl) fun Dn σ H h=>uG ht h
  ·induction v using zE<;>rfl
  ·induction v using zE<;>first|rfl|cases hc'
 |_=>cases hc
end
theorem SqE.updD {K:Frag}{H:Hp}{a l:Ψ}{xs:List V ⊕ Str}{ys zs:List (Key×V)}(hl:H l=Γ (.dK ys))(h:SqE K H a xs):SqE K (L2.upd H l (.dK zs)) a xs:=by
 cases xs with
 |inl xs=>
  rcases h with h|h
  ·have:a≠l:=by rintro rfl;rcases h with h|⟨o,h⟩<;>(rw[hl]at h;cases h)
   refine .inl ?_;unfold Rd;rw[dM this];exact h
  ·exact .inr h
 |inr c=>
  obtain⟨C,o,vs,h0,h1,h2,h3⟩:=h;have:a≠l:=by rintro rfl;rw[hl]at h2;cases h2
  exact⟨C,o,vs,h0,h1,by rw[dM this];exact h2,h3⟩
theorem MReps.noF {K:Frag}{F:Ψ->Prop}{H:Hp}{vs:List V}{ds:List D}{f:List Ψ}(h:MReps K F H vs ds f)(n:cA ds=Δ):f=[]:=by refine MReps.rec (motive_1:=fun _ d f _=>fE d=Δ->f=[]) (motive_2:=fun _ d f _=>cA d=Δ->f=[]) (fun _=>rfl) (fun _ _=>rfl) (fun _ _=>rfl) (fun _ _=>rfl) (fun _ _=>rfl) (fun _ _ i z=>i z) (fun _ _ _ _ _=>rfl) (fun _ _ _ _=>rfl) (fun _ _ _ _ z=>aM z) (fun _ _ _ _ _ _=>rfl) (fun _ _ _ _ _ z=>aM z) (fun _=>rfl) (fun {v d f vs ds g} _ _ i j z=>?_) h n;have z':=EA.mp (show(fE d&&cA ds)=Δ from z);rw[i z'.1,j z'.2];rfl
theorem MReps.noO {K:Frag}{F:Ψ->Prop}{H:Hp}{vs:List V}{ds:List D}{f:List Ψ}(h:MReps K F H vs ds f)(n:fq ds=Δ):f=[]:=by refine MReps.rec (motive_1:=fun _ d f _=>kM d=Δ->f=[]) (motive_2:=fun _ d f _=>fq d=Δ->f=[]) (fun _=>rfl) (fun _ _=>rfl) (fun _ _=>rfl) (fun _ _=>rfl) (fun _ _=>rfl) (fun _ _ i z=>i z) (fun _ _ _ _ _=>rfl) (fun _ _ _ _=>rfl) (fun _ _ _ _ z=>aM z) (fun _ _ _ _ _ _=>rfl) (fun _ _ _ _ _ z=>aM z) (fun _=>rfl) (fun {v d f vs ds g} _ _ i j z=>?_) h n;have z':=EA.mp (show(kM d&&fq ds)=Δ from z);rw[i z'.1,j z'.2];rfl
theorem g9 {K:Frag}{F:Ψ->Prop}{H:Hp}{σ:St}{τ:Ev}{f:List Ψ}{i:Nat}{ks:List Key}{ds:List D}(r:Rps K F H σ τ f)(hs:cq τ i=Γ (.dct Δ ks ds))(n:fq ds=Δ) :
  ∃l kvs g,σ[i]? = Γ (Γ (.ref l))/\¬F l/\H l=Γ (.dK kvs)/\kvs.map (·.1)=ks/\MReps K F H (kvs.map (·.2)) ds []/\Rps K F H σ (τ.set i Ξ) g/\f.Perm (l::g):=by
 obtain⟨v,fs,g,h1,h2,h3,h4⟩:=r.at hs;cases h2 with
 | @dctO a kvs _ _ fi hF hH hk hm=>have e:=hm.noO n;subst e;exact⟨a,kvs,g,h1,hF,hH,hk,hm,h3,h4⟩
theorem qY {K:Frag}{F:Ψ->Prop}{H:Hp}{σ:St}{τ:Ev}{f:List Ψ}{i:Nat}{ks:List Key}{ds:List D}(r:Rps K F H σ τ f)(hs:cq τ i=Γ (.dct Δ ks ds))(n:cA ds=Δ) :
  ∃l kvs g,σ[i]? = Γ (Γ (.ref l))/\¬F l/\H l=Γ (.dK kvs)/\kvs.map (·.1)=ks/\MReps K F H (kvs.map (·.2)) ds []/\Rps K F H σ (τ.set i Ξ) g/\f.Perm (l::g):=by
 obtain⟨v,fs,g,h1,h2,h3,h4⟩:=r.at hs;cases h2 with
 | @dctO a kvs _ _ fi hF hH hk hm=>have e:=hm.noF n;subst e;exact⟨a,kvs,g,h1,hF,hH,hk,hm,h3,h4⟩
theorem Frm.writeD2 {K:Frag}{io:Option Nat}{B:Bs io}{F:Ψ->Prop}{H:Hp}{σ:St}{τ:Ev}{f g:List Ψ}{i:Nat}{l:Ψ}{kvs kvs':List (Key×V)}{ks':List Key}{ds':List D}(m:Frm K B F H σ τ f)(hσ:σ[i]? = Γ (Γ (.ref l)))(hF:¬F l)(hl:H l=Γ (.dK kvs))(hr:Rps K F H σ (τ.set i Ξ) g)(h4:f.Perm (l::g))
  (hk:kvs'.map (·.1)=ks') (hm:MReps K F H (kvs'.map (·.2)) ds' []):∃f',Frm K B F (upd H l (.dK kvs')) σ (τ.set i (Γ (.dct Δ ks' ds'))) f'/\∀a∈f',a∈f:=by
 have nd0:(l::g).Nodup:=h4.nodup_iff.mp m.nod;have lg:l∉g:=(y_.mp nd0).1;have sl:∀a (u:LD),F a->Rd H a u.o->F a/\Rd (upd H l (.dK kvs')) a u.o:=fun a xs h r=>by refine⟨h,?_⟩;have:a≠l:=fun z=>hF (by rw[<- z];exact h);unfold Rd;rw[dM this];exact r
 have st:∀a xs,SqE K H a xs->SqE K (upd H l (.dK kvs')) a xs:=fun a xs h=>h.updD hl;have r1:Rps K F (upd H l (.dK kvs')) σ (τ.set i Ξ) g:=hr.step sl st fun a ha n _=>⟨n,dM fun z=>lg (by rw[<- z];exact ha)⟩
 have m1:MRep K F (upd H l (.dK kvs')) (.ref l) (.dct Δ ks' ds') [l]:=.dctO hF dP hk (hm.step sl st gE);obtain⟨g',h',r2,p2⟩:=r1.put i m1;have hσ':σ.set i (Γ (.ref l))=σ:=by
  apply List.ext_getElem?;intro j;rw[List.getElem?_set];by_cases hj:i=j
  ·subst hj;rw[c_ rfl,c_ (B_.mp hσ).1,hσ]
  ·rw[b_ hj]
 rw[hσ',List.set_set]at r2;have nd2:(g'++h').Nodup:=p2.nodup_iff.mpr nd0;have lB:B.H l=Ξ:=m.own l (h4.mem_iff.mpr (by simp));refine⟨g',⟨fun a h=>?_,r2,(h_.mp nd2).1,fun b o hbo=>?_,fun a ha=>m.own a (h4.mem_iff.mpr (p2.mem_iff.mp (k_ _ ha))),m.inn,m.out,fun a xs h=>⟨(m.pin a xs h).1,(sl a xs (m.pin a xs h).1 (m.pin a xs h).2).2⟩,fun a xs h=>st a xs (m.pit a xs h),m.nm⟩,fun a ha=>h4.mem_iff.mpr (p2.mem_iff.mp (k_ _ ha))⟩
 ·have:a≠l:=fun z=>hF (by rw[<- z];exact h);rw[dM this];exact m.fok a h
 ·have:b≠l:=fun z=>by rw[z,lB]at hbo;cases hbo
  rw[dM this];exact m.same _ _ hbo
theorem Frm.writeD {K:Frag}{io:Option Nat}{B:Bs io}{F:Ψ->Prop}{H:Hp}{σ:St}{τ:Ev}{f g:List Ψ}{i:Nat}{l:Ψ}{kvs kvs':List (Key×V)}{ks':List Key}{ds':List D}(m:Frm K B F H σ τ f)(hσ:σ[i]? = Γ (Γ (.ref l)))(hF:¬F l)(hl:H l=Γ (.dK kvs))(hr:Rps K F H σ (τ.set i Ξ) g)(h4:f.Perm (l::g))
  (hk:kvs'.map (·.1)=ks') (hm:MReps K F H (kvs'.map (·.2)) ds' []):∃f',Frm K B F (upd H l (.dK kvs')) σ (τ.set i (Γ (.dct Δ ks' ds'))) f':=by
 obtain⟨f',m',_⟩:=m.writeD2 hσ hF hl hr h4 hk hm;exact⟨f',m'⟩
section
variable {K:Frag}{S:Ψ->Prop}{H:Hp}
theorem has_any (kvs:List (Key×V))(q:Key):(kvs.any fun kv=>decide (kv.1=q))=oK (kvs.map (·.1)) q:=by unfold oK;rw[List.any_map];rfl
theorem uH (kvs:List (Key×V))(q:Key)(v:V):(putK kvs q v).map (·.1)=f9 (kvs.map (·.1)) q:=by
 unfold putK f9;rw[has_any];by_cases h:oK (kvs.map (·.1)) q=Δ
 ·rw[c_ h,c_ h,EB];refine E0 fun kv _=>?_;show(if kv.1=q then(kv.1,v) else kv).1=kv.1;split<;>rfl
 ·rw[b_ h,b_ h,A_];rfl
theorem uI (q:Key){v:V}{d:D}(mv:HRep K S H v d){kvs:List (Key×V)}{ds:List D}(m:HReps K S H (kvs.map (·.2)) ds):HReps K S H ((putK kvs q v).map (·.2)) (fL (kvs.map (·.1)) ds q d):=by
 unfold putK fL;rw[has_any];by_cases h:oK (kvs.map (·.1)) q=Δ
 ·rw[c_ h,c_ h,EB];clear h
  induction kvs generalizing ds with
  |nil=>cases m;exact .nil
  |cons p kvs ih=>
   rw[a_]at m
   induction ds using zL with
   |nil=>exact absurd m.length (by simp)
   |cons e ds=>
    cases m with
    |cons m1 m2=>
     rw[a_,a_,List.zipWith_cons_cons];refine .cons ?_ (ih m2);show HRep K S H (if p.1=q then(p.1,v) else p).2 (if p.1=q then d else e);split
     ·exact mv
     ·exact m1
 ·rw[b_ h,b_ h,A_];exact m.append (.cons mv .nil)
theorem uJ {ks:List Key}{ds:List D}{q:Key}{d:D}(h1:cA ds=Δ)(h2:fE d=Δ):cA (fL ks ds q d)=Δ:=by
 unfold fL;rw[fO]at h1;rw[fO,ED];rw[ED]at h1;intro x hx;split at hx
 ·rw[List.mem_iff_getElem?]at hx;obtain⟨i,hi⟩:=hx;rw[List.getElem?_zipWith]at hi;split at hi
  ·rename_i a b e1 e2
   cases hi;split
   ·exact h2
   ·exact h1 _ (EM e2)
  ·cases hi
 ·rcases u_.mp hx with hx|hx
  ·exact h1 x hx
  ·rw[C_.mp hx];exact h2
end
section
variable {Z:Sg}{CX:CXT}{cl:Nat->List D->Res D}{xp:XK->Hp->Str->Prop}{X:Cx}{ex:Str->Prop}{G:Gm}
theorem st_dset (g:GOk Z CX cl xp X ex G){i:Nat}{k e:IR}{x:Str}{p sp pos:Pos}{s v:Expr}(h1:gb G i x=Δ)(h2:fe s=Δ)(h3:chk Z G k s=Δ)(h4:chk Z G e v=Δ) :
  PS X (.Assign [.Subscript (.Name x p) s sp] v pos) (RS X.K G.io ex (evS cl (.dset i k e))):=by
 have hu:=g.un;refine fS (qF (by omega) (iC g h1) (snd k X ex G s g h3).1 (snd e X ex G v g h4).1 (by induction v using zE<;>rfl)) fun Dn σ H h=>?_;obtain⟨B,F,τ,f,m,q⟩:=h;have q0:PO' ex (bnd (evR cl e τ) fun d=>match cq τ i with|some (.dct Δ ks ds)=>bnd (evR cl k τ) fun y=>(match iq y with|some q=>grd (fE d&&cA ds&&hU ks.length) (.ok (.nx (τ.set i (Γ (.dct Δ (f9 ks q) (fL ks ds q d))))))|none=>stk)|_=>stk) (Fk X.K B Dn):=q;refine m.rd (PO'.bnd q0) fun d w H1 m1 e1 mw q1=>?_;cases z0:cq τ i with
 |none=>rw[z0]at q1;exact q1.no.elim
 |some d0=>
  rw[z0]at q1
  induction d0 using zD with
  |dct ow ks ds=>
   induction ow using zB with
   |false=>exact q1.no.elim
   |true=>
    obtain⟨v0,hv0,_⟩:∃v0,σ[i]? = Γ (Γ v0)/\True:=by obtain⟨v0,_,_,h,_⟩:=m1.rps.at z0;exact⟨v0,h,trivial⟩
    refine⟨v0,hv0,m1.rd (PO'.bnd q1) fun y w2 H2 m2 e2 mw2 q2=>?_⟩;cases hk:iq y with
    |none=>simp only[hk]at q2;exact q2.no.elim
    |some qk=>
     simp only[hk]at q2;obtain⟨gd,q2⟩:=PO'.grd q2;rw[d_,d_]at gd;obtain⟨l,kvs,g0,hσ,hF,hl,hks,hm,hr,hp⟩:=qY m2.rps z0 gd.1.2;rw[hv0]at hσ;cases hσ;subst hks;have hm1:HReps X.K (fun _=>True) H2 (kvs.map (·.2)) ds:=hm.read (fun _ _=>trivial) fun _ _=>trivial;have mw1:HRep X.K (fun _=>True) H2 w d:=mw.mono (fun _ _=>trivial) e2;have hm2:MReps X.K F H2 ((putK kvs qk w).map (·.2)) (fL (kvs.map (·.1)) ds qk d) []:=(uI qk mw1 hm1).free (uJ gd.1.2 gd.1.1);obtain⟨f',m3⟩:=m2.writeD hv0 hF hl hr hp (uH kvs qk w) hm2;have hlen:kvs.length < Ε:=by
      have:=iQ gd.2
      rwa [f_]at this
     exact⟨l,_,rfl,.inl ⟨kvs,qk,hl,iS mw2 hk,hlen,rfl⟩,q2.ok _ _ _ _ m3⟩
  |_=>exact q1.no.elim
theorem kY (is:List Nat):∀(τ:Ev) (k i:Nat),is.contains (k+i)=Θ->cq (jT is k τ) i=cq τ i
 |[],k,i,h=>rfl
 |o::τ,k,0,h=>by unfold jT;rw[gN,gN,b_ (by rw[show k=k+0 from rfl,h];simp)]
 |o::τ,k,i+1,h=>by unfold jT;rw[gG,gG];exact kY is τ (k+1) i (by rw[<- h];congr 1;omega)
end
section
variable {Z:Sg}{CX:CXT}{cl:Nat->List D->Res D}{xp:XK->Hp->Str->Prop}{X:Cx}{ex:Str->Prop}{G:Gm}
theorem uK {K:Frag}{F:Ψ->Prop}{H:Hp}{σ:St}{τ:Ev}{f:List Ψ}{i:Nat}{ds:List D}(r:Rps K F H σ τ f)(hs:cq τ i=Γ (.lst Δ ds)):∃l xs,σ[i]? = Γ (Γ (.ref l))/\H l=Γ (.lst xs)/\xs.length=ds.length:=by
 obtain⟨v,fs,g,h1,h2,h3,h4⟩:=r.at hs;cases h2 with
 |lstO hF hH hm=>exact⟨_,_,h1,hH,hm.length⟩
end
section
variable {Z:Sg}{CX:CXT}{cl:Nat->List D->Res D}{xp:XK->Hp->Str->Prop}{X:Cx}{ex:Str->Prop}{G:Gm}{pins:List (Ψ×Obj)}
theorem Frm.put {io:Option Nat}{B:Bs io}{F:Ψ->Prop}{H:Hp}{σ:St}{τ:Ev}{f fv:List Ψ}{v:V}{d:D}(i:Nat)(m:Frm X.K B F H σ τ f)(mv:MRep X.K F H v d fv)(nd:(fv++f).Nodup)(hb:∀a∈fv,B.H a=Ξ)(hio:io≠Γ i):∃f',Frm X.K B F H (σ.set i (Γ v)) (τ.set i (Γ d)) f':=by obtain⟨g',h',r0,p0⟩:=m.rps.put i mv;have nd0:(g'++h').Nodup:=p0.nodup_iff.mpr nd;exact⟨g',m.fok,r0,(h_.mp nd0).1,m.same,fun b hb'=>(u_.mp (p0.subset (k_ _ hb'))).elim (hb b) (m.own b),m.inn,m.out,m.pin,m.pit,fun j a e1 e2=>(EZ (fun z=>hio (by rw[z];exact e1))).trans (m.nm j a e1 e2)⟩
end
theorem fW {a b:Ψ}{H:Hp}(h:b≠a):rm a H b=H b:=b_ h
theorem ie {a:Ψ}{H:Hp}:rm a H a=Ξ:=c_ rfl
theorem qZ {a b:Ψ}{H:Hp}{u:HO}(h:rm a H b=Γ u):H b=Γ u/\b≠a:=by
 by_cases e:b=a
 ·rw[e,ie]at h;cases h
 ·rw[fW e]at h;exact⟨h,e⟩
theorem CQ {a:Ψ}{H:Hp}:dO (rm a H) H:=fun b u h=>(qZ h).1
section
variable {P:Β}{w:Α}{H H':Hp}{h g:Heap}{a:Ψ}{kvs:List (Key×V)}
theorem yQ (x:HOk P w H h)(e:H a=Γ (.dK kvs)):HOk P w (rm a H) h:=fun b o q=>by
 obtain⟨q1,q2⟩:=qZ q;refine(x b o q1).stay (fun _ _ _ z=>z) (fun c z=>?_) fun c xs z=>?_
 ·rw[fW (by rintro rfl;rw[e]at z;cases z)];exact z
 ·rw[fW (by rintro rfl;rw[e]at z;cases z)];exact z
theorem yR (x:HOk P w H h)(n:H a=Ξ)(y:fP P w H' h a (.dK kvs)):HOk P w (upd H a (.dK kvs)) h:=fun b o q=>by
 by_cases hb:b=a
 ·subst hb;rw[dP]at q;cases q;exact jC rfl y
 ·rw[dM hb]at q;exact(x b o q).stay (fun _ _ _ z=>z) (fun c z=>by rw[dM (gi z n)];exact z) fun c xs z=>by rw[dM (gi z n)];exact z
theorem CS (n:H a=Ξ):rm a (upd H a (.dK kvs))=H:=by
 funext b;by_cases hb:b=a
 ·rw[hb,ie,n]
 ·rw[fW hb,dM hb]
end
section
variable {K:Frag}{F F':Ψ->Prop}{H H':Hp}{a:Ψ}{kvs:List (Key×V)}
theorem nJ (e:H a=Γ (.dK kvs)){b:Ψ}{xs:List V ⊕ Str}(h:SqE K H b xs):SqE K (rm a H) b xs:=by
 cases xs with
 |inl xs=>
  rcases h with h|h
  ·have:b≠a:=by rintro rfl;rcases h with h|⟨o,h⟩<;>(rw[e]at h;cases h)
   refine .inl ?_;unfold Rd;rw[fW this];exact h
  ·exact .inr h
 |inr c=>
  obtain⟨C,o,vs,h0,h1,h2,h3⟩:=h;have:b≠a:=by rintro rfl;rw[e]at h2;cases h2
  exact⟨C,o,vs,h0,h1,by rw[fW this];exact h2,h3⟩
theorem ra {b:Ψ}{u:HO}(n:b≠a)(h:Rd H b u):Rd (rm a H) b u:=by unfold Rd;rw[fW n];exact h
theorem uL {v:V}{d:D}{fv:List Ψ}(o:Out K F H F' H' v d fv)(hs:dO H (rm a H'))(nF:¬F' a)(nf:a∉fv)(e:H' a=Γ (.dK kvs)):Out K F H F' (rm a H') v d fv:=by have ne:∀b,F' b->b≠a:=fun b hb z=>nF (z ▸ hb);refine⟨fun b hb=>by rw[fW (ne b hb)];exact o.fok b hb,hs,o.rep.step (fun b u hb r=>⟨hb,ra (ne b hb) r⟩) (fun b xs r=>nJ e r) fun b hb n1 n2=>⟨n1,fW fun z=>nf (z ▸ hb)⟩,o.nod,o.new,o.inn,o.out⟩
theorem A7 {v:V}{d:D}{fv:List Ψ}(o:Out K F H F' H' v d fv)(n:H' a=Ξ):Out K F H F' (upd H' a (.dK kvs)) v d fv:=by have e:dO H' (upd H' a (.dK kvs)):=.upd n;refine⟨fun b hb z=>o.fok b hb (e.free z),o.same.trans e,o.rep.step (fun b u hb r=>⟨hb,e.rd r⟩) (fun b xs r=>e.seqT r) fun b hb n1 n2=>⟨n1,dM fun z=>n2 (z ▸ n)⟩,o.nod,o.new,o.inn,o.out⟩
end
theorem HReps.frozen' {K:Frag}{F:Ψ->Prop}{H:Hp}{vs:List V}{ds:List D}(h:HReps K F H vs ds)(s:L2.ers ds=ds):MReps K F H vs ds []:=by
 have:=h.frozen
 rwa [s]at this
theorem uM {P:Β}{w:Α}{K:Frag}{Fc F':Ψ->Prop}{H H':Hp}{h:Heap}{v:V}{d:D}{fv:List Ψ}(x:HOk P w H h)(fok:FOk Fc H)(p:Pers h (fu h H) H')(o:Out K (fun a=>Fc a/\fu h H a≠Ξ) (fu h H) F' H' v d fv){vs:List V}{ds:List D}(m:HReps K F' H' vs ds)(s:ers ds=ds) :
  HReps K (fun a=>Fc a∨F' a) (iy H H') vs ds:=by
 revert s;refine HReps.ind (P:=fun vs ds=>ers ds=ds->HReps K (fun a=>Fc a∨F' a) (iy H H') vs ds) (fun _=>.nil) (fun v d vs ds a b j s=>?_) m;rw[ers]at s;injection s with s1 s2;have a':MRep K F' H' v d []:=by have:=a.frozen;rwa [s1]at this
 exact .cons ((kl x fok p ⟨o.fok,o.same,a',List.nodup_nil,fun a ha=>absurd ha (by simp),o.inn,o.out⟩).rep.read (fun _ z=>z) fun _ z=>absurd z (by simp)) (j s2)
def tIO (K:Frag)(ex:Str->Prop)(cl:Nat->List D->Res D)(i:Nat)(es2:List IR):List IR->TA
 |[]=>lP (wm i) (RA K ex (cw es2) (fy cl es2))
 |e::es=>lP (RD K ex (vars e) (evR cl e)) (tIO K ex cl i es2 es)
theorem uN {K:Frag}{ex:Str->Prop}{cl:Nat->List D->Res D}{i:Nat}{es2:List IR}{v0:V}{S:Ψ->Prop}{σ:St}{τ:Ev}{H:Hp}(hv:σ[i]? = Γ (Γ v0))(hs2:Slots K S H σ τ (cw es2)):∀(es:List IR) {H1:Hp}{Kt:List D->List D->Prop}{Q:List V->Hp->Prop},dO H H1->Slots K S H σ τ (cw es)->PO' ex (fy cl es τ) (fun ds=>PO' ex (fy cl es2 τ) (Kt ds))->
  (∀ds vs ds2 us H2,dO H H2->dO H1 H2->HReps K (nw S H) H2 vs ds->HReps K (nw S H) H2 us ds2->Kt ds ds2->Q (vs++v0::us) H2)->tIO K ex cl i es2 es σ H1 Q
 |[],H1,Kt,Q,e,hs,h,k=>⟨v0,hv,nD e hs2 h.ok fun ds2 us H2 e2 e2' m2 kt=>k [] [] ds2 us H2 e2 e2' .nil m2 kt⟩
 |a::es,H1,Kt,Q,e,hs,h,k=>by refine fI e hs.left (PO'.bnd (show PO' ex (bnd (evR cl a τ) fun d=>bnd (fy cl es τ) fun ds=>.ok (d::ds)) _ from h)) fun x v H2 e2 e2' m q=>?_;exact uN hv hs2 es (Kt:=fun ds ds2=>Kt (x::ds) ds2) e2 hs.right ((PO'.bnd q).mono fun ds z=>z.ok) fun ds vs ds2 us H3 e3 e3' ms ms2 kt=>k (x::ds) (v::vs) ds2 us H3 e3 (e2'.trans e3') (.cons (m.mono (fun _ z=>z) e3') ms) ms2 kt
section
variable {Z:Sg}{CX:CXT}{cl:Nat->List D->Res D}{xp:XK->Hp->Str->Prop}{X:Cx}{ex:Str->Prop}{G:Gm}
theorem yS (g:GOk Z CX cl xp X ex G){i:Nat}{es2:List IR}:∀(es:List IR) (args:List Expr),ft Z G (es++.v i::es2) args=Δ->PA X args (tIO X.K ex cl i es2 es)
 |[],args,h=>by
  match args,h with
  |e::l,h=>
   have h':(notStar e&&chk Z G (.v i) e&&ft Z G es2 l)=Δ:=h;simp only[d_]at h'
   induction e using zE with
   |Name x p=>exact fX (iC g h'.1.2) (nH es2 X ex G l g h'.2) (dN h'.1.1 _ _)
   |_=>exact aM h'.1.2
  |[],h=>cases h
 |a::es,args,h=>by
  match args,h with
  |e::l,h=>have h':(notStar e&&chk Z G a e&&ft Z G (es++.v i::es2) l)=Δ:=h;simp only[d_]at h';exact fX (snd a X ex G e g h'.1.2).1 (yS g es l h'.2) (dN h'.1.1 _ _)
  |[],h=>cases h
def spJ (K:Frag)(cl:Nat->List D->Res D)(f:Nat)(vs:List V)(H:Hp)(Q:VK):Prop:=∃a F ws us ds ds2 kvs es,vs=ws++.ref a::us/\ArgI K a F H ws us ds ds2 kvs es/\
 ∃d ks' es',cl f (ers ds++.dct Δ (kvs.map (·.1)) es::ers ds2)=.ok (.tup [d,.dct Θ ks' es'])/\ers es'=es'/\∀v H' F' fv kvs',OutI K a F H F' H' v d fv kvs' ks' es'->Q v H'
theorem uO (g:GOk Z CX cl xp X ex G){k:Nat}{f:Nat}{fa:Ψ}{fd:Ν}{ps:List Str}{pins:List (Ψ×Obj)}{σ:St}{H:Hp}{s:Ω}{Q:VK}{us:List Φ}{vs:List V}
  (F:FnOk X.prog X.w X.K X.mg X.base CX k fa fd ps (spI X.K cl f ps)) (hr:Room k X.A) (hb:Binds X.K fd ps []) (hlen:∀ds r,cl f ds=.ok r->ds.length=ps.length)
  (I:Inv X pins σ H s) (r:Vals vs us) (q:spJ X.K cl f vs H Q):Ι (Κ X.prog X.w) X.A (call (.ref fa) us) (EP X pins σ Q) X.xe s:=by
 obtain⟨a,Fc,ws,us2,ds,ds2,kvs,es,rfl,A,d,ks',es',hc,hlf,q⟩:=q;have hl:(ws++V.ref a::us2).length=ps.length:=by have:=hlen _ _ hc;rw[t_,List.length_cons,gk,gk]at this;rw[t_,List.length_cons,A.ws.length,A.us.length];exact this
 have x1:HOk X.prog X.w (rm a H) s.heap:=yQ I.hok A.at_;have na:fu s.heap (rm a H) a=Ξ:=gB ie;have x2:HOk X.prog X.w (upd (fu s.heap (rm a H)) a (.dK kvs)) s.heap:=yR (pY x1) na (I.hok a _ A.at_);have nb:∀b,H b=Ξ->upd (fu s.heap (rm a H)) a (.dK kvs) b=Ξ:=fun b e=>by
  have hb:b≠a:=by rintro rfl;rw[A.at_]at e;cases e
  rw[dM hb];exact gB (by rw[fW hb];exact e)
 have e0:=I.env0;have env:Env0 X.prog X.w X.K X.mg X.base X.A X.stack s (upd (fu s.heap (rm a H)) a (.dK kvs)):=⟨e0.frames,e0.mod,fun b o e=>⟨(e0.bs b o e).1,nb b (e0.bs b o e).2⟩,e0.bsz,e0.funs,fun b hb=>nb b (e0.frf b hb),x2,e0.bare⟩
 have neF:∀b,Fc b->b≠a:=fun b hb z=>A.nF (z ▸ hb);have toRm:∀ {vs:List V}{ds:List D},HReps X.K Fc H vs ds->HReps X.K (fun b=>Fc b/\fu s.heap (rm a H) b≠Ξ) (upd (fu s.heap (rm a H)) a (.dK kvs)) vs ds:=fun m=>
  (nC x1 (m.step (S':=Fc) (H':=rm a H) (fun b u hb rd=>⟨hb,ra (neF b hb) rd⟩) fun b xs h=>nJ A.at_ h)).mono (fun _ h=>h) (.upd na)
 have hl2:(us++([]:List Φ)).length=ps.length:=by rw[D_,<- r.length];exact hl
 have bd:=hb s us I.kIn hl2;rw[D_]at bd;have hsp:spI X.K cl f ps (ws++.ref a::us2) (upd (fu s.heap (rm a H)) a (.dK kvs)) (fun v H'=>∃F' fv kvs',OutI X.K a (fun b=>Fc b/\fu s.heap (rm a H) b≠Ξ) (upd (fu s.heap (rm a H)) a (.dK kvs)) F' H' v d fv kvs' ks' es') (fun _ _ _=>False):=
  ⟨hl,a,_,ws,us2,ds,ds2,kvs,es,rfl,⟨fun b hb=>by rw[dM (neF b hb.1)];exact hb.2,fun z=>A.nF z.1,dP,toRm A.ws,toRm A.us,toRm A.vs,A.lf⟩,d,ks',es',hc,hlf,fun v H' F' fv kvs' o=>⟨F',fv,kvs',o⟩⟩
 refine wpAny_call (codeAny_mono (F.run X.A X.stack s _ ⟨us,[]⟩ us _ _ _ hr env bd r hsp) fun r' s' hq=>?_);cases r' with
 |error e=>exact(g.exn _ _ _ _ _ hq).elim
 |ok fl=>
  cases fl with
  |ret u=>
   obtain⟨v,H',a1,a2,a3,a4,a5,F',fv,kvs',o⟩:=hq;have oo:=o.out;rw[CS na]at oo;have hsm:dO (fu s.heap (rm a H)) (rm a H'):=fun b u e=>by
    have hb:b≠a:=by rintro rfl;rw[na]at e;cases e
    rw[fW hb];exact oo.same b u e
   have p:Pers s.heap (fu s.heap (rm a H)) (rm a H'):=⟨fun b o u e=>hsm _ _ e,fun b xs e=>hsm _ _ e,fun b o e n=>by
    by_cases hb:b=a
    ·rw[hb];exact ie
    ·rw[fW hb]
     exact a3.free b o e (by rw[dM hb];exact n) (by simp)⟩
   have o2:=kl x1 (fun b hb=>by rw[fW (neF b hb)];exact A.fok b hb) p (uL oo hsm o.nF o.nf o.at_);have nr:iy (rm a H) (rm a H') a=Ξ:=by rw[res_none ie];exact ie
   have o3:=A7 (kvs:=kvs') o2 nr;have hE:∀b,b≠a->H b=Ξ->H' b=upd (iy (rm a H) (rm a H')) a (.dK kvs') b:=fun b hb e=>by rw[dM hb,res_none (by rw[fW hb];exact e),fW hb]
   have nota:∀b,H b=Ξ->b≠a:=fun b e z=>by rw[z,A.at_]at e;cases e
   have un:Un (frs X.stack) [] H (upd (iy (rm a H) (rm a H')) a (.dK kvs')) s.heap s'.heap:=⟨fun b o e n=>a3.keep b o e (nb b n),fun b o e n=>a3.slot b o e (nb b n),fun b o e n hx=>by
    rw[<- hE b (nota b n) n]
    exact a3.free b o e (nb b n) hx,a3.there,fun b xs e=>?_,fun b o u e=>?_,fun b ps e=>⟨#[],?_⟩⟩
   ·have hok:HOk X.prog X.w (upd (iy (rm a H) (rm a H')) a (.dK kvs')) s'.heap:=
     yR (nt x1 (yQ a4 o.at_) p (fs:=frs X.stack) (fun b o hH e n f=>a3.keep b o e (by
      have hb:b≠a:=by rintro rfl;exact hH ie
      rw[dM hb];exact n) f (by simp)) fun b hb=>by rw[fW (nota b (e0.frf b hb))];exact e0.frf b hb) nr (a4 a _ o.at_)
    refine I.after (Q:=Q) ⟨v,_,a1,a2,un,hok,a5,q v _ _ fv kvs' ⟨o3,fun z=>z.elim A.nF o.nF,o.nf,dP,o.ks,?_⟩⟩;exact(uM x1 (fun b hb=>by rw[fW (neF b hb)];exact A.fok b hb) p (uL oo hsm o.nF o.nf o.at_) (o.vs.step (S':=F') (H':=rm a H') (fun b u hb r=>⟨hb,ra (fun(z:b=a)=>o.nF (z ▸ hb)) r⟩) fun b xs r=>nJ o.at_ r) hlf).mono (fun _ z=>z) (.upd nr)
   ·rw[dM (by rintro rfl;rw[A.at_]at e;cases e),res_some (by rw[fW (by rintro rfl;rw[A.at_]at e;cases e)];exact e)]
   ·rw[dM (by rintro rfl;rw[A.at_]at e;cases e),res_some (by rw[fW (by rintro rfl;rw[A.at_]at e;cases e)];exact e)]
   ·rw[dM (by rintro rfl;rw[A.at_]at e;cases e),res_some (by rw[fW (by rintro rfl;rw[A.at_]at e;cases e)];exact e)];simp
  |next=>exact False.elim hq
  |brk=>exact False.elim hq
  |cont=>exact False.elim hq
theorem uP (g:GOk Z CX cl xp X ex G){f i:Nat}{x:Str}{p pos:Pos}{es es2:List IR}{args:List Expr}(h1:jo Z G f x=Δ)(hf:f∈Z.fio)(hcm:G.cm=Δ)(hst:ft Z G (es++.v i::es2) args=Δ) :
  PE X (.Call (.Name x p) args [] pos) (fun σ H Q=>tIO X.K ex cl i es2 es σ H fun vs H1=>spJ X.K cl f vs H1 Q):=by
 obtain⟨k1,k2,k3,k4⟩:=qU g h1;obtain⟨k,fa',fd,ps,hm,hkp,hb,F,hr,hlen⟩:=(g.fio f hf hcm x k2).ex;intro pins s σ H Q I q;have pa:=yS g es args hst;refine E1 (kh I k1 hm ?_ k4);obtain⟨a,r,he⟩:∃a r,es++.v i::es2=a::r:=by cases es<;>exact⟨_,_,rfl⟩
 rw[he]at hst
 induction args using zL with
 |nil=>cases hst
 |cons e l=>have hst':(notStar e&&chk Z G a e&&ft Z G r l)=Δ:=hst;simp only[d_]at hst';refine PySem.W.callWith_K (h₀:=X.base) I.ok.mod.kin hkp (thn (pa pos pins s σ H _ I q) fun us s1 ⟨vs,H1,I1,r,q1⟩=>⟨I1.kIn,?_⟩) (dN hst'.1.1 l X.env) (gH Z G (es:=r) pos X.env hst'.2);exact uO g F hr hb hlen I1 r q1
theorem xx {io:Option Nat}{B:Bs io}{F2 F':Ψ->Prop}{H2 H':Hp}{σ:St}{τ2:Ev}{gg g0 fv:List Ψ}{a:Ψ}{i:Nat}{kvs kvs1:List (Key×V)}{ks1:List Key}{es1:List D}{v:V}{d:D}(m2:Frm X.K B F2 H2 σ τ2 gg)(hσ:σ[i]? = Γ (Γ (.ref a)))(hF2:¬F2 a)
  (hH2:H2 a=Γ (.dK kvs)) (r0:Rps X.K F2 H2 σ (τ2.set i Ξ) g0) (p0:gg.Perm (a::g0)) (o:OutI X.K a F2 H2 F' H' v d fv kvs1 ks1 es1) (gd1:ers es1=es1) :
  ∃g',Frm X.K B F' H' σ (τ2.set i (Γ (.dct Δ ks1 es1))) g'/\(fv++g').Nodup/\∀b∈fv,B.H b=Ξ:=by
 have nd0:(a::g0).Nodup:=p0.nodup_iff.mp m2.nod;have ag:a∉g0:=(y_.mp nd0).1;have hl:∀b (u:LD),(F2 b)->Rd H2 b u.o->F' b/\Rd H' b u.o:=fun b u hb r=>⟨o.out.inn b hb,o.out.same.rd (ra (fun z=>hF2 (z ▸ hb)) r)⟩
 have ht:∀b xs,SqE X.K H2 b xs->SqE X.K H' b xs:=fun b xs h=>o.out.same.seqT (nJ hH2 h);have r3:Rps X.K F' H' σ (τ2.set i Ξ) g0:=r0.step hl ht fun b hb n1 n2=>by
  have hba:b≠a:=fun z=>ag (z ▸ hb);refine⟨fun z=>?_,?_⟩
  ·rcases o.out.out b z with z|z
   ·exact n1 z
   ·rw[fW hba]at z;exact n2 z
  ·obtain⟨_,u,hu⟩:=r0.own b hb;rw[hu];exact o.out.same b u (by rw[fW hba];exact hu)
 have m1:MRep X.K F' H' (.ref a) (.dct Δ ks1 es1) [a]:=.dctO o.nF o.at_ o.ks (o.vs.frozen' gd1);obtain⟨g',h',r4,p4⟩:=r3.put i m1;have hσi:σ.set i (Γ (.ref a))=σ:=by
  apply List.ext_getElem?;intro j;rw[List.getElem?_set];by_cases hj:i=j
  ·subst hj;rw[c_ rfl,c_ (B_.mp hσ).1,hσ]
  ·rw[b_ hj]
 rw[hσi,List.set_set]at r4;have nd4:(g'++h').Nodup:=p4.nodup_iff.mpr nd0;have in4:∀b∈g',b=a∨b∈g0:=fun b hb=>j_.mp (p4.mem_iff.mp (k_ _ hb));have own0:∀b,b=a∨b∈g0->B.H b=Ξ/\∃u,H2 b=Γ u:=fun b hb=>by have hbg:b∈gg:=p0.mem_iff.mpr (j_.mpr hb);exact⟨m2.own b hbg,(m2.rps.own b hbg).2⟩
 have mF:Frm X.K B F' H' σ (τ2.set i (Γ (.dct Δ ks1 es1))) g':=⟨o.out.fok,r4,(h_.mp nd4).1,fun b u e=>o.out.same b u (by
   rw[fW (fun z=>by rw[z,(own0 a (.inl rfl)).1]at e;cases e)]
   exact m2.same b u e),fun b hb=>(own0 b (in4 b hb)).1,fun b hb=>o.out.inn b (m2.inn b hb),fun b hb=>by
   rcases o.out.out b hb with z|z
   ·exact m2.out b z
   ·have hba:b≠a:=fun y=>o.nF (by rw[<- y];exact hb);rw[fW hba]at z
    exact .inr (m2.same.free z),fun b xs hb=>hl b xs (m2.pin b xs hb).1 (m2.pin b xs hb).2,fun b xs hb=>ht b xs (m2.pit b xs hb),m2.nm⟩
 have newv:∀b∈fv,H2 b=Ξ:=fun b hb=>by
  have:=o.out.new b hb;have hba:b≠a:=fun z=>o.nf (by rw[<- z];exact hb)
  rwa [fW hba]at this
 refine⟨g',mF,h_.mpr ⟨o.out.nod,(h_.mp nd4).1,fun b h1 c h2 e=>?_⟩,fun b hb=>m2.same.free (newv b hb)⟩;subst e;obtain⟨u,hu⟩:=(own0 b (in4 b h2)).2;rw[newv b h1]at hu;cases hu
theorem xy {io:Option Nat}{B:Bs io}{F:Ψ->Prop}{H:Hp}{σ:St}{τ:Ev}{fo:List Ψ}{f i:Nat}{es es2:List IR}{ks:List Key}{es0:List D}{Q:VK}(hni:(cw es++cw es2).contains i=Θ)(m:Frm X.K B F H σ τ fo)(zs:cq τ i=Γ (.dct Δ ks es0))(gd:fq es0=Δ)
  (q1:PO' ex (fy cl es τ) fun ds=>PO' ex (fy cl es2 τ) fun ds2=>∃d ks1 es1,cl f (ers ds++.dct Δ ks es0::ers ds2)=.ok (.tup [d,.dct Θ ks1 es1])/\fq es1=Δ/\∀v H' F' fv g',Frm X.K B F' H' σ ((frz (cw es++cw es2) τ).set i (Γ (.dct Δ ks1 es1))) g'->(∀b u,σ[i]?≠Γ (Γ (.ref b))->H b=Γ u->H' b=Γ u)->MRep X.K F' H' v d fv->(fv++g').Nodup->(∀b∈fv,B.H b=Ξ)->Q v H') :
  tIO X.K ex cl i es2 es σ H fun vs H1=>spJ X.K cl f vs H1 Q:=by
 obtain⟨F1,gg,b1,b2,b3,b4,b5,b6⟩:=iV (cw es++cw es2) m.fok m.rps m.nod;have zf:cq (frz (cw es++cw es2) τ) i=Γ (.dct Δ ks es0):=(kY (cw es++cw es2) τ 0 i (by rw[Nat.zero_add];exact hni)).trans zs;obtain⟨a,kvs,g1,hσ,hF1,hHa,hks,hmv,_,_⟩:=g9 b2 zf gd;refine uN hσ b6.right es (.refl _) b6.left q1 fun ds ws ds2 us H2 e2 _ ms ms2 q2=>?_;obtain⟨c1,c2,c3⟩:=grow (fun _=>True) b1 b2 e2;obtain⟨a',kvs',g0,hσ',hF2,hH2,hks',hmv',r0,p0⟩:=g9 c2 zf gd;rw[hσ]at hσ';cases hσ';have e2a:=e2 _ _ hHa;rw[hH2]at e2a;cases e2a;have m2:Frm X.K B (fun b=>F1 b∨(True/\H b=Ξ/\H2 b≠Ξ)) H2 σ (frz (cw es++cw es2) τ) gg:=m.stp (b4.trans c3 (fun x hx=>.inl (b5 x hx))) c1 c2 b3 fun b hb=>.inl (b5 b hb);obtain⟨d,ks1,es1,zc,gd1,q3⟩:=q2;have fx:∀ {vs:List V}{ds:List D},HReps X.K (nw F1 H) H2 vs ds->HReps X.K (fun b=>F1 b∨(True/\H b=Ξ/\H2 b≠Ξ)) H2 vs ds:=fun ms=>ms.step (fun b xs h r=>⟨h.elim (fun z=>.inl z) fun z=>.inr ⟨trivial,z,r.some⟩,r⟩) fun b xs h=>h;refine⟨a,_,ws,us,ds,ds2,kvs,es0,rfl,⟨c1,hF2,hH2,fx ms,fx ms2,hmv'.read (fun _ z=>z) (fun _ z=>absurd z (by simp)),gZ gd⟩,d,ks1,es1,by rw[hks];exact zc,gZ gd1,fun v H' F' fv kvs1 o=>?_⟩;obtain⟨g',mF,nd5,hb5⟩:=xx m2 hσ hF2 hH2 r0 p0 o (gZ gd1);exact q3 v H' F' fv g' mF (fun b u nb hb=>o.out.same b u (by rw[fW (fun z=>nb (by rw[z];exact hσ))];exact e2 _ _ hb)) o.out.rep nd5 hb5
theorem xA {r0:Res D}{R:D->Res Fl}{Kt:Fl->Prop}(hR:∀r,(∃d ks1 es1,r=.tup [d,.dct Θ ks1 es1])∨R r=stk)(q:PO' ex (bnd (noX r0) R) Kt) :
  ∃d ks1 es1,r0=.ok (.tup [d,.dct Θ ks1 es1])/\PO' ex (R (.tup [d,.dct Θ ks1 es1])) Kt:=by
 cases zc:r0 with
 |error er=>rw[zc]at q;exact q.no.elim
 |ok rr=>
  rw[zc]at q;have q3:PO' ex (R rr) Kt:=q;rcases hR rr with⟨d,ks1,es1,rfl⟩|h
  ·exact⟨d,ks1,es1,rfl,q3⟩
  ·rw[h]at q3;exact q3.no.elim
theorem xB {i:Nat}{τ:Ev}{c:Bool}{R:List Key->List D->Res Fl}{Kt:Fl->Prop}(q:PO' ex (match cq τ i with|some (.dct Δ ks vs)=>grd (fq vs&&c) (R ks vs)|_=>stk) Kt) :
  ∃ks vs,cq τ i=Γ (.dct Δ ks vs)/\fq vs=Δ/\c=Δ/\PO' ex (R ks vs) Kt:=by
 cases zs:cq τ i with
 |none=>rw[zs]at q;exact q.no.elim
 |some dd=>
  rw[zs]at q
  induction dd using zD with
  |dct ow ks es0=>
   induction ow using zB with
   |false=>exact q.no.elim
   |true=>obtain⟨gd,q1⟩:=PO'.grd q;rw[d_]at gd;exact⟨ks,es0,rfl,gd.1,gd.2,q1⟩
  |_=>exact q.no.elim
theorem xC {R:D->Res Fl}(h:∀r,(∀d ks1 es1,r≠.tup [d,.dct Θ ks1 es1])->R r=stk)(r:D):(∃d ks1 es1,r=.tup [d,.dct Θ ks1 es1])∨R r=stk:=by
 by_cases e:∃d ks1 es1,r=.tup [d,.dct Θ ks1 es1]
 ·exact .inl e
 ·exact .inr (h r fun d ks1 es1 z=>e ⟨d,ks1,es1,z⟩)
theorem hG:∀ {ds:List D},gw ds=Δ->fq ds=Δ
 |[],_=>rfl
 |d::ds,h=>by
  have h':(t9 d&&gw ds)=Δ:=h;rw[d_]at h';show(kM d&&fq ds)=Δ;rw[hG h'.2,Bool.and_true]
  induction d using zD<;>first|rfl|(exfalso;exact absurd h'.1 (by simp[t9]))
section
variable {K:Frag}{F:Ψ->Prop}{H:Hp}{d0:Ψ}{kvs:List (Key×V)}
theorem xD (hl:H d0=Γ (.dK kvs)){a:Ψ}{xs:List V}(h:Rd H a (.lst xs)):a≠d0:=by rintro rfl;rcases h with h|⟨o,h⟩<;>(rw[hl]at h;cases h)
theorem MRep.thawF (hl:H d0=Γ (.dK kvs)){v:V}{d:D}{f:List Ψ}(h:MRep K F H v d f)(n:gL d=Δ):MRep K (fun a=>F a/\a≠d0) H v d f:=
 MRep.rec (motive_1:=fun v d f _=>gL d=Δ->MRep K (fun a=>F a/\a≠d0) H v d f) (motive_2:=fun v d f _=>fV d=Δ->MReps K (fun a=>F a/\a≠d0) H v d f) (fun _=>.non) (fun b _=>.bl b) (fun b _=>.int b) (fun b _=>.str b)
  (fun h _=>.exc h) (fun h1 _ i z=>.tup h1 (i z)) (fun h0 h1 _ i z=>.lstS ⟨h0,xD hl h1⟩ h1 (i z)) (fun h1 _ i z=>.lstK h1 (i z))
  (fun h0 h1 _ i z=>.lstO (fun y=>h0 y.1) h1 (i z)) (fun _ _ _ _ _ z=>aM z) (fun h0 h1 h2 _ i z=>.dctO (fun y=>h0 y.1) h1 h2 (i z)) (fun _=>.nil)
  (fun {v d f vs ds g} _ _ i j z=>.cons (i (EA.mp (show(gL d&&fV ds)=Δ from z)).1) (j (EA.mp (show(gL d&&fV ds)=Δ from z)).2)) h n
theorem MReps.thawF (hl:H d0=Γ (.dK kvs)){v:List V}{d:List D}{f:List Ψ}(h:MReps K F H v d f)(n:fV d=Δ):MReps K (fun a=>F a/\a≠d0) H v d f:=by revert n;refine MReps.ind (P:=fun v d f=>fV d=Δ->MReps K (fun a=>F a/\a≠d0) H v d f) (fun _=>.nil) (fun v d f vs ds g a b j z=>?_) h;have z':=EA.mp (show(gL d&&fV ds)=Δ from z);exact .cons (a.thawF hl z'.1) (j z'.2)
theorem Rps.thawF (hl:H d0=Option.some (.dK kvs)):∀ {σ:St}{τ:Ev}{f:List Ψ},Rps K F H σ τ f->ndx τ=Δ->Rps K (fun a=>F a/\a≠d0) H σ τ f
 |_,_,_,.nil,_=>.nil
 |_,_,_,.none h,n=>.none (Rps.thawF hl h n)
 |_,_,_,.some (d:=d) (τ:=τ) m h,n=>.some (m.thawF hl (EA.mp (show(gL d&&ndx τ)=Δ from n)).1) (Rps.thawF hl h (EA.mp (show(gL d&&ndx τ)=Δ from n)).2)
theorem Frm.thawF {io:Option Nat}{B:Bs io}{σ:St}{τ:Ev}{f:List Ψ}{i:Nat}{ks:List Key}{ds:List D}(m:Frm K B F H σ τ f)(zs:cq τ i=Γ (.dct Θ ks ds))(hσ:σ[i]? = Γ (Γ (.ref d0)))(hH:H d0=Γ (.dK kvs))(hB:B.H d0=Ξ)(hF:¬B.F d0)(hL:∀a xs,B.L a xs->a≠d0)
  (n1:ndx (τ.set i Ξ)=Δ) (n2:fV ds=Δ):∃f',Frm K B (fun a=>F a/\a≠d0) H σ (τ.set i (Γ (.dct Δ ks ds))) f':=by
 obtain⟨v,fs,g,h1,h2,h3,h4⟩:=m.rps.at zs;rw[hσ]at h1;cases h1;cases h2 with
 | @dctS a kvs2 _ _ hF2 hH2 hk hm=>
  have ek:kvs2=kvs:=by
   rcases hH2 with z|⟨o',z⟩
   ·rw[hH]at z;cases z;rfl
   ·rw[hH]at z;cases z
  subst ek;have r3:=h3.thawF hH n1;have m1:MRep K (fun a=>F a/\a≠d0) H (.ref d0) (.dct Δ ks ds) [d0]:=.dctO (fun z=>z.2 rfl) hH hk (hm.thawF hH n2);obtain⟨g',h',r4,p4⟩:=r3.put i m1;have hσi:σ.set i (Γ (.ref d0))=σ:=by
   apply List.ext_getElem?;intro j;rw[List.getElem?_set];by_cases hj:i=j
   ·subst hj;rw[c_ rfl,c_ (B_.mp hσ).1,hσ]
   ·rw[b_ hj]
  rw[hσi,List.set_set]at r4;have dg:d0∉g:=fun z=>(h3.own d0 z).1 hF2;have gn:g.Nodup:=by have:=h4.nodup_iff.mp m.nod;exact(h_.mp this).2.1
  have nd4:(g'++h').Nodup:=p4.nodup_iff.mpr (y_.mpr ⟨dg,gn⟩);refine⟨g',fun a h=>m.fok a h.1,r4,(h_.mp nd4).1,m.same,fun a ha=>?_,fun a ha=>⟨m.inn a ha,fun z=>hF (z ▸ ha)⟩,fun a ha=>m.out a ha.1,fun a xs h=>⟨⟨(m.pin a xs h).1,hL a xs h⟩,(m.pin a xs h).2⟩,m.pit,m.nm⟩;rcases j_.mp (p4.mem_iff.mp (k_ _ ha)) with rfl|ha
  ·exact hB
  ·exact m.own a (h4.mem_iff.mpr (m_ _ ha))
end
theorem st_cio (g:GOk Z CX cl xp X ex G){j f i:Nat}{es es2:List IR}{th:Option Nat}{st:Stmt}(h:civ st (fun t xf args=>isName t&&fM G (.nm j) t&&G.cm&&(jo Z G f xf&&Z.fio.contains f)&&ft Z G (es++.v i::es2) args&&!(cw es++cw es2).contains i&&decide (i≠j)&&thN j i th)=Δ) :
  PS X st (RS X.K G.io ex (evS cl (.cio j f es i es2 th))):=by
 obtain⟨t,xf,p,args,qp,pos,rfl,h0⟩:=uF h;simp only[d_]at h0;obtain⟨⟨⟨⟨⟨⟨⟨hn,hT⟩,hcm⟩,hf,hfi⟩,hst⟩,hni⟩,hij⟩,hth⟩:=h0
 induction t using zE with
 |Name y py=>
  have ht':(G.N[j]? == Γ y&&(G.kd[j]? == Γ .local||(G.df&&G.kd[j]? == Γ .cell)))=Δ:=(EA.mp hT).1;have hjo:G.io≠Γ j:=by simpa using(EA.mp hT).2
  rw[d_,EJ,d_]at ht';have hx:G.N[j]? = Γ y:=g_ ht'.1;have hk:=g.kd j y hx;have hloc:Loc X.env.scope y:=ht'.2.elim (fun z=>.inl (hk.trans (g_ z))) fun z=>.inr (hk.trans (g_ z.2));have hfn:X.fn y=Δ∨X.env.scope.names.lookup y=Γ .local:=ht'.2.elim (fun z=>.inr (hk.trans (g_ z))) fun z=>.inl (g.df z.1 y);have hni:(cw es++cw es2).contains i=Θ:=by simpa using hni
  refine fS (kx (i:=j) (by rw[g.N];exact g.nod) (by rw[g.N];exact hx) hloc (uP (p:=p) (pos:=qp) (es2:=es2) g hf (by simpa using hfi) hcm hst) rfl hfn) fun Dn σ H hh=>?_;obtain⟨B,F,τ,fo,m,q⟩:=hh;obtain⟨ks,es0,zs,gd,gt,q1⟩:=xB (c:=pS τ th) (R:=fun ks vs=>bnd (fy cl es τ) fun ds=>bnd (fy cl es2 τ) fun ds2=>bnd (noX (cl f (ers ds++.dct Δ ks vs::ers ds2))) (pT j i th (frz (cw es++cw es2) τ))) q;refine xy hni m zs gd ((PO'.bnd q1).mono fun ds q2=>(PO'.bnd q2).mono fun ds2 q2'=>?_);obtain⟨d,ks1,es1,zc,q3⟩:=xA (xC fun r n=>by unfold pT;split;(exact absurd rfl (n _ _ _));rfl) q2';obtain⟨gd1,q4⟩:=PO'.grd (show PO' ex (grd (fq es1) (ud (((frz (cw es++cw es2) τ).set i (Γ (.dct Δ ks1 es1))).set j (Γ d)) th)) (Fk X.K B Dn) from q3);refine⟨d,ks1,es1,zc,gd1,fun v H' F' fv g' mF sm mv nd5 hb5=>?_⟩;obtain⟨f5,m5⟩:=mF.put j mv nd5 hb5 hjo;cases th with
  |none=>exact q4.ok _ _ _ _ m5
  |some t=>
   have hth':(decide (t≠j)&&decide (t≠i))=Δ:=hth;rw[d_]at hth';have tj:t≠j:=r_ hth'.1;have ti:t≠i:=r_ hth'.2;have q5:PO' ex (qK t _ (cq (((frz (cw es++cw es2) τ).set i (Γ (.dct Δ ks1 es1))).set j (Γ d)) t)) (Fk X.K B Dn):=q4
   -- the dict as it stood ahead of the call
   obtain⟨ks2,ds2',z2,s2⟩:∃ks2 ds2',cq τ t=Γ (.dct Δ ks2 ds2')/\fq ds2'=Δ:=by
    have gt':(match cq τ t with|some (.dct Δ _ ds)=>gw ds|_=>Θ)=Δ:=gt;cases z:cq τ t with
    |none=>rw[z]at gt';cases gt'
    |some dd=>
     rw[z]at gt'
     induction dd using zD with
     |dct ow ks3 ds3=>
      induction ow using zB with
      |false=>cases gt'
      |true=>exact⟨ks3,ds3,rfl,hG gt'⟩
     |_=>cases gt'
   obtain⟨d0,kvs0,g0,hσ0,hF0,hH0,_,_,_,p0⟩:=g9 m.rps z2 s2;have hin:d0∈fo:=p0.mem_iff.mpr (EY ..);have ne:σ[i]?≠Γ (Γ (.ref d0)):=fun z=>by
    obtain⟨a1,kv1,g1,e1,_,_,_,_,r1,p1⟩:=g9 m.rps zs gd;rw[z]at e1;cases e1;have z3:cq (τ.set i Ξ) t=Γ (.dct Δ ks2 ds2'):=by rw[jX,b_ (fun y=>ti y.1.symm)];exact z2
    obtain⟨a2,kv2,g2,e2,_,_,_,_,_,p2⟩:=g9 r1 z3 s2;rw[hσ0]at e2;cases e2;have nd:=p1.nodup_iff.mp m.nod;exact(y_.mp nd).1 (p2.mem_iff.mpr (EY ..))
   have hH':=sm d0 _ ne hH0;cases z5:cq (((frz (cw es++cw es2) τ).set i (Γ (.dct Δ ks1 es1))).set j (Γ d)) t with
   |none=>rw[z5]at q5;exact q5.no.elim
   |some dd=>
    rw[z5]at q5
    induction dd using zD with
    |dct ow ks3 ds3=>
     induction ow using zB with
     |true=>exact q5.no.elim
     |false=>obtain⟨gd2,q6⟩:=PO'.grd (show PO' ex (grd (ndx (((((frz (cw es++cw es2) τ).set i (Γ (.dct Δ ks1 es1))).set j (Γ d))).set t Ξ)&&fV ds3) (.ok (.nx (((((frz (cw es++cw es2) τ).set i (Γ (.dct Δ ks1 es1))).set j (Γ d))).set t (Γ (.dct Δ ks3 ds3)))))) (Fk X.K B Dn) from q5);rw[d_]at gd2;obtain⟨f6,m6⟩:=m5.thawF z5 (by rw[EZ (fun z=>tj z.symm)];exact hσ0) hH' (m.own d0 hin) (fun z=>hF0 (m.inn d0 z)) (fun a xs hL z=>hF0 (z ▸ (m.pin a xs hL).1)) gd2.1 gd2.2;exact q6.ok _ _ _ _ m6
    |_=>exact q5.no.elim
 |_=>cases hn
end
section
variable {K:Frag}{io:Option Nat}{B:Bs io}{F:Ψ->Prop}{H:Hp}{σ:St}{τ:Ev}{f:List Ψ}
theorem Rps.forget:∀ {σ:St}{τ:Ev}{f:List Ψ} (j:Nat) (o:Option V),Rps K F H σ τ f->∃g h,Rps K F H (σ.set j o) (τ.set j Option.none) g/\(g++h).Perm f
 |_,_,_,_,_,.nil=>⟨[],[],.nil,.refl _⟩
 |_,_,_,0,_,.none h=>⟨_,[],.none h,by rw[D_]⟩
 |_,_,_,0,_,.some (f:=f0) (g:=g0) m h=>⟨g0,f0,.none h,EU⟩
 |_,_,_,j+1,o,.none h=>by obtain⟨g,h',h1,h2⟩:=Rps.forget j o h;exact⟨g,h',.none h1,h2⟩
 |_,_,_,j+1,o,.some (f:=f0) (g:=g0) m h=>by obtain⟨g,h',h1,h2⟩:=Rps.forget j o h;exact⟨f0++g,h',.some m h1,by rw[o_];exact EW f0 h2⟩
end
section
variable {Z:Sg}{CX:CXT}{cl:Nat->List D->Res D}{xp:XK->Hp->Str->Prop}{X:Cx}{ex:Str->Prop}{G:Gm}
theorem rb:∀ {τ:Ev}{j:Nat},uc τ j=Δ->j < τ.length
 |[],_,h=>by cases h
 |_::_,0,_=>Nat.succ_pos _
 |_::τ,j+1,h=>Nat.succ_lt_succ (rb (τ:=τ) h)
end
theorem xE {d:D}(h:t9 d=Δ):fE d=Δ:=by induction d using zD<;>first|rfl|cases h
theorem iN:∀ {ds:List D},gw ds=Δ->cA ds=Δ
 |[],_=>rfl
 |d::ds,h=>by have h':(t9 d&&gw ds)=Δ:=h;rw[d_]at h';show(fE d&&cA ds)=Δ;rw[xE h'.1,iN h'.2];rfl
section
variable {K:Frag}{S:Ψ->Prop}{H:Hp}
theorem xF:∀ {ds:List D}{ps:List (Key×D)}{xs:List V},HReps K S H xs ds->jx ds=Γ ps->∃as kvs,xs=as.map V.ref/\PrsAt K H as kvs/\kvs.map (·.1)=ps.map (·.1)/\HReps K S H (kvs.map (·.2)) (ps.map (·.2)):=by
 intro ds
 induction ds with
 |nil=>intro ps xs m h;cases h;cases m;exact⟨[],[],rfl,.nil,rfl,.nil⟩
 |cons d r ih=>
  intro ps xs m h;cases m with
  |cons m1 m2=>
   unfold jx at h;split at h
   ·rename_i _ e;cases e
   ·rename_i _ k v r' e
    cases e;split at h
    ·rename_i q ps' hq hps
     cases h;obtain⟨as,kvs,rfl,h1,h2,h3⟩:=ih m2 hps;obtain⟨a,ys,rfl,ht,mt⟩:=m1.tupR;cases mt with
     |cons n1 mt=>
      cases mt with
      |cons n2 mt=>cases mt;have ek:=iS n1 hq;subst ek;exact⟨a::as,(q,_)::kvs,rfl,.cons ht h1,by rw[a_,a_,h2],.cons n2 h3⟩
    ·cases h
   ·cases h
theorem nK:∀(more:List (Key×V)) (ps:List (Key×D)) (kvs:List (Key×V)) (ds:List D),more.map (·.1)=ps.map (·.1)->HReps K S H (more.map (·.2)) (ps.map (·.2))->HReps K S H (kvs.map (·.2)) ds->
  (gX kvs more).map (·.1)=(mrg ps (kvs.map (·.1)) ds).1/\HReps K S H ((gX kvs more).map (·.2)) (mrg ps (kvs.map (·.1)) ds).2
 |[],[],kvs,ds,_,_,m=>⟨rfl,m⟩
 |p::more,[],_,_,h,_,_=>by cases h
 |[],q::ps,_,_,h,_,_=>by cases h
 | (k,v)::more,(q,d)::ps,kvs,ds,h,m1,m=>by
  rw[a_,a_,List.cons.injEq]at h;have e:k=q:=h.1;subst e;cases m1 with
  |cons n1 n2=>have:=nK more ps (putK kvs k v) (fL (kvs.map (·.1)) ds k d) h.2 n2 (uI k n1 m);rw[uH]at this;exact this
end
theorem qd:∀(ps:List (Key×D)) (ks:List Key) (ds:List D),cA (ps.map (·.2))=Δ->cA ds=Δ->cA (mrg ps ks ds).2=Δ
 |[],ks,ds,_,h=>h
 | (q,d)::ps,ks,ds,h1,h2=>by have h':(fE d&&cA (ps.map (·.2)))=Δ:=h1;rw[d_]at h';exact qd ps _ _ h'.2 (uJ h2 h'.1)
theorem rf:∀ {ks:List Key}{ds:List D},ks.length=ds.length->(ks.zip ds).map (·.1)=ks/\(ks.zip ds).map (·.2)=ds
 |[],[],_=>⟨rfl,rfl⟩
 |k::ks,d::ds,h=>by obtain⟨h1,h2⟩:=rf (ks:=ks) (ds:=ds) (by simpa using h);rw[List.zip_cons_cons,a_,a_,h1,h2];exact⟨rfl,rfl⟩
 |[],_::_,h=>by cases h
 |_::_,[],h=>by cases h
section
variable {Z:Sg}{CX:CXT}{cl:Nat->List D->Res D}{xp:XK->Hp->Str->Prop}{X:Cx}{ex:Str->Prop}{G:Gm}
theorem st_dof (g:GOk Z CX cl xp X ex G){j:Nat}{e:IR}{st:Stmt}(h:civ st (fun t xf args=>isName t&&fM G (.nm j) t&&xf == "dict"&&G.glc 19&&ft Z G [e] args)=Δ):PS X st (RS X.K G.io ex (evS cl (.dof j e))):=by
 obtain⟨t,xf,p,args,qp,pos,rfl,h0⟩:=uF h;simp only[d_]at h0;obtain⟨⟨⟨⟨hn,hT⟩,hxf⟩,hgl⟩,hst⟩:=h0;have e1:xf = "dict":=g_ hxf;subst e1;obtain⟨k1,k2,k3,k4⟩:=jc g (show gq[19]? = Γ ("dict" : Str) from rfl) (ny hgl)
 match args,hst with
 |[],hst=>cases hst
 |_::_::_,hst=>exact aM (EA.mp hst).2
 |[a],hst=>
  have hst':(notStar a&&chk Z G e a&&ft Z G [] [])=Δ:=hst;simp only[d_]at hst'
  induction t using zE with
  |Name y py=>
   have ht':(G.N[j]? == Γ y&&(G.kd[j]? == Γ .local||(G.df&&G.kd[j]? == Γ .cell)))=Δ:=(EA.mp hT).1;have hjo:G.io≠Γ j:=by simpa using(EA.mp hT).2
   rw[d_,EJ,d_]at ht';have hx:G.N[j]? = Γ y:=g_ ht'.1;have hk:=g.kd j y hx;have hloc:Loc X.env.scope y:=ht'.2.elim (fun z=>.inl (hk.trans (g_ z))) fun z=>.inr (hk.trans (g_ z.2));have hfn:X.fn y=Δ∨X.env.scope.names.lookup y=Γ .local:=ht'.2.elim (fun z=>.inr (hk.trans (g_ z))) fun z=>.inl (g.df z.1 y);refine fS (kx (i:=j) (by rw[g.N];exact g.nod) (by rw[g.N];exact hx) hloc (jR (T:="dict") (pQ (g.calm (nA hgl))) k1 k2 (by decide +kernel) (fX (snd e X ex G a g hst'.1.2).1 gW (dN hst'.1.1 _ _)) k3 k4 (dN hst'.1.1 _ _) rfl) rfl hfn) fun Dn σ H hh=>?_;obtain⟨B,F,τ,f,m,q⟩:=hh;have q0:PO' ex (bnd (evR cl e τ) fun d=>bnd (sM j τ d) fun τ'=>.ok (.nx τ')) (Fk X.K B Dn):=q;refine m.rd (PO'.bnd q0) fun d v H1 m1 e1 mv q1=>?_
   induction d using zD with
   |lst o ds=>
    obtain⟨p,xs,rfl,hq,mm⟩:=mv.lstR;have q2:PO' ex (bnd (match jx ds with|some ps=>grd (gw (ps.map (·.2))) (.ok (τ.set j (Γ (.dct Δ (mrg ps [] []).1 (mrg ps [] []).2))))|none=>stk) fun τ'=>.ok (.nx τ')) (Fk X.K B Dn):=q1;cases z:jx ds with
    |none=>rw[z]at q2;exact q2.no.elim
    |some ps=>
     rw[z]at q2;obtain⟨gd,q3⟩:=PO'.grd (PO'.bnd q2);obtain⟨as,kvs,rfl,hp,hk,hv⟩:=xF mm z;refine⟨p,as,kvs,rfl,hq,hp,fun a ha=>?_⟩;obtain⟨r1,r2⟩:=nK kvs ps [] [] hk hv .nil;have lf:cA (mrg ps [] []).2=Δ:=qd ps [] [] (iN gd) rfl;have sm:dO H1 (upd H1 a (.dK (gX [] kvs))):=.upd ha;have m2:=m1.grow sm;have mr:MRep X.K F (upd H1 a (.dK (gX [] kvs))) (.ref a) (.dct Δ (mrg ps [] []).1 (mrg ps [] []).2) [a]:=.dctO (fun z=>m1.fok a z ha) dP r1 (HReps.free lf (r2.mono (S':=fun _=>True) (fun _ _=>trivial) sm));have na:a∉f:=fun z=>by obtain⟨_,u,hu⟩:=m1.rps.own a z;rw[ha]at hu;cases hu
     obtain⟨f',m3⟩:=m2.put j mr (by rw[ER,y_];exact⟨na,m1.nod⟩) (fun b hb=>by rw[C_.mp hb];exact m1.same.free ha) hjo;exact q3.ok.ok _ _ _ _ m3
   |_=>exact q1.no.elim
  |_=>cases hn
theorem st_dupd (g:GOk Z CX cl xp X ex G){i j:Nat}{st:Stmt}(h:upv st (fun x n l y=>gb G i x&&n == "update"&&l&&gb G j y&&decide (i≠j))=Δ):PS X st (RS X.K G.io ex (evS cl (.dupd i j))):=by
 obtain⟨x,px,n,apos,y,py,cpos,pos,rfl,h0⟩:=AZ h;simp only[d_]at h0;obtain⟨⟨⟨⟨h1,h2⟩,h3⟩,h4⟩,h5⟩:=h0;have e1:n = "update":=g_ h2;subst e1;have hij:i≠j:=r_ h5;refine fS (mQ (wW (iC g h1) (iC g h4) rfl h3 rfl)) fun Dn σ H hh=>?_;obtain⟨B,F,τ,f,m,q⟩:=hh;have q0:PO' ex (bnd (ua i τ (cq τ i) (cq τ j)) fun τ'=>.ok (.nx τ')) (Fk X.K B Dn):=q;cases zi:cq τ i with
 |none=>rw[zi]at q0;exact q0.no.elim
 |some di=>
  cases zj:cq τ j with
  |none=>
   rw[zi,zj]at q0
   induction di using zD with
   |dct ow ks ds=>induction ow using zB<;>exact q0.no.elim
   |_=>exact q0.no.elim
  |some dj=>
   rw[zi,zj]at q0
   induction di using zD with
   |dct ow ks ds=>
    induction ow using zB with
    |false=>exact q0.no.elim
    |true=>
     induction dj using zD with
     |dct oj ks2 ds2=>
      obtain⟨gd,q1⟩:=PO'.grd (PO'.bnd (show PO' ex (bnd (grd (gw ds&&gw ds2&&f7 (ks.length+ks2.length)) (.ok (τ.set i (Γ (.dct Δ (mrg (ks2.zip ds2) ks ds).1 (mrg (ks2.zip ds2) ks ds).2))))) fun τ'=>.ok (.nx τ')) (Fk X.K B Dn) from q0));rw[d_,d_]at gd;obtain⟨l,kvs,g0,hσ,hF,hl,hks,hm,hr,hp⟩:=qY m.rps zi (iN gd.1.1);have nd0:(l::g0).Nodup:=hp.nodup_iff.mp m.nod;have zj':cq (τ.set i Ξ) j=Γ (.dct oj ks2 ds2):=by rw[jX,b_ fun z=>hij z.1];exact zj
      obtain⟨vj,fj,gj,hσj,mj,_,pj⟩:=hr.at zj';obtain⟨b,more,rfl,rd,hk2,hv2⟩:=(mj.read (S:=fun _=>True) (fun _ _=>trivial) fun _ _=>trivial).dctR;have hlb:l≠b:=by
       rintro rfl;cases mj with
       |dctS h0 _ _ _=>exact hF h0
       |dctO h0 _ _ _=>exact(y_.mp nd0).1 (pj.mem_iff.mpr (by simp))
      subst hks;have hlen2:ks2.length=ds2.length:=by rw[<- hk2,f_,<- hv2.length,f_]
      obtain⟨z1,z2⟩:=rf hlen2;obtain⟨r1,r2⟩:=nK more (ks2.zip ds2) kvs ds (by rw[z1,hk2]) (by rw[z2];exact hv2) (hm.read (S:=fun _=>True) (fun _ _=>trivial) fun _ _=>trivial);have lf:cA (mrg (ks2.zip ds2) (kvs.map (·.1)) ds).2=Δ:=qd _ _ _ (by rw[z2];exact iN gd.1.2) (iN gd.1.1);obtain⟨f',m3⟩:=m.writeD (kvs':=gX kvs more) hσ hF hl hr hp r1 (HReps.free lf r2);refine⟨.ref l,hσ,l,rfl,.inl ⟨kvs,.inl hl⟩,.ref b,hσj,l,b,kvs,more,rfl,rfl,hlb,hl,rd,?_,q1.ok.ok _ _ _ _ m3⟩;have:=fR gd.2;rw[f_,<- hk2,f_]at this;exact this
     |_=>exact q0.no.elim
   |_=>exact q0.no.elim
end
section
variable {K:Frag}{io:Option Nat}{B:Bs io}{F:Ψ->Prop}{H:Hp}{σ:St}{τ:Ev}{f:List Ψ}
theorem Frm.give {v w:V}{d dw:D}{fv fw:List Ψ}(m:Frm K B F H σ τ f)(mv:MRep K F H v d fv)(mw:MRep K F H w dw fw)(nd:(fv++f).Nodup)(dj:∀a∈fv,a∉fw)(hb:∀a∈fv,B.H a=Ξ):∃F',Frm K B F' H σ τ f/\HRep K F' H v d/\MRep K F' H w dw fw:=by
 have df:∀a∈f,a∉fv:=fun a ha hv=>(h_.mp nd).2.2 a hv a ha rfl;refine⟨fun a=>F a∨a∈fv,⟨fun a h=>?_,m.rps.step (fun a u h r=>⟨.inl h,r⟩) (fun _ _ r=>r) (fun a ha n _=>⟨fun z=>z.elim n (df a ha),rfl⟩),m.nod,m.same,m.own,fun a h=>.inl (m.inn a h),fun a h=>h.elim (m.out a) (fun z=>.inr (hb a z)),fun a xs h=>⟨.inl (m.pin a xs h).1,(m.pin a xs h).2⟩,m.pit,m.nm⟩,mv.read (fun _ z=>.inl z) (fun _ z=>.inr z),mw.step (fun a u h r=>⟨.inl h,r⟩) (fun _ _ r=>r) fun a ha n _=>⟨fun z=>z.elim n fun y=>dj a y ha,rfl⟩⟩;rcases h with h|h
 ·exact m.fok a h
 ·obtain⟨_,u,hu⟩:=mv.own a h;rw[hu];simp
theorem MReps.atK:∀ {vs:List V}{ds:List D}{g:List Ψ}{k:Nat}{d:D},MReps K F H vs ds g->ds[k]? = Γ d->∃w fk p q,vs[k]? = Γ w/\MRep K F H w d fk/\g=p++(fk++q)
 |_,_,_,_,_,.nil,h=>by simp at h
 |_,_,_,0,d,.cons (f:=f0) (g:=g0) m1 m2,h=>by rw[List.getElem?_cons_zero]at h;cases h;exact⟨_,f0,[],g0,rfl,m1,rfl⟩
 |_,_,_,k+1,d,.cons (f:=f0) (g:=g0) m1 m2,h=>by rw[List.getElem?_cons_succ]at h;obtain⟨w,fk,p,q,a1,a2,a3⟩:=MReps.atK m2 h;exact⟨w,fk,f0++p,q,by rw[List.getElem?_cons_succ];exact a1,a2,by rw[a3,o_]⟩
theorem Frm.moveT {i j:Nat}{g fk rest:List Ψ}{w:V}{d:D}(m:Frm K B F H σ τ f)(h3:Rps K F H σ (τ.set i Ξ) g)(mw:MRep K F H w d fk)(h4:f.Perm (fk++(rest++g)))(hj:io≠Γ j):∃f',Frm K B F H (σ.set j (Γ w)) ((τ.set i Ξ).set j (Γ d)) f':=by
 obtain⟨g',h',r,p⟩:=h3.put j mw;have nd0:=h4.nodup_iff.mp m.nod;have nd1:(fk++g).Nodup:=h_.mpr ⟨(h_.mp nd0).1,(h_.mp (h_.mp nd0).2.1).2.1,fun a ha b hb e=>(h_.mp nd0).2.2 a ha b (m_ _ hb) e⟩;have nd2:(g'++h').Nodup:=p.nodup_iff.mpr nd1;refine⟨g',m.fok,r,(h_.mp nd2).1,m.same,fun a ha=>?_,m.inn,m.out,m.pin,m.pit,fun j' a e1 e2=>?_⟩
 ·rcases u_.mp (p.mem_iff.mp (k_ _ ha)) with z|z
  ·exact m.own a (h4.mem_iff.mpr (k_ _ z))
  ·exact m.own a (h4.mem_iff.mpr (m_ _ (m_ _ z)))
 ·rw[EZ (fun z=>hj (by rw[z];exact e1))];exact m.nm j' a e1 e2
end
section
variable {Z:Sg}{CX:CXT}{cl:Nat->List D->Res D}{xp:XK->Hp->Str->Prop}{X:Cx}{ex:Str->Prop}{G:Gm}
theorem uQ (g:GOk Z CX cl xp X ex G){j:Nat}{x:Str}{p:Pos}(h:fM G (.nm j) (.Name x p)=Δ):X.N.Nodup/\X.N[j]? = Γ x/\Loc X.env.scope x/\(X.fn x=Δ∨X.env.scope.names.lookup x=Γ .local)/\G.io≠Γ j:=by
 have ht':(G.N[j]? == Γ x&&(G.kd[j]? == Γ .local||(G.df&&G.kd[j]? == Γ .cell)))=Δ:=(EA.mp h).1;have hjo:G.io≠Γ j:=by simpa using(EA.mp h).2
 rw[d_,EJ,d_]at ht';have hx:G.N[j]? = Γ x:=g_ ht'.1;have hk:=g.kd j x hx;exact⟨by rw[g.N];exact g.nod,by rw[g.N];exact hx,ht'.2.elim (fun z=>.inl (hk.trans (g_ z))) (fun z=>.inr (hk.trans (g_ z.2))),ht'.2.elim (fun z=>.inr (hk.trans (g_ z))) (fun z=>.inl (g.df z.1 x)),hjo⟩
theorem A8 (g:GOk Z CX cl xp X ex G){j i:Nat}{x y:Str}{p q pos:Pos}(ht:fM G (.nm j) (.Name x p)=Δ)(hv:chk Z G (.v i) (.Name y q)=Δ):PS X (.Assign [.Name x p] (.Name y q) pos) (RS X.K G.io ex (evS cl (.mov j i))):=by obtain⟨h1,h2,h3,h4,_⟩:=uQ g ht;exact fS (kx (i:=j) h1 h2 h3 (snO (.v i) Δ X ex G _ g hv) rfl h4) fun Dn σ H h=>uG ht h
theorem st_mvx (g:GOk Z CX cl xp X ex G){j i k:Nat}{x y:Str}{b:Expr}{p q sp pos:Pos}(ht:fM G (.nm j) (.Name x p)=Δ)(hv:gb G i y=Δ)(hb:chk Z G (.c (.int k)) b=Δ)(hs:fe b=Δ):PS X (.Assign [.Name x p] (.Subscript (.Name y q) b sp) pos) (RS X.K G.io ex (evS cl (.mvx j i k))):=by
 obtain⟨h1,h2,h3,h4,h5⟩:=uQ g ht;refine fS (kx (i:=j) h1 h2 h3 (qB mV (iC g hv) (snd (.c (.int k)) X ex G b g hb).1 fun o i=>by cases b<;>first|rfl|cases hs) rfl h4) fun Dn σ H h=>?_;obtain⟨B,F,τ,f,m,q⟩:=h;have q0:PO' ex (wZ j i k τ (cq τ i)) (Fk X.K B Dn):=q;cases zs:cq τ i with
 |none=>rw[zs]at q0;exact q0.no.elim
 |some d0=>
  rw[zs]at q0
  induction d0 using zD with
  |tup ds=>
   have q1:PO' ex (match ds[k]? with|some d=>.ok (.nx ((τ.set i Ξ).set j (Γ d)))|none=>stk) (Fk X.K B Dn):=q0;cases zk:ds[k]? with
   |none=>rw[zk]at q1;exact q1.no.elim
   |some d=>
    rw[zk]at q1;obtain⟨v0,_,_,hσ,_,_,_⟩:=m.rps.at zs;refine⟨v0,hσ,m.rd (Kt:=fun d'=>d'=.int k) (show PO' ex (Except.ok (D.int k):Res D) (fun d'=>d'=.int k) from rfl) fun d' w H1 m1 e1 mw hd=>?_⟩;subst hd;obtain⟨v1,fs,g1,hσ1,mv,h3',h4'⟩:=m1.rps.at zs;rw[hσ]at hσ1;cases hσ1;cases mv with
    | @tup a xs _ _ hq hm=>
     obtain⟨w',fk,p',q',a1,a2,a3⟩:=hm.atK zk;refine⟨a,xs,k,w',rfl,mw.intR,hq,mU a1,?_⟩;subst a3
     have pm:f.Perm (fk++((p'++q')++g1)):=h4'.trans (by
      have e1:p'++(fk++q')++g1=(p'++fk)++(q'++g1):=by simp only[o_]
      have e2:fk++(p'++q'++g1)=(fk++p')++(q'++g1):=by simp only[o_]
      rw[e1,e2]
      exact List.Perm.append_right _ EU)
     obtain⟨f',m2⟩:=m1.moveT (j:=j) h3' a2 pm h5;exact q1.ok _ _ _ _ m2
  |_=>exact q0.no.elim
theorem mD {io:Option Nat}{B:Bs io}{F:Ψ->Prop}{H:Hp}{σ:St}{τ:Ev}{f fw:List Ψ}{i:Nat}{k:IR}{v w:V}{d dw:D}{Kt:Ev->Prop}{Q:Hp->Prop}(m:Frm X.K B F H σ τ f)(mv:HRep X.K F H v d)(mw:MRep X.K F H w dw fw)(dj:∀a∈fw,a∉f)(q:PO' ex (gF cl i k d τ (cq τ i)) Kt)
  (fin:∀τ' H' f',Frm X.K B F H' σ τ' f'->MRep X.K F H' w dw fw->(∀a∈f',a∈f)->Kt τ'->Q H') :
  ∃v0,σ[i]? = Γ (Γ v0)/\RD X.K ex (vars k) (evR cl k) σ H fun y H2=>∃a H4,v0=.ref a/\wL H2 a y v H4/\Q H4:=by
 cases z0:cq τ i with
 |none=>rw[z0]at q;exact q.no.elim
 |some d0=>
  rw[z0]at q
  induction d0 using zD with
  |dct ow ks ds=>
   induction ow using zB with
   |false=>exact q.no.elim
   |true=>
    have q1:PO' ex (bnd (evR cl k τ) fun y=>pU i d τ ks ds (iq y)) Kt:=q;obtain⟨v0,_,_,hv0,_,_,_⟩:=m.rps.at z0;refine⟨v0,hv0,m.rd (PO'.bnd q1) fun y w2 H2 m2 e2 mw2 q2=>?_⟩;cases hk:iq y with
    |none=>rw[hk]at q2;exact q2.no.elim
    |some qk=>
     rw[hk]at q2;obtain⟨gd,q2⟩:=PO'.grd (show PO' ex (grd (fq ds&&hU ks.length) (.ok (τ.set i (Γ (.dct Δ (f9 ks qk) (ers (fL ks ds qk d))))))) Kt from q2);rw[d_]at gd;obtain⟨l,kvs,g0,hσ,hF,hl,hks,hm,hr,hp⟩:=g9 m2.rps z0 gd.1;rw[hv0]at hσ;cases hσ;subst hks;have hm2:=(uI qk (mv.mono (fun _ h=>h) e2) (hm.read (fun _ h=>h) fun _ h=>absurd h (by simp))).frozen;obtain⟨f',m3,hsub⟩:=m2.writeD2 hv0 hF hl hr hp (uH kvs qk v) hm2;have hlen:kvs.length < Ε:=by
      have:=iQ gd.2
      rwa [f_]at this
     have hlf:l∈f:=hp.mem_iff.mpr (EY ..)
     have mw3:MRep X.K F (upd H2 l (.dK (putK kvs qk v))) w dw fw:=mw.step (fun a u h r=>⟨h,by
      have:a≠l:=fun z=>hF (z ▸ h);unfold Rd;rw[dM this]
      exact e2.rd r⟩) (fun a xs r=>(e2.seqT r).updD hl) fun a ha n hn=>⟨n,by
       rw[dM (fun z:a=l=>dj a ha (by rw[z];exact hlf))];obtain⟨_,u,hu⟩:=mw.own a ha
       exact(e2 _ _ hu).trans hu.symm⟩
     exact⟨l,_,rfl,.inl ⟨kvs,qk,hl,iS mw2 hk,hlen,rfl⟩,fin _ _ _ m3 mw3 hsub q2.ok⟩
  |_=>exact q.no.elim
theorem MRep.nonN {K:Frag}{F:Ψ->Prop}{H:Hp}:MRep K F H .non .non []:=.non
theorem st_dsety (g:GOk Z CX cl xp X ex G){i:Nat}{k e:IR}{x:Str}{p sp pos:Pos}{s v:Expr}(h1:gb G i x=Δ)(h3:chk Z G k s=Δ)(h4:chk Z G e v=Δ) :
  PS X (.Assign [.Subscript (.Name x p) s sp] v pos) (RS X.K G.io ex (evS cl (.dsety i k e))):=by
 have hu:=g.un;refine fS (qF (by omega) (iC g h1) (snd k X ex G s g h3).1 (snO e Θ X ex G v g h4) (by induction v using zE<;>rfl)) fun Dn σ H h=>?_;obtain⟨B,F,τ,f,m,q⟩:=h;have q0:PO' ex (bnd (evO cl Θ e τ) fun p=>bnd (gF cl i k p.1 p.2 (cq p.2 i)) fun τ'=>.ok (.nx τ')) (Fk X.K B Dn):=q;refine m.ro (PO'.bnd q0) fun p' w H1 F1 fv f1 o hp=>?_;obtain⟨m1,hb⟩:=m.ow o;obtain⟨F2,m2,mv,_⟩:=m1.give o.rep MRep.nonN o.nod (fun _ _=>by simp) hb;exact mD m2 mv MRep.nonN (fun _ z=>absurd z (by simp)) (PO'.bnd hp) fun τ' H' f' m3 _ _ q3=>q3.ok _ _ _ _ m3
def CT:wx:=fun o y v H Q=>∃a H4,o=.ref a/\wL H a y v H4/\Q H4
theorem A9 (hu:X.A.units+1 < cLine):zZ X CT:=by intro pins s σ H o i v ov iv u Q I ro ri rv h;obtain⟨a,H4,rfl,g,q⟩:=h;obtain rfl:ov=η a:=ro;exact l9 hu I g ri rv fun s4 I4=>⟨H4,I4,q⟩
theorem st_dsetp (g:GOk Z CX cl xp X ex G){i j:Nat}{k e:IR}{x y:Str}{p sp yp tp pos:Pos}{tn:Nat}{s v:Expr}(h1:gb G i x=Δ)(h2:fe s=Δ)(h3:chk Z G k s=Δ)(h4:chk Z G e v=Δ)(hy:fM G (.nm j) (.Name y yp)=Δ)(hcm:G.cm=Δ)(hv:notTuple v=Δ) :
  PS X (.Assign [.Tuple [.Subscript (.Name x p) s sp,.Name y yp] tn tp] v pos) (RS X.K G.io ex (evS cl (.dsetp i k j e))):=by
 have hu:=g.un;obtain⟨k1,k2,k3,k4,k5⟩:=uQ g hy;have pg:=Aa (pos:=tp) (k:=tn) (g.calm hcm) (ku (tD (pos:=sp) (iC (pos:=p) g h1) (snd k X ex G s g h3).1 (A9 (by omega)) (by cases s<;>first|(intro _;rfl)|cases h2)) (ku (qw (pos:=yp) k1 k2 k3 k4) qx));refine fS (pH (snO e Θ X ex G v g h4) pg ?_ ?_ rfl) fun Dn σ H h=>?_
 ·induction v using zE<;>rfl
 ·induction v using zE<;>first|rfl|cases hv
 obtain⟨B,F,τ,f,m,q⟩:=h;have q0:PO' ex (bnd (evO cl Θ e τ) (kN cl i k j)) (Fk X.K B Dn):=q;refine m.ro (PO'.bnd q0) fun p' w H1 F1 fv f1 o hp=>?_;obtain⟨m1,hb⟩:=m.ow o;obtain⟨d,τ1⟩:=p';have hrep:=o.rep;have hnod:=o.nod;clear o;unfold kN at hp;dsimp only at hp hrep m1;split at hp
 ·rename_i d1 d2
  cases hrep with
  | @tup a xs _ _ hq hm=>
   cases hm with
   | @cons v1 _ g1 _ _ g2 mv1 hm2=>
    cases hm2 with
    | @cons v2 _ g3 _ _ g4 mv2 hm3=>cases hm3;rw[D_]at hnod hb;have nd1:(g1++f1).Nodup:=h_.mpr ⟨(h_.mp (h_.mp hnod).1).1,(h_.mp hnod).2.1,fun b h1 c h2 e=>(h_.mp hnod).2.2 b (k_ _ h1) c h2 e⟩;have dj13:∀b∈g1,b∉g3:=fun b h1 h3=>(h_.mp (h_.mp hnod).1).2.2 b h1 b h3 rfl;have dj3f:∀b∈g3,b∉f1:=fun b h3 h4=>(h_.mp hnod).2.2 b (m_ _ h3) b h4 rfl;have nd3:=(h_.mp (h_.mp hnod).1).2.1;obtain⟨F2,m2,mvr,mw2⟩:=m1.give mv1 mv2 nd1 dj13 fun b h=>hb b (k_ _ h);refine⟨a,_,rfl,hq,rfl,v1,_,rfl,?_⟩;refine mD m2 mvr mw2 dj3f (PO'.bnd hp) fun τ' H' f' m3 mw3 hsub q3=>?_;refine⟨v2,_,rfl,rfl,?_⟩;obtain⟨f5,m5⟩:=m3.put j mw3 (h_.mpr ⟨nd3,m3.nod,fun b h3 c h4 e=>dj3f b h3 (hsub b (e ▸ h4))⟩) (fun b h=>hb b (m_ _ h)) k5;exact q3.ok _ _ _ _ m5
 ·exact hp.no.elim
end
section
variable {K:Frag}{io:Option Nat}{B:Bs io}{F:Ψ->Prop}{H:Hp}{σ:St}{τ:Ev}{f:List Ψ}
theorem Frm.scrib (m:Frm K B F H σ τ f){l:Ψ}{ys zs:List V}(hF:¬F l)(hf:l∉f)(hB:B.H l=Ξ)(hl:H l=Γ (.lst ys)):Frm K B F (upd H l (.lst zs)) σ τ f:=by
 have sl:∀a (u:LD),F a->Rd H a u.o->F a/\Rd (upd H l (.lst zs)) a u.o:=fun a u h r=>⟨h,by
  have:a≠l:=fun z=>hF (z ▸ h);unfold Rd;rw[dM this]
  exact r⟩
 have st:∀a xs,SqE K H a xs->SqE K (upd H l (.lst zs)) a xs:=fun a xs h=>h.upd hl;refine⟨fun a h=>?_,m.rps.step sl st fun a ha n _=>⟨n,dM fun z=>hf (z ▸ ha)⟩,m.nod,fun b u e=>?_,m.own,m.inn,m.out,fun a xs h=>sl a xs (m.pin a xs h).1 (m.pin a xs h).2,fun a xs h=>st a xs (m.pit a xs h),m.nm⟩
 ·rw[dM (fun z:a=l=>hF (by rw[<- z];exact h))];exact m.fok a h
 ·rw[dM (fun z=>by rw[z,hB]at e;cases e)];exact m.same b u e
theorem Frm.forgetS (m:Frm K B F H σ τ f)(j:Nat)(o:Option V)(hj:io≠Γ j):∃f',Frm K B F H (σ.set j o) (τ.set j Ξ) f'/\∀a∈f',a∈f:=by
 obtain⟨g,h,r,p⟩:=m.rps.forget j o;have nd:(g++h).Nodup:=p.nodup_iff.mpr m.nod;have sub:∀a∈g,a∈f:=fun a ha=>p.mem_iff.mp (k_ _ ha)
 exact⟨g,⟨m.fok,r,(h_.mp nd).1,m.same,fun a ha=>m.own a (sub a ha),m.inn,m.out,m.pin,m.pit,fun j' a e1 e2=>by
  rw[EZ (fun z=>hj (by rw[z];exact e1))]
  exact m.nm j' a e1 e2⟩,sub⟩
theorem Rps.forget0:∀ {σ:St}{τ:Ev}{f:List Ψ} (j:Nat),Rps K F H σ τ f->∃g h,Rps K F H σ (τ.set j Option.none) g/\(g++h).Perm f
 |_,_,_,_,.nil=>⟨[],[],.nil,.refl _⟩
 |_,_,_,0,.none h=>⟨_,[],.none h,by rw[D_]⟩
 |_,_,_,0,.some (f:=f0) (g:=g0) m h=>⟨g0,f0,.none h,EU⟩
 |_,_,_,j+1,.none h=>by obtain⟨g,h',h1,h2⟩:=Rps.forget0 j h;exact⟨g,h',.none h1,h2⟩
 |_,_,_,j+1,.some (f:=f0) (g:=g0) m h=>by obtain⟨g,h',h1,h2⟩:=Rps.forget0 j h;exact⟨f0++g,h',.some m h1,by rw[o_];exact EW f0 h2⟩
theorem Frm.forget0 (m:Frm K B F H σ τ f)(j:Nat):∃f',Frm K B F H σ (τ.set j Ξ) f'/\∀a∈f',a∈f:=by obtain⟨g,h,r,p⟩:=m.rps.forget0 j;have nd:(g++h).Nodup:=p.nodup_iff.mpr m.nod;have sub:∀a∈g,a∈f:=fun a ha=>p.mem_iff.mp (k_ _ ha);exact⟨g,⟨m.fok,r,(h_.mp nd).1,m.same,fun a ha=>m.own a (sub a ha),m.inn,m.out,m.pin,m.pit,m.nm⟩,sub⟩
def Cl (K:Frag)(P:Ψ->Prop)(H:Hp)(v:V):Prop:=∃t vx l ys,v=.ref t/\SqT K H t [vx,.ref l]/\H l=Γ (.lst ys)/\P l
theorem rg:∀ {vs:List V}{ds:List D}{f0:List Ψ},MReps K F H vs ds f0->ds.all (fun d=>prD d&&fB d)=Δ->∀v∈vs,Cl K (fun l=>¬F l/\l∈f0) H v
 |_,_,_,.nil,_,v,hv=>nomatch hv
 |_,_,_,.cons (v:=v0) (d:=d0) (f:=f1) (vs:=vs) (ds:=ds) (g:=g1) m1 m2,h,v,hv=>by
  rw[List.all_cons,d_,d_]at h;rcases j_.mp hv with rfl|hv
  ·obtain⟨⟨h1,h2⟩,_⟩:=h;unfold prD at h1;split at h1
   ·rename_i x o r
    have ho:o=Δ:=by have h3:(fB x&&(fB (.lst o r)&&Δ))=Δ:=h2;rw[Bool.and_true,d_]at h3;exact(EA.mp (show(o&&fF r)=Δ from h3.2)).1
    subst ho;cases m1 with
    | @tup t xs _ _ hq hm=>
     cases hm with
     | @cons vx _ g2 _ _ g3 mx hm2=>
      cases hm2 with
      | @cons vl _ g4 _ _ g5 ml hm3=>
       cases hm3;cases ml with
       | @lstO l ys _ fi hF hH hmm=>exact⟨t,vx,l,ys,rfl,hq,hH,hF,k_ _ (m_ _ (k_ _ (.head _)))⟩
   ·cases h1
  ·obtain⟨t,vx,l,ys,a1,a2,a3,a4,a5⟩:=rg m2 h.2 v hv;exact⟨t,vx,l,ys,a1,a2,a3,a4,m_ _ a5⟩
theorem Cl.mono {P Q:Ψ->Prop}{H':Hp}{v:V}(h:Cl K P H v)(e:dO H H')(k:∀l,P l->H l≠Ξ->Q l):Cl K Q H' v:=by obtain⟨t,vx,l,ys,a1,a2,a3,a4⟩:=h;exact⟨t,vx,l,ys,a1,e.seqT (xs:=.inl _) a2,e _ _ a3,k l a4 (by rw[a3];simp)⟩
theorem Cl.clr {P:Ψ->Prop}{l:Ψ}{ys:List V}{v:V}(h:Cl K P H v)(hl:H l=Γ (.lst ys)):Cl K P (upd H l (.lst [])) v:=by
 obtain⟨t,vx,l',ys',a1,a2,a3,a4⟩:=h;have a2':SqE K (upd H l (.lst [])) t (.inl [vx,.ref l']):=SqE.upd (xs:=.inl [vx,.ref l']) hl a2;by_cases e:l'=l
 ·subst e;exact⟨t,vx,l',[],a1,a2',dP,a4⟩
 ·exact⟨t,vx,l',ys',a1,a2',by rw[dM e];exact a3,a4⟩
end
section
variable {Z:Sg}{CX:CXT}{cl:Nat->List D->Res D}{xp:XK->Hp->Str->Prop}{X:Cx}{ex:Str->Prop}{G:Gm}
theorem CU {tg e:Expr}{te:TE}(ha:PE X e te):PI X tg e (fun σ H R=>te σ H fun v H1=>∃a xs,v=.ref a/\SqL X.K H1 a xs/\R (Itl X.K a) H1):=by intro pins s σ H R I h;refine thn (ha pins s σ H _ I h) fun v s1 ⟨x,H1,I1,r1,a,xs,e,hq,q⟩=>?_;subst e;cases r1;exact nG I1 hq q
theorem kZ {a:IR}{d:D}(hd:∀τ,evR cl a τ=.ok d){io:Option Nat}{B:Bs io}{F:Ψ->Prop}{H:Hp}{σ:St}{τ:Ev}{f:List Ψ}(m:Frm X.K B F H σ τ f){Q:VK}(k:∀v H',Frm X.K B F H' σ τ f->dO H H'->HRep X.K (nw (fun _=>True) H) H' v d->Q v H'):RD X.K ex (vars a) (evR cl a) σ H Q:=
 m.rd (Kt:=fun d'=>d'=d) (by rw[hd];rfl) fun d' v H' m' e mv hd'=>by subst hd';exact k v H' m' e mv
theorem yT {n:Nat}(h:n<=1000):n<=Ε:=by rw[sizeLine_eq];omega
theorem st_clrA (g:GOk Z CX cl xp X ex G){a b i tn:Nat}{t n c0 c1:Expr}{x y bn:Str}{px py sp0 sp1 tp lp bp bpp apos cpos ep pos:Pos}(hcm:G.cm=Δ)(hrs:G.rs=Δ)(hT:fM G (.tp [.nm a,.nm b]) t=Δ)(hn:chk Z G (.c .non) n=Δ)(nn:notStar n=Δ)(hx:gb G i x=Δ)(hy:gb G i y=Δ)
  (h0:chk Z G (.c (.int 0)) c0=Δ) (s0:fe c0=Δ) (h1:chk Z G (.c (.int 1)) c1=Δ) (s1:fe c1=Δ) (hb:gb G b bn=Δ) (hl:(apos.endLine == cpos.line)=Δ) (ab:a≠b) :
  PS X (.For t (.BinOp (.Subscript (.Name x px) c0 sp0) .Add (.List [.Tuple [n,.Subscript (.Name y py) c1 sp1] tn tp] lp) bp) [.Expr (.Call (.Attribute (.Name bn bpp) "clear" apos) [] [] cpos) ep] [] pos) (RS X.K G.io ex (evS cl (.clrA a b i))):=by
 have pe0:PE X (.Subscript (.Name x px) c0 sp0) _:=qB mV (iC g hx) (snd (.c (.int 0)) X ex G c0 g h0).1 fun o i=>by cases c0<;>first|rfl|cases s0
 have pe1:PE X (.Subscript (.Name y py) c1 sp1) _:=qB mV (iC g hy) (snd (.c (.int 1)) X ex G c1 g h1).1 fun o i=>by cases c1<;>first|rfl|cases s1
 have peT:PE X (.Tuple [n,.Subscript (.Name y py) c1 sp1] tn tp) _:=mR (fX (snd (.c .non) X ex G n g hn).1 (fX pe1 gW) (dN nn _ _));have peI:PE X (.BinOp (.Subscript (.Name x px) c0 sp0) .Add (.List [.Tuple [n,.Subscript (.Name y py) c1 sp1] tn tp] lp) bp) _:=qz Ar pe0 (mS (fX peT gW));have pb:PSs X [.Expr (.Call (.Attribute (.Name bn bpp) "clear" apos) [] [] cpos) ep] _:=wu (mQ (Ap PySem.F.plainAttrs_list PySem.F.slot_list_clear PySem.F.type_list_clear tQ (iC g hb) rfl hl));refine fS (pK (g.own hrs) (g.calm hcm) (CU peI) (pgT g (.tp [.nm a,.nm b]) t hT) pb) fun Dn σ H ⟨B,F,τ,f,m,q⟩=>?_;have hio:=iT (.tp [.nm a,.nm b]) t hT;have ioa:G.io≠Γ a:=hio a (EY ..);have iob:G.io≠Γ b:=hio b (by show b∈[a]++([b]++[]);simp);have q0:PO' ex (ue a b i τ (cq τ i)) (Fk X.K B Dn):=q;cases zs:cq τ i with
 |none=>rw[zs]at q0;exact q0.no.elim
 |some d0=>
  rw[zs]at q0;obtain⟨gd,q1⟩:=PO'.grd (show PO' ex (grd (mh d0&&uc τ b) (.ok (.nx (((τ.set i Ξ).set a Ξ).set b Ξ)))) (Fk X.K B Dn) from q0);rw[d_]at gd;obtain⟨gc,gj⟩:=gd;have hbl:b < τ.length:=rb gj;unfold mh at gc;split at gc
  ·rename_i rows r
   simp only[d_]at gc;obtain⟨⟨gr,glf⟩,gsz⟩:=gc;obtain⟨v0,fi,g1,hσ,mv,h3,h4⟩:=m.rps.at zs;cases mv with
   | @tup p xs _ _ hq hm=>
    cases hm with
    | @cons va _ f1 _ _ f2 ma hm2=>
     cases hm2 with
     | @cons vb _ f3 _ _ f4 mb hm3=>
      cases hm3;cases ma with
      | @lstO a0 vs _ fa hFa hHa hma=>
       cases mb with
       | @lstO a1 ys1 _ fb hFb hHb hmb=>
        have hlen:vs.length=rows.length:=hma.length;have nd0:=h4.nodup_iff.mp m.nod;have inf:∀l,l∈(a0::fa)++((a1::fb)++[])->l∉g1/\B.H l=Ξ:=fun l hl=>⟨fun z=>(h_.mp nd0).2.2 l hl l z rfl,m.own l (h4.mem_iff.mpr (k_ _ hl))⟩
        have m0:Frm X.K B F H σ (τ.set i Ξ) g1:=⟨m.fok,h3,(h_.mp nd0).2.1,m.same,fun l hl=>m.own l (h4.mem_iff.mpr (m_ _ hl)),m.inn,m.out,m.pin,m.pit,m.nm⟩
        obtain⟨g2,m1,sub1⟩:=m0.forget0 a;obtain⟨g3,m2,sub2⟩:=m1.forget0 b;have sub:∀l∈g3,l∈g1:=fun l hl=>sub1 l (sub2 l hl)
        -- the two lists are read
        refine⟨.ref p,hσ,kZ (fun _=>rfl) m2 fun w H1 m3 e1 mw=>⟨p,[.ref a0,.ref a1],0,.ref a0,rfl,mw.intR,e1.seqT (xs:=.inl _) hq,mU (j:=0) rfl,?_⟩⟩;refine kZ (fun _=>rfl) m3 fun wn H2 m4 e2 mn=>?_;refine⟨.ref p,hσ,kZ (fun _=>rfl) m4 fun w' H3 m5 e3 mw'=>⟨p,[.ref a0,.ref a1],1,.ref a1,rfl,mw'.intR,(e1.trans (e2.trans e3)).seqT (xs:=.inl _) hq,mU (j:=1) rfl,?_⟩⟩;refine⟨yT (by simp),fun t0 ht0=>⟨yT (by simp),fun l2 hl2=>?_⟩⟩;have e03:dO H H3:=e1.trans (e2.trans e3);have e4:dO H3 (upd H3 t0 (.tup [wn,.ref a1])):=.upd ht0;have e5:dO (upd H3 t0 (.tup [wn,.ref a1])) (upd (upd H3 t0 (.tup [wn,.ref a1])) l2 (.lst [.ref t0])):=.upd hl2;have e05:=e03.trans (e4.trans e5);refine⟨a0,l2,vs,[.ref t0],rfl,rfl,e05 _ _ hHa,dP,?_,fun A hA=>⟨A,vs++[.ref t0],rfl,.inl (.inl dP),?_⟩⟩
        ·have:=iQ gsz;rw[hlen];show rows.length+1<=Ε;omega
        have e6:dO (upd (upd H3 t0 (.tup [wn,.ref a1])) l2 (.lst [.ref t0])) (upd (upd (upd H3 t0 (.tup [wn,.ref a1])) l2 (.lst [.ref t0])) A (.lst (vs++[.ref t0]))):=.upd hA;have hA0:H A=Ξ:=e05.free hA;have e06:=e05.trans e6;have eqt:SqT X.K (upd (upd (upd H3 t0 (.tup [wn,.ref a1])) l2 (.lst [.ref t0])) A (.lst (vs++[.ref t0]))) t0 [wn,.ref a1]:=(e5.trans e6).seqT (K:=X.K) (xs:=.inl [wn,.ref a1]) (.inl (.inl dP));generalize hHx:upd (upd (upd H3 t0 (.tup [wn,.ref a1])) l2 (.lst [.ref t0])) A (.lst (vs++[.ref t0]))=H6 at *;have hA6:H6 A=Γ (.lst (vs++[.ref t0])):=by rw[<- hHx];exact dP
        have m6:Frm X.K B F H6 σ (((τ.set i Ξ).set a Ξ).set b Ξ) g3:=m5.grow ((e4.trans e5).trans e6);let P:Ψ->Prop:=fun l=>¬F l/\l∉g1/\l≠A/\B.H l=Ξ;have ne:∀l,H l≠Ξ->l≠A:=fun l hl z=>hl (z ▸ hA0);have cls:∀v∈vs++[V.ref t0],Cl X.K P H6 v:=fun v hv=>by
         rcases u_.mp hv with hv|hv
         ·exact(rg hma gr v hv).mono e06 fun l ⟨k1,k2⟩ k3=>⟨k1,(inf l (k_ _ (.tail _ k2))).1,ne l k3,(inf l (k_ _ (.tail _ k2))).2⟩
         ·rw[C_.mp hv];have hin:a1∈(a0::fa)++((a1::fb)++[]):=m_ _ (.head _);exact⟨t0,wn,a1,ys1,rfl,eqt,e06 _ _ hHb,hFb,(inf a1 hin).1,ne a1 (by rw[hHb];simp),(inf a1 hin).2⟩
        have hτb:b < (((τ.set i Ξ).set a Ξ).set b Ξ).length:=by simpa using hbl
        -- the turns
        refine⟨fun k n σ' H'=>n=(vs++[V.ref t0]).length - k/\k<=(vs++[V.ref t0]).length/\H' A=Γ (.lst (vs++[.ref t0]))/\(∀v∈vs++[V.ref t0],Cl X.K P H' v)/\∃g4,Frm X.K B F H' σ' (((τ.set i Ξ).set a Ξ).set b Ξ) g4/\∀l∈g4,l∈g1,⟨_,rfl,ET _,hA6,cls,g3,m6,sub⟩,?_⟩;rintro k n' σ' H' ⟨rfl,hk,hA',cl',g4,m7,sub4⟩;by_cases hlt:k < (vs++[V.ref t0]).length
        ·refine .inr ⟨⟨_,(vs++[V.ref t0])[k],.inl (.inl hA'),EK hlt⟩,fun σ2 H2=>H2 A=Γ (.lst (vs++[.ref t0]))/\(∀v∈vs++[V.ref t0],Cl X.K P H2 v)/\∃g4,Frm X.K B F H2 σ2 (((τ.set i Ξ).set a Ξ).set b Ξ) g4/\∀l∈g4,l∈g1,fun σ2 H2 h=>⟨(vs++[V.ref t0]).length - (k+1),by omega,rfl,hlt,h⟩,fun x' H2 hy2=>?_⟩;obtain⟨rfl,hy2⟩:=hy2;have hx':x'∈vs++[V.ref t0]:=EM (hy2 _ (.inl (.inl hA')));obtain⟨t',vx,l,ys,rfl,hq',hl',hFl,hgl,hlA,hBl⟩:=cl' x' hx';refine⟨t',[vx,.ref l],rfl,.inl hq',rfl,vx,[.ref l],rfl,.ref l,[],rfl,rfl,?_⟩;obtain⟨g5,m8,sub5⟩:=m7.forgetS a (Γ vx) ioa;obtain⟨g6,m9,sub6⟩:=m8.forgetS b (Γ (.ref l)) iob;have eτ:((((τ.set i Ξ).set a Ξ).set b Ξ).set a Ξ).set b Ξ=((τ.set i Ξ).set a Ξ).set b Ξ:=by rw[List.set_comm (i:=b) (j:=a) _ _ (fun z=>ab z.symm),List.set_set,List.set_set]
         rw[eτ]at m9;have hbσ:b < ((σ'.set a (Γ vx)).set b (Γ (.ref l))).length:=by rw[m9.rps.len];exact hτb
         have hσb:((σ'.set a (Γ vx)).set b (Γ (.ref l)))[b]? = Γ (Γ (.ref l)):=by rw[List.length_set]at hbσ;rw[List.getElem?_set_self hbσ]
         refine⟨.ref l,hσb,.inl ⟨rfl,ys,.inl (.inl hl')⟩,l,ys,rfl,rfl,hl',?_⟩;exact⟨by rw[dM (fun z=>hlA z.symm)];exact hA',fun v hv=>(cl' v hv).clr hl',g6,m9.scrib hFl (fun z=>hgl (sub4 l (sub5 l (sub6 l z)))) hBl hl',fun l' h'=>sub4 l' (sub5 l' (sub6 l' h'))⟩
        ·refine .inl ⟨⟨_,.inl (.inl hA'),by omega⟩,q1.ok _ _ _ _ m7⟩
  ·cases gc
end
section
variable {Z:Sg}{CX:CXT}{cl:Nat->List D->Res D}{xp:XK->Hp->Str->Prop}{X:Cx}{ex:Str->Prop}{G:Gm}
theorem st_setix (g:GOk Z CX cl xp X ex G){i:Nat}{k e:IR}{x:Str}{p sp pos:Pos}{s v:Expr}(h1:gb G i x=Δ)(h2:fe s=Δ)(h3:chk Z G k s=Δ)(h4:chk Z G e v=Δ) :
  PS X (.Assign [.Subscript (.Name x p) s sp] v pos) (RS X.K G.io ex (evS cl (.setix i k e))):=by
 refine fS (pH (snO e Θ X ex G v g h4) (tD (iC g h1) (snd k X ex G s g h3).1 set_list (by intro _;cases s<;>first|rfl|cases h2)) (by cases v<;>rfl) (by cases v<;>rfl) rfl) fun Dn σ H h=>?_;obtain⟨B,F,τ,f,m,q⟩:=h;refine m.ro (PO'.bnd q) fun p v H' F' fv f' o hp=>?_;obtain⟨m',hb⟩:=m.ow o;have hp1:PO' ex (match cq p.2 i with|some (.lst Δ ds)=>(bnd (evR cl k p.2) fun|.int z=>(match ixN ds.length z with|some j=>.ok (.nx (p.2.set i (Γ (.lst Δ (ds.set j p.1)))))|none=>stk)|_=>stk)|_=>stk) (Fk X.K B Dn):=hp;cases zs:cq p.2 i with
 |none=>rw[zs]at hp1;exact hp1.no.elim
 |some d=>
  rw[zs]at hp1
  induction d using zD with
  |lst ow ds=>
   induction ow using zB with
   |false=>exact hp1.no.elim
   |true=>
    obtain⟨l,xs,hσ,hl,hlen⟩:=uK m'.rps zs;refine⟨.ref l,hσ,m'.rd (PO'.bnd hp1) fun y w H2 m2 e2 mw hy=>?_⟩
    induction y using zD with
    |int z=>
     cases mw.intR;have hy':PO' ex (match ixN ds.length z with|some j=>.ok (.nx (p.2.set i (Γ (.lst Δ (ds.set j p.1)))))|none=>stk) (Fk X.K B Dn):=hy;cases hj:ixN ds.length z with
     |none=>rw[hj]at hy';exact hy'.no.elim
     |some j=>rw[hj]at hy';obtain⟨k1,k2,k3⟩:=jf m'.fok m'.rps e2;have mv2:MRep X.K F' H2 v p.1 fv:=o.rep.stp k3 fun a ha hb=>(h_.mp o.nod).2.2 a ha a hb rfl;have hl2:H2 l=Γ (.lst xs):=e2 _ _ hl;obtain⟨f'',m3⟩:=m2.write (ys:=xs.set j v) (ds':=ds.set j p.1) zs hσ hl2 mv2 o.nod hb fun fi hm=>hm.set mv2 j;exact⟨l,xs,z,j,rfl,rfl,hl2,by rw[hlen];exact hj,hy'.ok _ _ _ _ m3⟩
    |_=>exact hy.no.elim
  |_=>exact hp1.no.elim
theorem st_app (g:GOk Z CX cl xp X ex G){i:Nat}{e:IR}{x:Str}{p apos cpos pos:Pos}{v:Expr}(h1:gb G i x=Δ)(h2:(apos.endLine == cpos.line)=Δ)(h3:notStar v=Δ)(h4:chk Z G e v=Δ) :
  PS X (.Expr (.Call (.Attribute (.Name x p) "append" apos) [v] [] cpos) pos) (RS X.K G.io ex (evS cl (.app i e))):=by
 have pa:PA X [v] (lP (RO X.K ex (evO cl Θ e)) Am):=fX (snO e Θ X ex G v g h4) gW (dN h3 _ _);have hfew:((backTo cpos (Μ [v] X.env)).all (fun x=>!x.1)&&(backToKw cpos (keywordEach [] X.env)).all (fun x=>x.1.isSome)&&decide ([v].length+([]:List Keyword).length+(if([]:List Keyword).isEmpty then 0 else 1) < 30))=Δ:=by rw[dN h3];rfl
 refine fS (mQ (qD PySem.F.plainAttrs_list PySem.F.slot_list_append PySem.F.type_list_append lW (iC g h1) pa rfl hfew h2 (dN h3 _ _) rfl)) fun Dn σ H h=>?_;obtain⟨B,F,τ,f,m,q⟩:=h;have q0:PO' ex (match cq τ i with|some (.lst _ _)=>(bnd (evO cl Θ e τ) fun p=>(match cq p.2 i with|some (.lst Δ ds)=>grd (hU ds.length) (.ok (.nx (p.2.set i (Γ (.lst Δ (ds++[p.1]))))))|_=>stk))|_=>stk) (Fk X.K B Dn):=q;cases z0:cq τ i with
 |none=>rw[z0]at q0;exact q0.no.elim
 |some d0=>
  rw[z0]at q0
  induction d0 using zD with
  |lst o0 ds0=>
   obtain⟨v0,fv0,g0,a1,a2,a3,a4⟩:=m.rps.at z0;have hq:∃l xs,v0=.ref l/\SqL X.K H l xs:=by
    cases a2 with
    |lstS _ b1 _=>exact⟨_,_,rfl,.inl b1⟩
    |lstK b1 _=>exact⟨_,_,rfl,b1.sq⟩
    |lstO _ b1 _=>exact⟨_,_,rfl,.inl (.inl b1)⟩
   obtain⟨l,xs0,rfl,hq⟩:=hq;refine⟨.ref l,a1,.inl ⟨rfl,xs0,hq⟩,m.ro (PO'.bnd q0) fun p v H' F' fv f' o hp=>?_⟩;obtain⟨m',hb⟩:=m.ow o;cases zs:cq p.2 i with
   |none=>rw[zs]at hp;exact hp.no.elim
   |some d=>
    rw[zs]at hp
    induction d using zD with
    |lst ow ds=>
     induction ow using zB with
     |false=>exact hp.no.elim
     |true=>obtain⟨gd,hp⟩:=PO'.grd hp;obtain⟨l',xs,hσ,hl,hlen⟩:=uK m'.rps zs;rw[a1]at hσ;cases hσ;obtain⟨f'',m3⟩:=m'.write (ys:=xs++[v]) (ds':=ds++[p.1]) zs a1 hl o.rep o.nod hb fun fi hm=>hm.snoc o.rep;exact⟨l,xs,v,rfl,rfl,hl,by rw[hlen];exact iQ gd,hp.ok _ _ _ _ m3⟩
    |_=>exact hp.no.elim
  |_=>exact q0.no.elim
theorem Fk.rt_of {K:Frag}{io:Option Nat}{B:Bs io}{F F':Ψ->Prop}{H H':Hp}{σ:St}{τ τ':Ev}{f f':List Ψ}{v:V}{d:D}{fv:List Ψ}(m:Frm K B F H σ τ f)(o:Ow K F H f F' H' σ v d fv τ' f'):Out K B.F B.H F' H' v d fv:=by obtain⟨m',hb⟩:=m.ow o;exact⟨m'.fok,m'.same,o.rep,(h_.mp o.nod).1,hb,m'.inn,m'.out⟩
theorem st_ret (g:GOk Z CX cl xp X ex G){e:IR}{v:Expr}{pos:Pos}(h:chk Z G e v=Δ):PS X (.Return (Γ v) pos) (RS X.K G.io ex (evS cl (.ret e))):=by refine fS (tu (snO e Δ X ex G v g h)) fun Dn σ H ⟨B,F,τ,f,m,q⟩=>?_;exact m.ro (PO'.bnd q) fun p v H' F' fv f' o hp=>hp.ok _ _ _ _ (Fk.rt_of m o)
theorem st_reti (g:GOk Z CX cl xp X ex G){i:Nat}{e:IR}{v:Expr}{pos:Pos}(hio:G.io=Γ i)(h:chk Z G e v=Δ):PS X (.Return (Γ v) pos) (RS X.K G.io ex (evS cl (.reti i e))):=by
 refine fS (tu (snO e Δ X ex G v g h)) fun Dn σ H ⟨B,F,τ,f,m,q⟩=>?_;have q0:PO' ex (bnd (evO cl Δ e τ) (oO i)) (Fk X.K B Dn):=q;refine m.ro (PO'.bnd q0) fun p v H' F' fv f' o hp=>?_;unfold oO at hp;split at hp
 ·rename_i ks vs zs
  obtain⟨gs,hp⟩:=PO'.grd hp;obtain⟨mo,hb⟩:=m.ow o;obtain⟨l,kvs,g1,hσ,hF,hH,hks,hmv,hr,hpm⟩:=g9 mo.rps zs gs;refine hp.ok v H' F' fv kvs l (fun a' e'=>?_) (Fk.rt_of m o) hF (fun z=>?_) hH hks (hmv.read (fun _ z=>z) fun _ z=>absurd z (by simp))
  ·have hnm:=mo.nm _ _ hio e';rw[hσ]at hnm;cases hnm;rfl
  ·exact(h_.mp o.nod).2.2 _ z _ (hpm.mem_iff.mpr (j_.mpr (.inl rfl))) rfl
 ·exact hp.no.elim
theorem st_if {c:Expr}{x y:List Stmt}{pos:Pos}{t:IR}{a b:List IS}(hc:PT X c (RT X.K ex (vars t) fun τ=>bnd (evR cl t τ) fQ))(ha:PSs X x (RS X.K G.io ex (gA cl a)))(hb:PSs X y (RS X.K G.io ex (gA cl b))):PS X (.If c x y pos) (RS X.K G.io ex (evS cl (.if_ t a b))):=by
 refine fS (B6 hc ha hb) fun Dn σ H ⟨B,F,τ,f,m,q⟩=>?_;refine m.rt (PO'.bnd q) fun r H' m' _ hr=>?_
 induction r using zB with
 |true=>rw[c_ rfl]at hr ⊢;exact⟨B,F,τ,f,m',hr⟩
 |false=>rw[b_ EC]at hr ⊢;exact⟨B,F,τ,f,m',hr⟩
theorem Frm.less {K:Frag}{io:Option Nat}{B:Bs io}{L:Ψ->LD->Prop}{T:Ψ->List V ⊕ Str->Prop}{F:Ψ->Prop}{H:Hp}{σ:St}{τ:Ev}{f:List Ψ}(m:Frm K (⟨B.F,B.H,fun a xs=>B.L a xs∨L a xs,fun a xs=>B.T a xs∨T a xs,B.N⟩:Bs io) F H σ τ f):Frm K B F H σ τ f:=
 ⟨m.fok,m.rps,m.nod,m.same,m.own,m.inn,m.out,fun a xs h=>m.pin a xs (.inl h),fun a xs h=>m.pit a xs (.inl h),m.nm⟩
theorem oY:∀(ds:List D) (i:Nat),(ers ds).drop i=ers (ds.drop i):=by intro ds i;rw[gP,gP,List.map_drop]
theorem oZ {J:It}{K:Frag}{io:Option Nat}{B:Bs io}{F:Ψ->Prop}{H:Hp}{σ:St}{τ:Ev}{f:List Ψ}{T:Tg}{body:List IS}{its:List D}{Dn:Ends}(hio:∀j∈tgs T,io≠Γ j)(m:Frm K B F H σ τ f)(w:Wlk K F H J its)
  (q:PO' ex (forM (fun x τ=>bnd (gR T x τ) fun τ'=>gA cl body τ') (ers its) τ) (Fk K B Dn)) :
  ∃W:Nat->Nat->St->Hp->Prop,(∃m,W 0 m σ H)/\∀i m σ H,W i m σ H->(J.stop i H/\Dn.nx σ H)∨(J.go i H/\∃N:St->Hp->Prop,(∀σ' H',N σ' H'->∃m',m' < m/\W (i+1) m' σ' H')/\
   ∀x H',J.yld i H x H'->gT K T x σ H' fun σ2 H2=>RS K io ex (gA cl body) {Dn with nx:=N,ct:=N,bk:=Dn.nx} σ2 H2):=by
 let B':Bs io:=⟨B.F,B.H,fun a xs=>B.L a xs∨(F a/\Rd H a xs.o),fun a xs=>B.T a xs∨SqE K H a xs,B.N⟩
 have m0:Frm K B' F H σ τ f:=⟨m.fok,m.rps,m.nod,m.same,m.own,m.inn,m.out,fun a xs h=>h.elim (m.pin a xs) id,fun a xs h=>h.elim (m.pit a xs) id,m.nm⟩
 let bd:D->Ev->Res Fl:=fun x τ=>bnd (gR T x τ) fun τ'=>gA cl body τ';refine⟨fun i n σ H=>n=its.length - i/\i<=its.length/\∃F τ f,Frm K B' F H σ τ f/\PO' ex (forM bd ((ers its).drop i) τ) (Fk K B Dn),⟨its.length,by simp,ET _,F,τ,f,m0,by rw[List.drop_zero];exact q⟩,?_⟩;rintro i n σ1 H1 ⟨rfl,hi,F1,τ1,f1,m1,q1⟩;have w1:Wlk K F1 H1 J its:=w.step (fun a xs h r=>m1.pin a xs (.inr ⟨h,r⟩)) fun a xs h=>m1.pit a xs (.inr h);by_cases hlt:i < its.length
 ·refine .inr ⟨w1.go hlt,fun σ H=>∃F τ f,Frm K B' F H σ τ f/\PO' ex (forM bd ((ers its).drop (i+1)) τ) (Fk K B Dn),fun σ' H' h=>⟨its.length - (i+1),by omega,rfl,hlt,h⟩,fun x H' y=>?_⟩;obtain⟨eH,mx⟩:=w1.yld y (d:=its[i]) (by simp[hlt]);have m1:=m1.grow eH;have hd:(ers its).drop i=er its[i]::(ers its).drop (i+1):=by rw[oY,List.drop_eq_getElem_cons hlt,ers,oY]
  rw[hd]at q1;have q2:=PO'.bnd q1;refine m1.gT mx.frozen (by simpa using m1.nod) (fun a ha=>absurd ha (by simp)) hio (PO'.bnd q2) fun τ' σ' f' m' h'=>?_;refine⟨B',F1,τ',f',m',h'.mono fun r hr=>?_⟩;cases r with
  |nx τ'=>exact fun σ' H' F' f' m''=>⟨F',τ',f',m'',hr⟩
  |ct τ'=>exact fun σ' H' F' f' m''=>⟨F',τ',f',m'',hr⟩
  |bk τ'=>exact fun σ' H' F' f' m''=>hr.ok _ _ _ _ m''.less
  |rt d=>exact fun v H' F' fv o=>hr.ok _ _ _ _ o
  |ri d ks es=>exact hr.ok
 ·have e:i=its.length:=by omega
  subst e;refine .inl ⟨w1.stop rfl,?_⟩;have:(ers its).drop its.length=[]:=by rw[<- gk its,List.drop_length]
  rw[this]at q1;exact q1.ok _ _ _ _ m1.less
theorem xG (a b:Int):ers (ir a b)=ir a b:=by unfold ir;rw[gP,EB];rfl
noncomputable def yU (cl:Nat->List D->Res D):Sr->Ev->Res (Int×Int)
 |.rng1 n,τ=>bnd (evR cl n τ) fun|.int i=>grd (j9 i) (.ok (0,i))|_=>stk
 |_,_=>stk
def RIr (K:Frag)(ex:Str->Prop)(is:List Nat)(f:Ev->Res (Int×Int)):TI:=fun σ H R=>∃S τ,Slots K S H σ τ is/\PO' ex (f τ) fun p=>∀H',dO H H'->R (Itr p.1 (p.2 - p.1).toNat) H'
noncomputable def uR:Sr->Bool
 |.rng1 _=>Δ
 |_=>Θ
theorem uS {s:Sr}(h:uR s=Δ){τ:Ev}{k:List D->Prop}(q:PO' ex (jA cl s τ) k):PO' ex (yU cl s τ) fun p=>k (ir p.1 p.2):=by
 cases s with
 |rng1 n=>
  refine PO'.mk ((PO'.bnd (show PO' ex (bnd (evR cl n τ) fun|.int i=>grd (j9 i) (.ok (ir 0 i))|_=>stk) k from q)).mono fun d hd=>?_)
  induction d using zD with
  |int i=>obtain⟨gd,hd⟩:=PO'.grd hd;show PO' ex (grd (j9 i) (.ok (0,i))) _;unfold grd;rw[c_ gd];exact hd.ok
  |_=>exact hd.no.elim
 |_=>exists h
theorem Ex:∀(s:Sr) (X:Cx) (ex:Str->Prop) (G:Gm) (e tg:Expr),GOk Z CX cl xp X ex G->gU Z G s e=Δ->uR s=Δ->PI X tg e (RIr X.K ex (jz s) (yU cl s)):=by
 intro s X ex G e tg g h hr;cases s with
 |rng1 n=>
  induction e using zE with
  |Call fn args kws pos=>
   induction fn using zE with
   |Name x p=>
    match args,kws,h with
    |[a],[],h=>
     have h':(x == "range"&&G.gl.contains 15&&notStar a&&chk Z G n a)=Δ:=h;simp only[d_]at h';have e1:x = "range":=g_ h'.1.1.1;subst e1;obtain⟨k1,k2,_,_⟩:=jc g (show gq[15]? = Γ ("range" : Str) from rfl) h'.1.1.2;refine tU (lN k1 k2 (fX (snd n X ex G a g h'.2).1 gW (dN h'.1.2 _ _)) (dN h'.1.2 _ _)) fun σ H Q ⟨S,τ,hs,q⟩=>?_;refine fI (.refl _) hs (PO'.bnd q) fun x v H1 e1 _ m1 q1=>?_
     induction x using zD with
     |int i=>cases m1.intR;obtain⟨gd,q1⟩:=PO'.grd q1;have gd' : -(2 ^ 62)<=i/\i < 2 ^ 62:=r_ gd;refine⟨i,rfl,gd'.1,gd'.2,?_⟩;have:=q1.ok _ e1;rw[show(0,i).2 - (0,i).1=i from Int.sub_zero i]at this;exact this
     |_=>exact q1.no.elim
    |[],_,h=>exists h
    |[_],_::_,h=>exists h
    |_::_::_,_,h=>exists h
   |_=>exists h
  |_=>exists h
 |_=>cases hr
theorem st_for (g:GOk Z CX cl xp X ex G){t it:Expr}{x:List Stmt}{pos:Pos}{T:Tg}{s:Sr}{a:List IS}(hT':(G.cm=Δ/\G.rs=Δ)/\fM G T t=Δ)(hs':gU Z G s it=Δ/\jq s t=Δ)(ha:PSs X x (RS X.K G.io ex (gA cl a))):PS X (.For t it x [] pos) (RS X.K G.io ex (evS cl (.for_ T s a))):=by
 have hT:=hT'.2;have hs:=hs'.1;by_cases hr:uR s=Δ
 ·refine fS (pK (g.own hT'.1.2) (g.calm hT'.1.1) (Ex s X ex G it t g hs hr) (pgT g T t hT) ha (fun x=>gM hs X.env x)) fun Dn σ H ⟨B,F,τ,f,m,q⟩=>?_;have q0:PO' ex (bnd (pR cl s τ) fun p=>forM (fun x τ=>bnd (gR T x τ) fun τ'=>gA cl a τ') p.1 p.2) (Fk X.K B Dn):=q;have base:PO' ex (jA cl s τ) fun its=>PO' ex (forM (fun x τ=>bnd (gR T x τ) fun τ'=>gA cl a τ') its τ) (Fk X.K B Dn):=by
   cases s with
   |rng1 u=>exact(PO'.bnd (show PO' ex (bnd (jA cl (.rng1 u) τ) fun its=>.ok (its,τ)) _ from PO'.bnd q0)).mono fun its h=>h.ok
   |_=>cases hr
  exact⟨fun _=>True,τ,gh m.rps,(uS hr base).mono fun p hp H1 e1=>oZ (iT T t hT) (m.grow e1) (.rng p.1 p.2) (by rw[xG];exact hp)⟩
 ·refine fS (pK (g.own hT'.1.2) (g.calm hT'.1.1) (uC s X ex G it t g hs hs'.2) (pgT g T t hT) ha (fun x=>gM hs X.env x)) fun Dn σ H ⟨B,F,τ,f,m,q⟩=>?_;have q0:PO' ex (bnd (pR cl s τ) fun p=>forM (fun x τ=>bnd (gR T x τ) fun τ'=>gA cl a τ') p.1 p.2) (Fk X.K B Dn):=q;have q1:=PO'.bnd q0;have hsrc:pR cl s τ=(bnd (jA cl s τ) fun its=>.ok (ers its,frz (jz s) τ)):=by
   cases s with
   |val u=>rfl
   |_=>exact absurd rfl hr
  rw[hsrc]at q1;obtain⟨F1,gg,b1,b2,b3,b4,b5,b6⟩:=iV (jz s) m.fok m.rps m.nod;refine AO (.refl _) b6 (PO'.bnd q1) fun its J H1 e1 _ w1 hk=>?_;obtain⟨c1,c2,c3⟩:=grow (fun _=>True) b1 b2 e1;have m2:Frm X.K B (fun a=>F1 a∨(True/\H a=Ξ/\H1 a≠Ξ)) H1 σ (frz (jz s) τ) gg:=m.stp (b4.trans c3 (fun x hx=>.inl (b5 x hx))) c1 c2 b3 fun a ha=>.inl (b5 a ha);exact oZ (iT T t hT) m2 (w1.step (fun a xs h r=>⟨h.elim (fun z=>.inl z) fun z=>.inr ⟨trivial,z,r.some⟩,r⟩) fun a xs h=>h) hk.ok
mutual
theorem snS:∀(a:IS) (X:Cx) (ex:Str->Prop) (G:Gm) (s:Stmt),GOk Z CX cl xp X ex G->sT Z G a s=Δ->PS X s (RS X.K G.io ex (evS cl a))
 |.asg tg e,X,ex,G,s,g,h=>by
  induction s using zS with
  |Assign ts v pos=>
   match ts,h with
   |[t],h=>have h':(fM G tg t&&chk Z G e v&&(isName t||(isTup t&&notTuple v))&&wY e)=Δ:=h;simp only[d_]at h';exact st_asg g h'.1.1.1 h'.1.1.2 h'.1.2 h'.2
   |[],h=>exists h
   |_::_::_,h=>exists h
  |_=>exists h
 |.setix i k e,X,ex,G,s,g,h=>by
  induction s using zS with
  |Assign ts v pos=>
   induction ts using zL with
   |nil=>exists h
   |cons t ts=>
    induction ts using zL with
    |cons _ _=>cases t<;>first|exact aM h|cases h|(rename_i o _ _;cases o<;>cases h)
    |nil=>
     induction t using zE with
     |Subscript o s sp=>
      induction o using zE with
      |Name x p=>have h':(gb G i x&&fe s&&chk Z G k s&&chk Z G e v)=Δ:=h;simp only[d_]at h';exact st_setix g h'.1.1.1 h'.1.1.2 h'.1.2 h'.2
      |_=>exists h
     |_=>exists h
  |_=>exists h
 |.dset i k e,X,ex,G,s,g,h=>by
  induction s using zS with
  |Assign ts v pos=>
   induction ts using zL with
   |nil=>exists h
   |cons t ts=>
    induction ts using zL with
    |cons _ _=>cases t<;>first|exact aM h|cases h|(rename_i o _ _;cases o<;>cases h)
    |nil=>
     induction t using zE with
     |Subscript o s sp=>
      induction o using zE with
      |Name x p=>have h':(gb G i x&&fe s&&chk Z G k s&&chk Z G e v)=Δ:=h;simp only[d_]at h';exact st_dset g h'.1.1.1 h'.1.1.2 h'.1.2 h'.2
      |_=>exists h
     |_=>exists h
  |_=>exists h
 |.reti i e,X,ex,G,s,g,h=>by
  induction s using zS with
  |Return v pos=>
   induction v using zO with
   |none=>exists h
   |some v=>have h':(G.io == Γ i&&chk Z G e v)=Δ:=h;rw[d_]at h';exact st_reti g (g_ h'.1) h'.2
  |_=>exists h
 |.app i e,X,ex,G,s,g,h=>by
  induction s using zS with
  |Expr v pos=>
   induction v using zE with
   |Call fn args kws cpos=>
    induction fn using zE with
    |Attribute o name apos=>
     induction o using zE with
     |Name x p=>
      match args,kws,h with
      |[v],[],h=>have h':(gb G i x&&name == "append"&&apos.endLine == cpos.line&&notStar v&&chk Z G e v)=Δ:=h;simp only[d_]at h';have e1:name = "append":=g_ h'.1.1.1.2;subst e1;exact st_app g h'.1.1.1.1 h'.1.1.2 h'.1.2 h'.2
      |[],_,h=>exists h
      |[_],_::_,h=>exists h
      |_::_::_,_,h=>exists h
     |_=>exists h
    |_=>exists h
   |_=>exists h
  |_=>exists h
 |.dof j e,X,ex,G,s,g,h=>by
  have h1:civ s (fun t xf args=>isName t&&fM G (.nm j) t&&xf == "dict"&&G.glc 19&&ft Z G [e] args)=Δ:=by induction s using zS<;>exact h
  exact st_dof g h1
 |.dupd i j,X,ex,G,s,g,h=>by
  have h1:upv s (fun x n l y=>gb G i x&&n == "update"&&l&&gb G j y&&decide (i≠j))=Δ:=by induction s using zS<;>exact h
  exact st_dupd g h1
 |.cio j f es i es2 th,X,ex,G,s,g,h=>by
  have h1:civ s (fun t xf args=>isName t&&fM G (.nm j) t&&G.cm&&(jo Z G f xf&&Z.fio.contains f)&&ft Z G (es++.v i::es2) args&&!(cw es++cw es2).contains i&&decide (i≠j)&&thN j i th)=Δ:=by induction s using zS<;>exact h
  exact st_cio g h1
 |.mov j i,X,ex,G,s,g,h=>by
  have h1:mvv s (fun t v=>fM G (.nm j) t&&chk Z G (.v i) v)=Δ:=by induction s using zS<;>exact h
  obtain⟨x,p,y,q,pos,rfl,h9⟩:=A1 h1;simp only[d_]at h9;exact A8 g h9.1 h9.2
 |.mvx j i k,X,ex,G,s,g,h=>by
  have h1:mxv s (fun t y b=>fM G (.nm j) t&&gb G i y&&chk Z G (.c (.int k)) b&&fe b)=Δ:=by induction s using zS<;>exact h
  obtain⟨x,p,y,q,b,sp,pos,rfl,h9⟩:=A3 h1;simp only[d_]at h9;exact st_mvx g h9.1.1.1 h9.1.1.2 h9.1.2 h9.2
 |.dsety i k e,X,ex,G,s,g,h=>by
  have h1:dyv s (fun x sx v=>gb G i x&&chk Z G k sx&&chk Z G e v)=Δ:=by induction s using zS<;>exact h
  obtain⟨x,p,sx,sp,v,pos,rfl,h9⟩:=A4 h1;simp only[d_]at h9;exact st_dsety g h9.1.1 h9.1.2 h9.2
 |.dsetp i k j e,X,ex,G,s,g,h=>by
  have h1:dpv s (fun x sx t v=>gb G i x&&fe sx&&chk Z G k sx&&chk Z G e v&&fM G (.nm j) t&&G.cm&&notTuple v)=Δ:=by induction s using zS<;>exact h
  obtain⟨x,p,sx,sp,y,yp,tn,tp,v,pos,rfl,h9⟩:=A5 h1;simp only[d_]at h9;obtain⟨⟨⟨⟨⟨⟨k1,k2⟩,k3⟩,k4⟩,k5⟩,k6⟩,k7⟩:=h9;exact st_dsetp g k1 k2 k3 k4 k5 k6 k7
 |.clrA a b i,X,ex,G,s,g,h=>by
  have h1:clv s (fun t n x c0 y c1 bn name l=>G.cm&&G.rs&&fM G (.tp [.nm a,.nm b]) t&&chk Z G (.c .non) n&&notStar n&&gb G i x&&gb G i y&&chk Z G (.c (.int 0)) c0&&fe c0&&chk Z G (.c (.int 1)) c1&&fe c1&&gb G b bn&&name == "clear"&&l&&decide (a≠b))=Δ:=by induction s using zS<;>exact h
  obtain⟨t,x,px,c0,sp0,n,y,py,c1,sp1,tn,tp,lp,bp,bn,bpp,name,apos,cpos,ep,pos,rfl,h9⟩:=A6 h1;simp only[d_]at h9;obtain⟨⟨⟨⟨⟨⟨⟨⟨⟨⟨⟨⟨⟨⟨k1,k2⟩,k3⟩,k4⟩,k5⟩,k6⟩,k7⟩,k8⟩,k9⟩,k10⟩,k11⟩,k12⟩,k13⟩,k14⟩,k15⟩:=h9;have e1:name = "clear":=g_ k13;subst e1;exact st_clrA g k1 k2 k3 k4 k5 k6 k7 k8 k9 k10 k11 k12 k14 (r_ k15)
 |.ret e,X,ex,G,s,g,h=>by
  induction s using zS with
  |Return v pos=>
   induction v using zO with
   |none=>exists h
   |some v=>exact st_ret g h
  |_=>exists h
 |.if_ t a b,X,ex,G,s,g,h=>by
  induction s using zS with
  |If c x y pos=>have h':(chk Z G t c&&ic Z G a x&&ic Z G b y)=Δ:=h;simp only[d_]at h';exact st_if (snd t X ex G c g h'.1.1).2 (uT a X ex G x g h'.1.2) (uT b X ex G y g h'.2)
  |_=>exists h
 |.for_ tg s body,X,ex,G,st,g,h=>by
  induction st using zS with
  |For t it b els pos=>
   induction els using zL with
   |cons _ _=>exists h
   |nil=>have h':(((G.cm&&G.rs)&&fM G tg t)&&(gU Z G s it&&jq s t)&&ic Z G body b)=Δ:=h;simp only[d_]at h';exact st_for g h'.1.1 h'.1.2 (uT body X ex G b g h'.2)
  |_=>exists h
 |.never,X,ex,G,s,g,h=>fS tw fun Dn σ H ⟨B,F,τ,f,m,q⟩=>q.no.elim
theorem uT:∀(as:List IS) (X:Cx) (ex:Str->Prop) (G:Gm) (ss:List Stmt),GOk Z CX cl xp X ex G->ic Z G as ss=Δ->PSs X ss (RS X.K G.io ex (gA cl as))
 |[],X,ex,G,ss,g,h=>by
  induction ss using zL with
  |nil=>exact jv qv fun Dn σ H ⟨B,F,τ,f,m,q⟩=>q.ok _ _ _ _ m
  |cons _ _=>exists h
 |a::as,X,ex,G,ss,g,h=>by
  induction ss using zL with
  |nil=>induction a using zT<;>exists h
  |cons s ss=>
   cases hal:yO a with
   |true=>
    cases a with
    |_=>cases hal
   |false=>
    have h':(sT Z G a s&&ic Z G as ss)=Δ:=by rw[<- qc hal];exact h
    simp only[d_]at h';refine jv (oz (snS a X ex G s g h'.1) (uT as X ex G ss g h'.2)) fun Dn σ H ⟨B,F,τ,f,m,q⟩=>?_;refine⟨B,F,τ,f,m,(PO'.bnd q).mono fun r hr=>?_⟩;cases r with
    |nx τ'=>exact fun σ' H' F' f' m'=>⟨B,F',τ',f',m',hr⟩
    |ct τ'=>exact hr.ok
    |bk τ'=>exact hr.ok
    |rt d=>exact hr.ok
    |ri d ks es=>exact hr.ok
end
end
section
variable {P:Β}{w:Α}
theorem nL {outer:List Env}{H:Hp}{s:Ω}{E:XK}{e:Φ}{s':Ω}(x:HOk P w H s.heap)(fr:∀b∈frs outer,H b=Ξ)(h:CX1 P w outer (fu s.heap H) s E e s'):CX1 P w outer H s E e s':=by obtain⟨a,cls,a0,H',B,h1,h2,h3,h4,h5,_,h6,h7,h8⟩:=h;exact⟨a,cls,a0,iy H H',B,h1,h2,h3,pZ x h4,nt x h5 (jD h4) (fun b o _=>h6 b o) fr,oT,fun b o e n f=>h6 b o e (gB n) f,h7,h8⟩
theorem nM {outer:List Env}{H:Hp}{s:Ω}{e:Φ}{s':Ω}:¬CX1 P w outer H s (fun _ _ _=>False) e s':=fun⟨_,_,_,_,_,_,_,_,_,_,_,_,_,z⟩=>z
variable {K:Frag}{mg:Str->Option Φ}{base:Heap}{N:List Str}{qual:Str}{scope:Scope}{f:Ψ}{cd:Φ}{A:Η}{outer:List Env}{s:Ω}{H:Hp}{E:XK}
theorem yV {H':Hp}{B:Heap}{s2:Ω}{a:Ψ}{cls a0:Φ}(lt:LTH H)(os:s2.os=s.os)(bare:AllBare s2.gens)(fl:Heap.FlyingW B outer a cls a0 s2.heap)(hB:HOk P w H' B)
  (kB:∀b o,s.heap.get? b=Γ o->H b=Ξ->b∉frs outer->B.get? b=Γ o) (hs:∀b o,s.heap.get? b=Γ o->H b=Ξ->b∈frs outer->∃sl,s2.heap.get? b=Γ {o with slots:=sl})
  (fr:∀b o,s.heap.get? b=Γ o->H b=Ξ->H' b=Ξ) (pz:∀b o u,H b=Γ (.frz o u)->H' b=Γ (.frz o u)) (pt:∀b xs,H b=Γ (.tup xs)->H' b=Γ (.tup xs)) (hE:E cls Ξ H0):CX1 P w outer H s E (.ref a) s2:=by
 refine⟨a,cls,a0,H',B,rfl,os,bare,⟨fun b o e n nf _=>fl.1 _ _ (kB b o e n nf),fun b o e n hf _=>hs b o e n hf,fun b o e n _=>fr b o e n,fun b o e _=>?_,pt,pz,fun b ps e=>?_⟩,hB,fun b o e=>(lt b o e).elim (fun⟨ob,u,z⟩=>by subst z;exact pz _ _ _ e) fun⟨xs,z⟩=>by subst z;exact pt _ _ e,kB,fl,hE⟩
 ·cases q:H b with
  |none=>
   by_cases hf:b∈frs outer
   ·obtain⟨sl,h⟩:=hs b o e q hf;exact⟨_,h⟩
   ·exact⟨_,fl.1 _ _ (kB b o e q hf)⟩
  |some u=>
   have:∃u',H' b=Γ u':=by
    rcases lt b u q with⟨ob,v,rfl⟩|⟨xs,rfl⟩
    ·exact⟨_,pz _ _ _ q⟩
    ·exact⟨_,pt _ _ q⟩
   obtain⟨u',hu⟩:=this;obtain⟨ob,ho⟩:=(hB b u' hu).at
   exact⟨_,fl.1 _ _ ho⟩
 ·rcases lt b _ e with⟨ob,v,z⟩|⟨xs,z⟩<;>cases z
theorem yW {b:Ψ}{o:Obj}(e:s.heap.get? b=Γ o)(n:b∉frs outer):b∉frs (envOfC qual scope s.heap.objs.size f cd::outer):=fun z=>by
 unfold frs at z n;rcases List.mem_filterMap.mp z with⟨env,hm,hf⟩
 rcases j_.mp hm with rfl|hm
 ·have h1:s.heap.objs.size=b:=EF hf;have h2:=l_ e;rw[h1]at h2;exact EX _ h2
 ·exact n (List.mem_filterMap.mpr ⟨env,hm,hf⟩)
theorem xH (lt:LTH H){ex:Str->Prop}(hE:∀c C,ex c->PySem.W.nsIn K Ζ c=Γ (Γ (.ref C))->E (.ref C) Ξ H0) :
  Passes (CX1 P w) (iE (CX1 P w) P w K mg base N qual scope f cd A outer s H E) (fun cls _ _=>∃c C,ex c/\PySem.W.nsIn K Ζ c=Γ (Γ (.ref C))/\cls=.ref C):=by
 intro pins σ H1 s1 e s' I ⟨a,cls,a0,H',B,he,os,bare,un,hB,_,kB,fl,c,C,hc,hn,hcls⟩;subst he hcls;have I':=I.call' os un (hB.kept fl.1) bare (fun b z=>absurd z (by simp));show Ι _ _ (leaving _ (.ref a)) _ _ s';refine wpAny_leaves_onW (show(A.deeper (envOfC qual scope s.heap.objs.size f cd)).frames=Γ (envOfC qual scope s.heap.objs.size f cd::outer) from I.ok.frames) rfl fl fun h' fl' up=>?_;refine yV lt I'.os I'.bare fl' hB (fun b o e n nf=>?_) (fun b o e n hf=>?_) (fun b o e n=>I'.base.free b o e n (by simp[iE])) I'.base.frzs I'.base.tups (hE c C hc hn)
 ·exact kB b o (I.base.keep b o e n nf (by simp[iE])) (I.base.free b o e n (by simp[iE])) (yW e nf)
 ·obtain⟨sl,h1⟩:=I'.base.slot b o e n hf (by simp[iE]);obtain⟨_,o',ho',nf⟩:=I.ok.funs.mem hf;have ho':s.heap.get? b=Γ o':=ho';rw[e]at ho';cases ho';obtain⟨sl',h2⟩:=up b _ h1 nf;exact⟨sl',h2⟩
theorem uU (lt:LTH H){pins:List (Ψ×Obj)}{σ:St}{H1:Hp}{s1:Ω}{C e:Ψ}{h':Heap}{vs:List Φ}(hE:E (.ref C) Ξ H0)
  (I:Inv (iE (CX1 P w) P w K mg base N qual scope f cd A outer s H E) pins σ H1 s1) (hx:Heap.MadeExcOf s1.heap h' e (.ref C) vs) :
  (iE (CX1 P w) P w K mg base N qual scope f cd A outer s H E).xe (.ref e) {s1 with heap:=h'}:=by
 have hin:∀env∈(iE (CX1 P w) P w K mg base N qual scope f cd A outer s H E).stack,∀b,env.frame=Γ b->b∈frs (iE (CX1 P w) P w K mg base N qual scope f cd A outer s H E).stack:=fun env he b hb=>List.mem_filterMap.mpr ⟨env,he,hb⟩;show Ι _ _ (leaving _ (.ref e)) _ _ _;refine wpAny_leaves_madeW (base:=PySem.W.hideAll s1.heap (frs (iE (CX1 P w) P w K mg base N qual scope f cd A outer s H E).stack)) (h:=s1.heap) (show(A.deeper (envOfC qual scope s.heap.objs.size f cd)).frames=Γ (envOfC qual scope s.heap.objs.size f cd::outer) from I.ok.frames) rfl (fun b o q=>PySem.W.of_hideAll _ q) (PySem.W.funFrames_hide I.stack hin) hx fun h2 t fl _ _ up=>?_;have trk:∀b u o,H1 b=Γ u->s1.heap.get? b=Γ o->(PySem.W.hideAll s1.heap (frs (iE (CX1 P w) P w K mg base N qual scope f cd A outer s H E).stack)).get? b=Γ o:=fun b u o hu ho=>PySem.W.hideAll_get _ ho fun z=>by rw[I.stkFree b z]at hu;cases hu
 refine yV (H':=H1) lt I.os I.bare fl (fun b o hb=>?_) (fun b o he n nf=>?_) (fun b o he n hf=>?_) (fun b o e n=>I.base.free b o e n (by simp[iE])) I.base.frzs I.base.tups hE
 ·refine(I.hok b o hb).stay (fun c u hc hu=>?_) (fun _ z=>z) fun _ _ z=>z;rcases hc with rfl|hc
  ·exact trk _ _ _ hb hu
  ·exact trk _ _ _ hc hu
 ·exact PySem.W.hideAll_get _ (I.base.keep b o he n nf (by simp[iE])) (yW he nf)
 ·obtain⟨sl,h1⟩:=I.base.slot b o he n hf (by simp[iE]);obtain⟨_,o',ho',nf⟩:=I.ok.funs.mem hf;have ho':s.heap.get? b=Γ o':=ho';rw[he]at ho';cases ho';obtain⟨sl',h3⟩:=up b _ (hx.keeps b _ h1) nf;exact⟨sl',h3⟩
end
def RSB (K:Frag){io:Option Nat}(B:Bs io)(ex:Str->Prop)(g:Ev->Res Fl):TS:=fun Dn σ H=>∃F τ f,Frm K B F H σ τ f/\PO' ex (g τ) (Fk K B Dn)
noncomputable def uV (Z:Sg)(G:Gm):List IS->List Stmt->Bool
 |[],[]=>Δ
 |a::as,s::ss=>sT Z G a s&&uV Z G as ss
 |_,_=>Θ
section
variable {Z:Sg}{cl:Nat->List D->Res D}{X:Cx}{ex:Str->Prop}{G:Gm}
theorem snB (g:GOk Z (CX1 X.prog X.w) cl (xp1 X.K) X ex G)(hst:X.stack=X.env::X.outer)(hfr:X.env.frame=Γ X.env.locals)(lt:LTH X.H₀)(hpl:∀a:Ψ,∀f∈Z.fns,f∈Z.pl->∀x,Z.name f=Γ x->FnC X.prog X.w X.K X.mg X.base (CX1 X.prog X.w) (X.A.mark (Γ (.ref a))) cl (xp1 X.K) f x)
  {B0:Bs G.io} (hBN:B0.N=Ξ) (hB0:B0.H=X.H₀) (hBF:FOk B0.F B0.H) (hBL:∀a xs,¬B0.L a xs) (hBT:∀a xs,¬B0.T a xs):∀(as:List IS) (ss:List Stmt),uV Z G as ss=Δ->PSs X ss (RSB X.K B0 ex (gA cl as))
 |[],ss,h=>by
  induction ss using zL with
  |nil=>exact jv qv fun Dn σ H ⟨F,τ,f,m,q⟩=>q.ok _ _ _ _ m
  |cons _ _=>cases h
 |a::as,ss,h=>by
  induction ss using zL with
  |nil=>cases h
  |cons s ss=>
   have h':(sT Z G a s&&uV Z G as ss)=Δ:=h;rw[d_]at h';have p1:PS X s (RSB X.K B0 ex (evS cl a)):=by exact fS (snS a X ex G s g h'.1) fun Dn σ H ⟨F,τ,f,m,q⟩=>⟨B0,F,τ,f,m,q⟩
   refine jv (oz p1 (snB g hst hfr lt hpl hBN hB0 hBF hBL hBT as ss h'.2)) fun Dn σ H ⟨F,τ,f,m,q⟩=>?_;refine⟨F,τ,f,m,(PO'.bnd q).mono fun r hr=>?_⟩;cases r with
   |nx τ'=>exact fun σ' H' F' f' m'=>⟨F',τ',f',m',hr⟩
   |ct τ'=>exact hr.ok
   |bk τ'=>exact hr.ok
   |rt d=>exact hr.ok
   |ri d ks es=>exact hr.ok
end
noncomputable def rh (Z:Sg)(fn:Fn)(ps:List Str)(st:Stmt):Bool:=
 (fg st).kind == .function&&!(fg st).isCoroutine&&!(fg st).isGenerator&&decide (fn.G.N.Nodup)&&fn.G.N.take ps.length == ps
&&ps.all (fun x=>(fg st).names.lookup x == Γ .local||(fg st).names.lookup x == Γ .cell)&&(fg st).names.all (fun y=>y.2 != .free)
&&(List.range fn.G.N.length).all (fun i=>(fn.G.N[i]?).bind ((fg st).names.lookup ·) == fn.G.kd[i]?)
&&fn.G.N.all (fun x=>!(x == "__debug__")&&!(x == "__classdict__"))
&&fn.G.gl.all (fun n=>match Z.name n with|some x=>(fg st).names.lookup x == Γ .globalImplicit|none=>Θ)
&&decide (ps.length=fn.np)
noncomputable def fJ (Z:Sg)(fn:Fn)(ps:List Str)(st:Stmt):Bool:=rh Z fn ps st&&(!fn.io&&uV Z fn.G fn.body (fY st))
noncomputable def jH (Z:Sg)(fn:Fn)(ps:List Str)(st:Stmt):Bool:=rh Z fn ps st&&(fn.io&&ic Z fn.G fn.body (fY st)&&fn.G.io.isSome&&decide (0 < fn.np)&&!fn.G.tr)
structure DefHd (Z:Sg)(fn:Fn)(ps:List Str)(st:Stmt):Prop where
 sc:FnScope fn.G.N ps (fg st)
 kd:∀(i:Nat) (x:Str),fn.G.N[i]? = Γ x->(fg st).names.lookup x=fn.G.kd[i]?
 noD:∀x∈fn.G.N,(x == ("__debug__" : Str))=Θ/\(x == ("__classdict__" : Str))=Θ
 gl:∀n∈fn.G.gl,∀x,Z.name n=Γ x->(fg st).names.lookup x=Γ .globalImplicit
 np:ps.length=fn.np
structure DefSc (Z:Sg)(fn:Fn)(ps:List Str)(st:Stmt):Prop extends DefHd Z fn ps st where
 pl:fn.io=Θ
 body:uV Z fn.G fn.body (fY st)=Δ
structure DefSI (Z:Sg)(fn:Fn)(ps:List Str)(st:Stmt):Prop extends DefHd Z fn ps st where
 io:fn.io=Δ
 body:ic Z fn.G fn.body (fY st)=Δ
 gio:fn.G.io.isSome=Δ
 pos:0 < fn.np
 ntr:fn.G.tr=Θ
theorem o4 {Z:Sg}{fn:Fn}{ps:List Str}{st:Stmt}(h:rh Z fn ps st=Δ):DefHd Z fn ps st:=by
 unfold rh at h;simp only[d_]at h;obtain⟨⟨⟨⟨⟨⟨⟨⟨⟨⟨h1,h2⟩,h3⟩,h4⟩,h5⟩,h6⟩,h7⟩,h8⟩,h9⟩,h10⟩,h11⟩:=h;rw[ED]at h6 h7 h8 h9 h10;refine⟨⟨g_ h1,by simpa using h2,by simpa using h3,r_ h4,g_ h5,fun x hx=>?_,fun y hy=>by simpa using h7 y hy⟩,fun i x hx=>?_,fun x hx=>by simpa using h9 x hx,fun n hn x hx=>?_,r_ h11⟩
 ·have:=h6 x hx;rw[EJ]at this;exact this.elim (fun z=>.inl (g_ z)) fun z=>.inr (g_ z)
 ·have hlt:i < fn.G.N.length:=(B_.mp hx).1;have:=g_ (h8 i (List.mem_range.mpr hlt));rw[hx]at this;exact this
 ·have:=h10 n hn;rw[hx]at this;exact g_ this
theorem o6 {Z:Sg}{fn:Fn}{ps:List Str}{st:Stmt}(h:fJ Z fn ps st=Δ):DefSc Z fn ps st:=by unfold fJ at h;rw[d_,d_]at h;exact⟨o4 h.1,by simpa using h.2.1,h.2.2⟩
theorem uW {Z:Sg}{fn:Fn}{ps:List Str}{st:Stmt}(h:jH Z fn ps st=Δ):DefSI Z fn ps st:=by unfold jH at h;simp only[d_]at h;obtain⟨h1,⟨⟨⟨h2,h3⟩,h4⟩,h5⟩,h6⟩:=h;exact⟨o4 h1,h2,h3,h4,r_ h5,by simpa using h6⟩
structure DefOI (K:Frag)(mg:Str->Option Φ)(Z:Sg)(T:Tb)(f:Nat)(x:Str):Prop where
 ex:∃(fn:Fn) (st:Stmt) (fa:Ψ) (fd:Ν) (ps:List Str),T f=Γ fn/\Fun K x x st fa fd/\mg x=Γ (.ref fa)/\Binds K fd ps []/\DefSI Z fn ps st
structure DefOk (K:Frag)(mg:Str->Option Φ)(Z:Sg)(T:Tb)(f:Nat)(x:Str):Prop where
 ex:∃(fn:Fn) (st:Stmt) (fa:Ψ) (fd:Ν) (ps:List Str),T f=Γ fn/\Fun K x x st fa fd/\mg x=Γ (.ref fa)/\Binds K fd ps []/\DefSc Z fn ps st
section
variable {P:Β}{w:Α}{K:Frag}{mg:Str->Option Φ}{base:Heap}{Z:Sg}{T:Tb}
def CVk (mg:Str->Option Φ)(x:Str)(v:V):Prop:=(∃C,v=.ref C/\mg x=Γ (.ref C))∨(∃T,v=.ty T/\mg x=Ξ/\bootBuiltins x=Γ (.type T))
structure TopOk (K:Frag)(mg:Str->Option Φ)(Z:Sg)(T:Tb):Prop where
 nam:∀n x,Z.name n=Γ x->x≠"__name__"/\(x == ("__debug__" : Str))=Θ
 blt:∀(n:Nat) (x:Str),gq[n]? = Γ x->mg x=Ξ
 cst:∀n d x,(n,d)∈Z.kst->Z.name n=Γ x->∃u v,mg x=Γ u/\RelV v u/\∀S H,HRep K S H v d
 fns:∀f∈Z.fns,∀x,Z.name f=Γ x->DefOk K mg Z T f x
 fio:∀f∈Z.fio,∀x,Z.name f=Γ x->DefOI K mg Z T f x
 plc:∀f∈Z.pl,∀fn,T f=Γ fn->fn.G.cm=Θ
 xcv:∀n∈Z.cls,∀x,Z.name n=Γ x->∃v,CVk mg x v
 xcl:∀c n b x,(c,n,b)∈Z.xt->Z.name n=Γ x->∃C,PySem.W.nsIn K Ζ c=Γ (Γ (.ref C))/\ExcAt K C/\∀v,CVk mg x v->PySem.W.kitOne K (.ref C) (vv v)=Γ b
 xmt:∀c n x,(c,n)∈Z.xm->Z.name n=Γ x->∃C C',PySem.W.nsIn K Ζ c=Γ (Γ (.ref C))/\PySem.W.nsIn K Ζ x=Γ (Γ (.ref C'))/\nameIn K C=Γ c/\mg x=Γ (.ref C')/\PySem.W.exmOne K (.ref C) (.ref C')=Γ Δ
 xrs:∀n c,(n,c)∈Z.rc->Z.name n=Γ c/\∃C,mg c=Γ (.ref C)/\PySem.W.nsIn K Ζ c=Γ (Γ (.ref C))/\PySem.W.excIn K C bmV "ValueError.__new__" = Δ
theorem jY {F:Ψ->Prop}{H:Hp}:∀ {vs:List V}{ds:List D} (n:Nat),HReps K F H vs ds->Rps K F H (vs.map Γ++Ρ n Ξ) ((ers ds).map Γ++Ρ n Ξ) []
 |[],[],n,.nil=>by
  induction n with
  |zero=>exact .nil
  |succ n ih=>exact .none ih
 |v::vs,d::ds,n,.cons h1 h2=>.some (f:=[]) h1.frozen (jY n h2)
structure Rm (n:Nat)(A:Η):Prop where
 dp:A.depth+3*n+5 < recursionLimit
 un:A.units+16*n+200 < cLine
theorem Rm.room {n:Nat}{A:Η}(r:Rm n A)(hn:n < 900)(h:A.handled=Ξ):Room n A:=⟨fun _=>h,by have:=r.dp;rw[Nat.mod_eq_of_lt (by omega)];exact this,by have:=r.un;rw[Nat.mod_eq_of_lt (by omega)];exact this⟩
theorem Rm.roomp {n:Nat}{A:Η}(r:Rm n A)(hn:n < 900):Room (1000+n) A:=⟨fun z=>by omega,by have:=r.dp;rw[show(1000+n) % 1000=n by omega];exact this,by have:=r.un;rw[show(1000+n) % 1000=n by omega];exact this⟩
theorem Rm.of {n k:Nat}{A:Η}(r:Room k A)(h:k % 1000=n):Rm n A:=⟨by have:=r.dp;rw[h]at this;exact this,by have:=r.un;rw[h]at this;exact this⟩
theorem nN (t:TopOk K mg Z T){n k:Nat}{f:Nat}{fn:Fn}{x:Str}{st:Stmt}{fa:Ψ}{fd:Ν}{ps:List Str}(hk:k % 1000=n)(hn:n < 900)(h1:T f=Γ fn)(h2:Fun K x x st fa fd)(h5:DefSc Z fn ps st)(hp:k < 1000∨fn.G.cm=Θ)
  (ih:∀(A:Η),Rm n A->∀f∈Z.fns,(A.handled=Ξ∨f∈Z.pl)->∀x,Z.name f=Γ x->FnC P w K mg base (CX1 P w) A (aj T n) (xp1 K) f x)
  (ih2:∀(A:Η),Rm n A->∀f∈Z.fio,A.handled=Ξ->∀x,Z.name f=Γ x->FnI P w K mg base (CX1 P w) A (aj T n) f x) :
  FnOk P w K mg base (CX1 P w) (k+1) fa fd ps (spF K (aj T (n+1)) (xp1 K) f ps):=by
 have hcall:∀ds,aj T (n+1) f ds=iJ (aj T n) fn ds:=fun ds=>by show(match T f with|some fn=>(match fn.io with|false=>iJ (aj T n) fn ds|true=>iK (aj T n) fn ds)|none=>stk)=_;rw[h1];show(match fn.io with|false=>iJ (aj T n) fn ds|true=>iK (aj T n) fn ds)=_;rw[h5.pl]
 obtain⟨oc,od,kV,doc,pm,an,cdv,ct,osl,rfl,lk,hcd⟩:=h2.ex;refine yE lk hcd h5.sc (by omega) (fun vs H Q E h=>h.1) fun A outer s H vs Q E hr hsp=>?_;obtain⟨hl,lt,F,ds,fok,m,q⟩:=hsp;have hcm:fn.G.cm=Δ->A.handled=Ξ:=fun z=>hp.elim (fun h=>hr.hd h) fun h=>by rw[h]at z;cases z
 refine⟨_,snB (Z:=Z) (cl:=aj T n) (ex:=xp1 K E H) (G:=fn.G) (B0:=⟨F,H,fun _ _=>False,fun _ _=>False,Ξ⟩) ?_ rfl rfl lt (fun a f' hf' hpl' x' hx'=>ih ((A.deeper (envOfC x (fg st) s.heap.objs.size fa cdv)).mark (Γ (.ref a))) ⟨(Rm.of hr hk).dp,(Rm.of hr hk).un⟩ f' hf' (.inr hpl') x' hx') rfl rfl fok (fun _ _ z=>z) (fun _ _ z=>z) fn.body (fY st) h5.body,?_⟩
 ·refine⟨rfl,h5.sc.nd,fun z=>by show A.handled.isNone=Δ;rw[hcm z];rfl,h5.sc.kind,?_,fun _=>PassesOwn.leaving,fun i y hy=>h5.kd i y hy,fun i y hy=>h5.noD y (EM hy),fun m hm y hy=>h5.gl m hm y hy,t.nam,fun _ _=>rfl,t.blt,t.cst,?_,fun f' hf' z x' hx'=>ih2 _ (Rm.of hr hk) f' hf' (hcm z) x' hx',t.xcv,t.xcl,t.xmt,t.xrs,?_,?_,?_,?_,?_⟩
  ·have:=hr.un;show(A.deeper _).units+42 < cLine;omega
  ·exact fun f' hf' hc x' hx'=>ih _ (Rm.of hr hk) f' hf' (hc.elim (fun z=>.inl (hcm z)) .inr) x' hx'
  ·exact fun _ pins σ H1 s1 c C h' e vs I hex hn hx=>uU lt (hex C hn) I hx
  ·exact fun _=>⟨rfl,rfl,lt,fun a f' hf' hpl' x' hx'=>ih ((A.deeper (envOfC x (fg st) s.heap.objs.size fa cdv)).mark (Γ (.ref a))) ⟨(Rm.of hr hk).dp,(Rm.of hr hk).un⟩ f' hf' (.inr hpl') x' hx',fun _ _ _ _ _ _ z=>z,fun c C H' hC C'' hC'=>by rw[hC]at hC';cases hC';rfl⟩
  ·exact⟨_,xH (ex:=xp1 K E H) lt fun c C hc hn=>hc C hn,fun c H' hc C hn=>⟨c,C,hc,hn,rfl⟩⟩
  ·exact fun outer H s E e s' x fr h=>nL x fr h
  ·exact fun H outer s e s'=>nM
 ·rw[hcall]at q;obtain⟨gd,q⟩:=PO'.grd q;have gd':(ers ds).length=fn.np:=r_ gd;have hn':fn.G.N.length - vs.length=fn.G.N.length - fn.np:=by rw[m.length,<- gk ds,gd']
  refine⟨F,(ers ds).map Γ++Ρ (fn.G.N.length - fn.np) Ξ,[],⟨fok,?_,List.nodup_nil,.refl _,fun a ha=>absurd ha (by simp),fun a h=>h,fun a h=>.inl h,fun a xs h=>h.elim,fun a xs h=>h.elim,fun _ _ _ z=>by cases z⟩,(PO'.bnd q).mono fun r hr=>?_⟩
  ·show Rps K F H (start fn.G.N vs) _ [];unfold start;rw[hn'];exact jY _ m
  ·cases r with
   |nx τ'=>exact fun σ' H' F' f' m'=>hr.ok .non H' F' [] ⟨m'.fok,m'.same,.non,List.nodup_nil,fun a ha=>absurd ha (by simp),m'.inn,m'.out⟩
   |rt d=>exact fun v H' F' fv o=>hr.ok v H' F' fv o
   |bk τ'=>exact hr.no.elim
   |ct τ'=>exact hr.no.elim
   |ri d ks es=>exact hr.no.elim
theorem o7 {F:Ψ->Prop}{H:Hp}{a:Ψ}{d:D}(hd:MRep K F H (.ref a) d [a]){us:List V}{ds2:List D}(h2:HReps K F H us ds2):∀ {vs:List V}{ds:List D} (n:Nat),HReps K F H vs ds->Rps K F H ((vs++V.ref a::us).map Γ++Ρ n Ξ) ((ers ds++d::ers ds2).map Γ++Ρ n Ξ) [a]
 |[],[],n,.nil=>.some (f:=[a]) (g:=[]) hd (jY n h2)
 |v::vs,d::ds,n,.cons h1 h3=>.some (f:=[]) h1.frozen (o7 hd h2 n h3)
theorem yX:∀ {d:D}{ks:List Key}{es:List D},er d≠.dct Δ ks es
 |.non,_,_=>nofun
 |.bl _,_,_=>nofun
 |.int _,_,_=>nofun
 |.str _,_,_=>nofun
 |.exc _,_,_=>nofun
 |.tup ds,_,_=>nofun
 |.lst o ds,_,_=>nofun
 |.dct o ks ds,_,_=>by rw[er];nofun
theorem mE:∀(p:Nat) (ds:List D),gV p (ers ds)=Θ
 |0,[]=>rfl
 |p+1,[]=>rfl
 |0,d::ds=>by
  show gV 0 (er d::ers ds)=Θ;cases e:er d with
  |dct o ks es=>
   cases o with
   |false=>rfl
   |true=>exact absurd e yX
  |_=>rfl
 |p+1,d::ds=>mE p ds
theorem mG:∀ {p:Nat}{ds ds2:List D}{ks:List Key}{es:List D},gV p (ers ds++.dct Δ ks es::ers ds2)=Δ->p=ds.length
 |0,[],_,_,_,_=>rfl
 |p+1,[],ds2,_,_,h=>by rw[show gV (p+1) (ers []++_::ers ds2)=gV p (ers ds2) from rfl,mE]at h;cases h
 |0,d::ds,ds2,ks,es,h=>by
  have h:gV 0 (er d::(ers ds++.dct Δ ks es::ers ds2))=Δ:=h;cases e:er d with
  |dct o ks es=>
   cases o with
   |false=>rw[e]at h;cases h
   |true=>exact absurd e yX
  |_=>rw[e]at h;cases h
 |p+1,d::ds,ds2,ks,es,h=>congrArg (· + 1) (mG (p:=p) (ds:=ds) h)
theorem snI {CX:CXT}{cl:Nat->List D->Res D}{xp:XK->Hp->Str->Prop}{X:Cx}{ex:Str->Prop}{G:Gm}(g:GOk Z CX cl xp X ex G)(B:Bs G.io){as:List IS}{ss:List Stmt}(h:ic Z G as ss=Δ):PSs X ss (RSB X.K B ex (gA cl as)):=
 jv (uT as X ex G ss g h) fun Dn σ H ⟨F,τ,f,m,q⟩=>⟨B,F,τ,f,m,q⟩
theorem uX (t:TopOk K mg Z T){n k:Nat}{f:Nat}{fn:Fn}{x:Str}{st:Stmt}{fa:Ψ}{fd:Ν}{ps:List Str}(hk:k % 1000=n)(hn:n < 900)(h1:T f=Γ fn)(h2:Fun K x x st fa fd)(h5:DefSI Z fn ps st)(hp:k < 1000)
  (ih:∀(A:Η),Rm n A->∀f∈Z.fns,(A.handled=Ξ∨f∈Z.pl)->∀x,Z.name f=Γ x->FnC P w K mg base (CX1 P w) A (aj T n) (xp1 K) f x)
  (ih2:∀(A:Η),Rm n A->∀f∈Z.fio,A.handled=Ξ->∀x,Z.name f=Γ x->FnI P w K mg base (CX1 P w) A (aj T n) f x) :
  FnOk P w K mg base (CX1 P w) (k+1) fa fd ps (spI K (aj T (n+1)) f ps):=by
 have hGi:=h5.gio;have hpos:=h5.pos;have htr:=h5.ntr;have hcall:∀ds,aj T (n+1) f ds=iK (aj T n) fn ds:=fun ds=>by show(match T f with|some fn=>(match fn.io with|false=>iJ (aj T n) fn ds|true=>iK (aj T n) fn ds)|none=>stk)=_;rw[h1];show(match fn.io with|false=>iJ (aj T n) fn ds|true=>iK (aj T n) fn ds)=_;rw[h5.io]
 obtain⟨oc,od,kV,doc,pm,an,cdv,ct,osl,rfl,lk,hcd⟩:=h2.ex;refine yE lk hcd h5.sc (by omega) (fun vs H Q E h=>h.1) fun A outer s H vs Q E hr hsp=>?_;obtain⟨hl,a,F,ws,us,ds,ds2,kvs,es,rfl,AI,d,ks',es',hc,hlf,q⟩:=hsp;have hcm:A.handled=Ξ:=hr.hd hp;refine⟨_,snI (Z:=Z) (CX:=CX1 P w) (cl:=aj T n) (xp:=xp1 K) (ex:=nox) (G:=fn.G) ?_ ⟨F,rm a H,fun _ _=>False,fun _ _=>False,Γ a⟩ h5.body,?_⟩
 ·refine⟨rfl,h5.sc.nd,fun z=>by show A.handled.isNone=Δ;rw[hcm];rfl,h5.sc.kind,?_,fun _=>PassesOwn.leaving,fun i y hy=>h5.kd i y hy,fun i y hy=>h5.noD y (EM hy),fun m hm y hy=>h5.gl m hm y hy,t.nam,fun _ _=>rfl,t.blt,t.cst,fun f' hf' hc x' hx'=>ih _ (Rm.of hr hk) f' hf' (.inl hcm) x' hx',fun f' hf' z x' hx'=>ih2 _ (Rm.of hr hk) f' hf' hcm x' hx',t.xcv,t.xcl,t.xmt,t.xrs,fun _ pins σ H1 s1 c C h' e vs I hex hn hx=>hex.elim,(fun z=>by rw[htr]at z;cases z),⟨fun _ _ _=>False,fun pins σ H s e s' _ h=>(nM h).elim,fun c H z=>z.elim⟩,fun outer H s E e s' x fr h=>nL x fr h,fun H outer s e s'=>nM⟩;have:=hr.un;show(A.deeper _).units+42 < cLine;omega
 ·rw[hcall]at hc;unfold iK at hc;obtain⟨gd,hc⟩:=pV hc;rw[d_]at gd;have gd':(ers ds++D.dct Δ (kvs.map (·.1)) es::ers ds2).length=fn.np:=r_ gd.1;obtain⟨p,hp1⟩:=Option.isSome_iff_exists.mp hGi;have hpw:p=ws.length:=by have:=mG (p:=fn.G.io.getD 0) gd.2;rw[hp1]at this;rw[AI.ws.length];exact this
  obtain⟨r,hr1,hc⟩:=gY hc;have hn':fn.G.N.length - (ws++V.ref a::us).length=fn.G.N.length - fn.np:=by rw[<- gd',t_,t_,List.length_cons,List.length_cons,gk,gk,AI.ws.length,AI.us.length]
  have m0:MRep K F H (.ref a) (.dct Δ (kvs.map (·.1)) es) [a]:=.dctO AI.nF AI.at_ rfl (AI.vs.frozen' AI.lf);refine⟨F,(ers ds++D.dct Δ (kvs.map (·.1)) es::ers ds2).map Γ++Ρ (fn.G.N.length - fn.np) Ξ,[a],⟨AI.fok,?_,by simp,CQ,fun b hb=>by rw[C_.mp hb];exact ie,fun b h=>h,fun b h=>.inl h,fun b xs h=>h.elim,fun b xs h=>h.elim,fun j b e1 e2=>?_⟩,?_⟩
  ·show Rps K F H (start fn.G.N (ws++.ref a::us)) _ [a];unfold start;rw[hn'];exact o7 m0 AI.us _ AI.ws
  ·rw[hp1]at e1;cases e1;cases e2;show(start fn.G.N (ws++.ref a::us))[p]? = _;unfold start;rw[hpw,A_,o_,List.getElem?_append_right (by simp)];simp
  ·rw[hr1];cases r with
   |ri d1 ks1 es1=>cases hc;intro v H'' F'' fv kvs1 l hN ot hF hfv hH hks hvs;have e:=hN a rfl;subst e;exact q v H'' F'' fv kvs1 ⟨ot,hF,hfv,hH,hks,hvs⟩
   |nx _=>cases hc
   |bk _=>cases hc
   |ct _=>cases hc
   |rt _=>cases hc
theorem lh (t:TopOk K mg Z T):∀(n:Nat),n < 900->(∀(A:Η),Rm n A->∀f∈Z.fns,(A.handled=Ξ∨f∈Z.pl)->∀x,Z.name f=Γ x->FnC P w K mg base (CX1 P w) A (aj T n) (xp1 K) f x)/\
  ∀(A:Η),Rm n A->∀f∈Z.fio,A.handled=Ξ->∀x,Z.name f=Γ x->FnI P w K mg base (CX1 P w) A (aj T n) f x
 |0,h9=>by
  refine⟨fun A hr f hf hc x hx=>?_,fun A hr f hf hc x hx=>?_⟩
  ·obtain⟨fn,st,fa,fd,ps,h1,h2,h3,h4,h5⟩:=(t.fns f hf x hx).ex;have no:∀vs H Q E,¬spF K (aj T 0) (xp1 K) f ps vs H Q E:=fun vs H Q E ⟨_,_,F,ds,_,_,h⟩=>h;exact⟨1000+0,fa,fd,ps,h3,h2.kp,h4,⟨fun vs H Q E h=>h.1,fun A outer s H args us vs Q E _ _ _ _ h=>(no _ _ _ _ h).elim⟩,hr.roomp h9,fun ex ds k h=>h.elim⟩
  ·obtain⟨fn,st,fa,fd,ps,h1,h2,h3,h4,h5⟩:=(t.fio f hf x hx).ex;have no:∀vs H Q E,¬spI K (aj T 0) f ps vs H Q E:=fun vs H Q E ⟨_,a,F,ws,us,ds,ds2,kvs,es,_,_,d,ks',es',h,_⟩=>by cases h
   exact⟨0,fa,fd,ps,h3,h2.kp,h4,⟨fun vs H Q E h=>h.1,fun A outer s H args us vs Q E _ _ _ _ h=>(no _ _ _ _ h).elim⟩,hr.room h9 hc,fun ds r h=>by cases h⟩
 |n+1,h9=>by
  obtain⟨ih,ih2⟩:=lh t n (by omega);refine⟨fun A hr f hf hc x hx=>?_,fun A hr f hf hc x hx=>?_⟩
  ·obtain⟨fn,st,fa,fd,ps,h1,h2,h3,h4,h5⟩:=(t.fns f hf x hx).ex;have hlen:∀(ex:Str->Prop) ds (k:D->Prop),PO' ex (aj T (n+1) f ds) k->ds.length=ps.length:=fun ex ds k h=>by
    have hcall:aj T (n+1) f ds=iJ (aj T n) fn ds:=by show(match T f with|some fn=>(match fn.io with|false=>iJ (aj T n) fn ds|true=>iK (aj T n) fn ds)|none=>stk)=_;rw[h1];show(match fn.io with|false=>iJ (aj T n) fn ds|true=>iK (aj T n) fn ds)=_;rw[h5.pl]
    rw[hcall]at h;obtain⟨gd,_⟩:=PO'.grd h;rw[r_ gd,h5.np]
   by_cases hpl:f∈Z.pl
   ·exact⟨1000+n+1,fa,fd,ps,h3,h2.kp,h4,nN t (k:=1000+n) (n:=n) (by omega) (by omega) h1 h2 h5 (.inr (t.plc f hpl fn h1)) ih ih2,hr.roomp h9,hlen⟩
   ·exact⟨n+1,fa,fd,ps,h3,h2.kp,h4,nN t (k:=n) (n:=n) (by omega) (by omega) h1 h2 h5 (.inl (by omega)) ih ih2,hr.room h9 (hc.elim id fun z=>absurd z hpl),hlen⟩
  ·obtain⟨fn,st,fa,fd,ps,h1,h2,h3,h4,h5⟩:=(t.fio f hf x hx).ex;refine⟨n+1,fa,fd,ps,h3,h2.kp,h4,uX t (k:=n) (n:=n) (by omega) (by omega) h1 h2 h5 (by omega) ih ih2,hr.room h9 hc,fun ds r h=>?_⟩;have hcall:aj T (n+1) f ds=iK (aj T n) fn ds:=by show(match T f with|some fn=>(match fn.io with|false=>iJ (aj T n) fn ds|true=>iK (aj T n) fn ds)|none=>stk)=_;rw[h1];show(match fn.io with|false=>iJ (aj T n) fn ds|true=>iK (aj T n) fn ds)=_;rw[h5.io]
   rw[hcall]at h;obtain⟨gd,_⟩:=pV h;rw[r_ (EA.mp gd).1,h5.np]
theorem xI (t:TopOk K mg Z T)(n:Nat)(hn:n < 900):∀(A:Η),Rm n A->∀f∈Z.fns,(A.handled=Ξ∨f∈Z.pl)->∀x,Z.name f=Γ x->FnC P w K mg base (CX1 P w) A (aj T n) (xp1 K) f x:=(lh t n hn).1
end
section
variable {P:Β}{w:Α}{K:Frag}{mg:Str->Option Φ}{base:Heap}{Z:Sg}{T:Tb}
def spL (K:Frag)(cl:Nat->List D->Res D)(f:Nat)(ps:List Str):Sp:=fun vs H Q E=>vs.length=ps.length/\∃F ds,FOk F H/\HReps K F H vs ds/\
 PO' nox (cl f (ers ds)) fun d=>∀v H' F' fv,Out K F H F' H' v d fv->Q v H'
theorem uY {cl:Nat->List D->Res D}{k f:Nat}{fa:Ψ}{fd:Ν}{ps:List Str}(F:FnOk P w K mg base (CX1 P w) k fa fd ps (spF K cl (xp1 K) f ps)):FnOk P w K mg base (CX1 P w) k fa fd ps (spL K cl f ps):=by
 refine⟨fun vs H Q E h=>h.1,fun A outer s H args us vs Q E hr e0 bd r hsp=>?_⟩;obtain⟨hl,Fc,ds,fok,m,q⟩:=hsp;have e1:Env0 P w K mg base A outer s (fu s.heap H):=⟨e0.frames,e0.mod,fun b o e=>⟨(e0.bs b o e).1,gB (e0.bs b o e).2⟩,e0.bsz,e0.funs,fun b hb=>gB (e0.frf b hb),pY e0.hok,e0.bare⟩
 have hq:PO' (xp1 K E (fu s.heap H)) (cl f (ers ds)) fun d=>∀v H' F' fv,Out K Fc H F' H' v d fv->Q v H':=by
  cases z:cl f (ers ds) with
  |ok d=>rw[z]at q;exact q
  |error er=>
   rw[z]at q;cases er with
   |stuck=>exact q.no.elim
   |exc c=>exact False.elim q
 have hs:spF K cl (xp1 K) f ps vs (fu s.heap H) (fun v H'=>Pers s.heap (fu s.heap H) H'->Q v (iy H H')) E:=
  ⟨hl,um _ _,_,ds,fun a h=>h.2,nC e0.hok m,hq.mono fun d hd v H' F' fv o p=>hd v _ _ fv (kl e0.hok fok p o)⟩
 refine codeAny_mono (F.run A outer s (fu s.heap H) args us vs _ E hr e1 bd r hs) fun r' s' hq=>?_;cases r' with
 |error e=>exact nL e0.hok e0.frf hq
 |ok fl=>
  cases fl with
  |ret u=>obtain⟨v,H',a1,a2,a3,a4,a5,a6⟩:=hq;exact⟨v,iy H H',a1,a2,pZ e0.hok a3,nt e0.hok a4 (jD a3) (fs:=frs outer) (fun b o _ e n f=>a3.keep b o e n f (by simp)) e0.frf,a5,a6 (jD a3)⟩
  |next=>exact hq
  |brk=>exact hq
  |cont=>exact hq
theorem Ba (t:TopOk K mg Z T)(n:Nat)(hn:n < 900){f:Nat}{fn:Fn}{x:Str}{st:Stmt}{fa:Ψ}{fd:Ν}{ps:List Str}(h1:T f=Γ fn)(h2:Fun K x x st fa fd)(h5:DefSc Z fn ps st):FnOk P w K mg base (CX1 P w) (n+1) fa fd ps (spL K (aj T (n+1)) f ps):=
 uY (nN t (k:=n) (n:=n) (by omega) hn h1 h2 h5 (.inl (by omega)) (xI t n hn) (lh t n hn).2)
theorem Bb {f n:Nat}{x:Str}{a:Ψ}{H:Hp}{ns:List Int}(hS:Ls K H a (ns.map V.int))(hl:aj T n f [.lst Θ (ns.map .int)]=.ok (.bl Δ)) :
  spL K (aj T n) f [x] [.ref a] H (fun v _=>v=.bl Δ) fun _ _ _=>False:=by
 have m:HReps K (fun a=>H a≠Ξ) H [.ref a] [.lst Θ (ns.map .int)]:=by
  refine .cons ?_ .nil;rcases hS with hS|hS
  ·exact .lst hS.some hS (HReps.ofInts ns)
  ·exact .lstK hS (HReps.ofInts ns)
 refine⟨rfl,fun a=>H a≠Ξ,[.lst Θ (ns.map .int)],fun a h=>h,m,?_⟩;have he:ers [.lst Θ (ns.map .int)]=[D.lst Θ (ns.map .int)]:=by rw[ers,ers,er,gP,EB];rfl
 rw[he,hl];intro v H' F' fv o;cases o.rep;rfl
theorem uZ {l:PySem.W.OpenLaw}{q:Β}{loose:List Str}{XP:(Str->Option Φ)->Heap->Prop}{YP:Α->Heap->Prop}{d:DefRec}{K:Params->Frag}{T:Tb}{n f:Nat}{x:Str}(hn:l.most=Γ 63)(hdf:d.params.defaults=[])(hr:Room (n+1) callerA)
  (hY:∀(w:Α) (h:Heap),YP w h->(K w.params).In h)
  (F:∀(w:Α) (mg:Str->Option Φ) (fa:Ψ) (h:Heap),(K w.params).In h->h.Ns Ζ mg->mg d.name=Γ (.ref fa)->
   ∃fd:Ν,(∀(s:Ω) (u:Φ),BindsTo s fd ⟨[u],[]⟩ [(x,u)])/\∀base:Heap,(K w.params).In base->base.Ns Ζ mg->FnOk l.prog w (K w.params) mg base (CX1 l.prog w) (n+1) fa fd [x] (spL (K w.params) (aj T (n+1)) f [x]))
  (hl:∀ns:List Int,ns.length<=63->aj T (n+1) f [.lst Θ (ns.map .int)]=.ok (.bl Δ)) :
  PySem.W.WalkO q loose XP YP l.row.toRowW d [] (fun f vs=>PySem.call f vs):=
 L2.wI (n:=63) (k:=n+1) (x:=x) (CX:=fun w=>CX1 l.prog w) (sp:=fun w=>spL (K w.params) (aj T (n+1)) f [x]) hn (by decide) hdf hr hY F (fun w H a ns h1 _ hS=>Bb hS (hl ns h1)) fun _ _ _ _ _ z=>nM z
end
namespace Ev
section
variable {α β:Type}{cl:Nat->List D->Res D}{τ:Ev}{mv:Bool}
theorem cv {a:α}{f:α->Res β}:bnd (.ok a) f=f a:=rfl
theorem cB {x:Res α}:grd Δ x=x:=rfl
theorem r_c {d:D}:evR cl (.c d) τ=.ok d:=rfl
theorem r_g {n:Nat}{d:D}:evR cl (.g n d) τ=.ok d:=rfl
theorem r_v {i:Nat}:evR cl (.v i) τ=(match cq τ i with|some d=>.ok d|none=>stk):=rfl
noncomputable def CW (cl:Nat->List D->Res D)(op:BOp)(b:IR)(τ:Ev)(x:D):Res D:=bnd (evR cl b τ) (opB op x)
theorem aR {op:BOp}{b:IR}{x:D}:CW cl op b τ x=bnd (evR cl b τ) (opB op x):=rfl
theorem cC {op:BOp}{a b:IR}:evR cl (.bin op a b) τ=bnd (evR cl a τ) (CW cl op b τ):=rfl
noncomputable def CY:D->Res D
 |.int i=>.ok (.int (-i))
 |_=>stk
theorem cD {a:IR}:evR cl (.neg a) τ=bnd (evR cl a τ) CY:=rfl
theorem aT {i:Int}:CY (.int i)=.ok (.int (-i)):=rfl
noncomputable def blK (r:Bool):Res D:=.ok (.bl r)
theorem cE {r:Bool}:blK r=.ok (.bl r):=rfl
noncomputable def o8 (op:COp)(x y:D):Res D:=bnd (opC op x y) blK
theorem ak {op:COp}{x y:D}:o8 op x y=bnd (opC op x y) blK:=rfl
noncomputable def CZ (cl:Nat->List D->Res D)(op:COp)(b:IR)(τ:Ev)(x:D):Res D:=bnd (evR cl b τ) (o8 op x)
theorem aU {op:COp}{b:IR}{x:D}:CZ cl op b τ x=bnd (evR cl b τ) (o8 op x):=rfl
theorem cF {op:COp}{a b:IR}:evR cl (.cmp op a b) τ=bnd (evR cl a τ) (CZ cl op b τ):=rfl
noncomputable def Bc (cl:Nat->List D->Res D)(op':COp)(c:IR)(τ:Ev)(y:D)(r:Bool):Res D:=if r=Δ then bnd (evR cl c τ) (o8 op' y) else .ok (.bl Θ)
theorem aV {op':COp}{c:IR}{y:D}{r:Bool}:Bc cl op' c τ y r=if r=Δ then bnd (evR cl c τ) (o8 op' y) else .ok (.bl Θ):=rfl
noncomputable def Bd (cl:Nat->List D->Res D)(op op':COp)(c:IR)(τ:Ev)(x y:D):Res D:=bnd (opC op x y) (Bc cl op' c τ y)
theorem aW {op op':COp}{c:IR}{x y:D}:Bd cl op op' c τ x y=bnd (opC op x y) (Bc cl op' c τ y):=rfl
noncomputable def chK (cl:Nat->List D->Res D)(op op':COp)(b c:IR)(τ:Ev)(x:D):Res D:=bnd (evR cl b τ) (Bd cl op op' c τ x)
theorem cG {op op':COp}{b c:IR}{x:D}:chK cl op op' b c τ x=bnd (evR cl b τ) (Bd cl op op' c τ x):=rfl
theorem ao {op op':COp}{a b c:IR}:evR cl (.chain op op' a b c) τ=bnd (evR cl a τ) (chK cl op op' b c τ):=rfl
noncomputable def u0 (cl:Nat->List D->Res D)(b:IR)(τ:Ev)(x:D)(r:Bool):Res D:=if r=Δ then evR cl b τ else .ok x
theorem aq {b:IR}{x:D}{r:Bool}:u0 cl b τ x r=if r=Δ then evR cl b τ else .ok x:=rfl
noncomputable def C0 (cl:Nat->List D->Res D)(b:IR)(τ:Ev)(x:D):Res D:=bnd (fQ x) (u0 cl b τ x)
theorem aX {b:IR}{x:D}:C0 cl b τ x=bnd (fQ x) (u0 cl b τ x):=rfl
theorem cH {a b:IR}:evR cl (.and_ a b) τ=bnd (evR cl a τ) (C0 cl b τ):=rfl
noncomputable def Be (cl:Nat->List D->Res D)(b:IR)(τ:Ev)(x:D)(r:Bool):Res D:=if r=Δ then .ok x else evR cl b τ
theorem aY {b:IR}{x:D}{r:Bool}:Be cl b τ x r=if r=Δ then .ok x else evR cl b τ:=rfl
noncomputable def orK (cl:Nat->List D->Res D)(b:IR)(τ:Ev)(x:D):Res D:=bnd (fQ x) (Be cl b τ x)
theorem cI {b:IR}{x:D}:orK cl b τ x=bnd (fQ x) (Be cl b τ x):=rfl
theorem dY {a b:IR}:evR cl (.or_ a b) τ=bnd (evR cl a τ) (orK cl b τ):=rfl
noncomputable def u3 (r:Bool):Res D:=.ok (.bl !r)
theorem ar {r:Bool}:u3 r=.ok (.bl !r):=rfl
noncomputable def C1 (x:D):Res D:=bnd (fQ x) u3
theorem aZ {x:D}:C1 x=bnd (fQ x) u3:=rfl
theorem cJ {a:IR}:evR cl (.not_ a) τ=bnd (evR cl a τ) C1:=rfl
noncomputable def tupK (ds:List D):Res D:=grd (f7 ds.length) (.ok (.tup ds))
theorem a7 {ds:List D}:tupK ds=grd (f7 ds.length) (.ok (.tup ds)):=rfl
theorem cK {es:List IR}:evR cl (.tup es) τ=bnd (fy cl es τ) tupK:=rfl
noncomputable def lstK (ds:List D):Res D:=grd (f7 ds.length) (.ok (.lst Δ ds))
theorem a8 {ds:List D}:lstK ds=grd (f7 ds.length) (.ok (.lst Δ ds)):=rfl
theorem cL {es:List IR}:evR cl (.lst es) τ=bnd (fy cl es τ) lstK:=rfl
noncomputable def C2 (cl:Nat->List D->Res D)(i:IR)(τ:Ev)(x:D):Res D:=bnd (evR cl i τ) (gx x)
theorem a9 {i:IR}{x:D}:C2 cl i τ x=bnd (evR cl i τ) (gx x):=rfl
theorem cM {a i:IR}:evR cl (.idx a i) τ=bnd (evR cl a τ) (C2 cl i τ):=rfl
noncomputable def Bf (cl:Nat->List D->Res D)(hi:Option IR)(τ:Ev)(x:D)(l:Option Int):Res D:=bnd (nj cl hi τ) (oI x l)
theorem ba {hi:Option IR}{x:D}{l:Option Int}:Bf cl hi τ x l=bnd (nj cl hi τ) (oI x l):=rfl
noncomputable def slK (cl:Nat->List D->Res D)(lo hi:Option IR)(τ:Ev)(x:D):Res D:=bnd (nj cl lo τ) (Bf cl hi τ x)
theorem cN {lo hi:Option IR}{x:D}:slK cl lo hi τ x=bnd (nj cl lo τ) (Bf cl hi τ x):=rfl
theorem dZ {a:IR}{lo hi:Option IR}:evR cl (.sl a lo hi) τ=bnd (evR cl a τ) (slK cl lo hi τ):=rfl
noncomputable def yY (cl:Nat->List D->Res D)(f:Nat)(ds:List D):Res D:=cl f (ers ds)
theorem au {f:Nat}{ds:List D}:yY cl f ds=cl f (ers ds):=rfl
theorem bb {f:Nat}{es:List IR}:evR cl (.call f es) τ=bnd (fy cl es τ) (yY cl f):=rfl
theorem d5 {f:Bi}{es:List IR}:evR cl (.bi f es) τ=bnd (fy cl es τ) (ip f):=rfl
noncomputable def C3 (k:Kd)(x:D):Res D:=grd (oJ x) (.ok (.bl (ni k x)))
theorem bc {k:Kd}{x:D}:C3 k x=grd (oJ x) (.ok (.bl (ni k x))):=rfl
noncomputable def yZ (cl:Nat->List D->Res D)(k:IR)(τ:Ev)(x:D):Res D:=bnd (evR cl k τ) (mf x)
theorem av {k:IR}{x:D}:yZ cl k τ x=bnd (evR cl k τ) (mf x):=rfl
theorem bf {a k:IR}:evR cl (.dget a k) τ=bnd (evR cl a τ) (yZ cl k τ):=rfl
noncomputable def Bg (n:Bool)(y x:D):Res D:=oM n x y
noncomputable def C4 (cl:Nat->List D->Res D)(n:Bool)(a:IR)(τ:Ev)(y:D):Res D:=bnd (evR cl a τ) (Bg n y)
theorem bg {n:Bool}{a:IR}{y:D}:C4 cl n a τ y=bnd (evR cl a τ) (Bg n y):=rfl
theorem cO {n:Bool}{k a:IR}:evR cl (.din n k a) τ=bnd (evR cl k τ) (C4 cl n a τ):=rfl
theorem bh {a:IR}:evR cl (.lset a) τ=bnd (evR cl a τ) qJ:=rfl
theorem bj {a:IR}:evR cl (.dsum a) τ=bnd (evR cl a τ) qI:=rfl
theorem cP {a:IR}{k:Kd}:evR cl (.isi a k) τ=bnd (evR cl a τ) (C3 k):=rfl
noncomputable def C5 (cl:Nat->List D->Res D)(m:Mt)(es:List IR)(τ:Ev)(x:D):Res D:=grd (jk x) (bnd (fy cl es τ) (kK m x))
theorem bo {m:Mt}{es:List IR}{x:D}:C5 cl m es τ x=grd (jk x) (bnd (fy cl es τ) (kK m x)):=rfl
theorem cQ {m:Mt}{o:IR}{es:List IR}:evR cl (.mth m o es) τ=bnd (evR cl o τ) (C5 cl m es τ):=rfl
noncomputable def Bh (ds:List D):Res D:=.ok (.lst Δ ds)
theorem bq {ds:List D}:Bh ds=.ok (.lst Δ ds):=rfl
noncomputable def y7 (cl:Nat->List D->Res D)(G:Gm)(fr:List Nat)(T:Tg)(I:List IR)(E:IR)(τ:Ev)(its:List D):Res D:=grd (hU its.length) (bnd (noX (fT (fN cl T I E (blk G fr τ)) its)) Bh)
theorem aw {G:Gm}{fr:List Nat}{T:Tg}{I:List IR}{E:IR}{its:List D}:y7 cl G fr T I E τ its=grd (hU its.length) (bnd (noX (fT (fN cl T I E (blk G fr τ)) its)) Bh):=rfl
theorem br {G:Gm}{fr:List Nat}{T:Tg}{s:Sr}{I:List IR}{E:IR}:evR cl (.comp G fr T s I E) τ=bnd (jA cl s τ) (y7 cl G fr T I E τ):=rfl
theorem d6:fy cl [] τ=.ok []:=rfl
noncomputable def u4 (d:D)(ds:List D):Res (List D):=.ok (d::ds)
theorem ax {d:D}{ds:List D}:u4 d ds=.ok (d::ds):=rfl
noncomputable def rsK (cl:Nat->List D->Res D)(es:List IR)(τ:Ev)(d:D):Res (List D):=bnd (fy cl es τ) (u4 d)
theorem cR {es:List IR}{d:D}:rsK cl es τ d=bnd (fy cl es τ) (u4 d):=rfl
theorem d7 {e:IR}{es:List IR}:fy cl (e::es) τ=bnd (evR cl e τ) (rsK cl es τ):=rfl
noncomputable def C6:D->Res (Option Int)
 |.int i=>.ok (Γ i)
 |_=>stk
theorem bt {i:Int}:C6 (.int i)=.ok (Γ i):=rfl
theorem d8:nj cl Ξ τ=.ok Ξ:=rfl
theorem d9 {e:IR}:nj cl (Γ e) τ=bnd (evR cl e τ) C6:=rfl
theorem eh:iM cl [] τ=.ok Δ:=rfl
noncomputable def tsK (cl:Nat->List D->Res D)(es:List IR)(τ:Ev)(r:Bool):Res Bool:=if r=Δ then iM cl es τ else .ok Θ
theorem cS {es:List IR}{r:Bool}:tsK cl es τ r=if r=Δ then iM cl es τ else .ok Θ:=rfl
theorem ei {e:IR}{es:List IR}:iM cl (e::es) τ=bnd (bnd (evR cl e τ) fQ) (tsK cl es τ):=rfl
noncomputable def y9:D->Res (List D)
 |.int i=>grd (j9 i) (.ok (ir 0 i))
 |_=>stk
theorem ay {i:Int}:y9 (.int i)=grd (j9 i) (.ok (ir 0 i)):=rfl
theorem ej {n:IR}:jA cl (.rng1 n) τ=bnd (evR cl n τ) y9:=rfl
theorem cT {e:IR}:jA cl (.val e) τ=bnd (evR cl e τ) kL:=rfl
theorem eA {o:Bool}{ds:List D}:kL (.lst o ds)=.ok ds:=rfl
theorem eB {ds:List D}:kL (.tup ds)=.ok ds:=rfl
theorem t_t {t:IR}:evT cl t τ=bnd (evR cl t τ) fQ:=rfl
theorem o_v {i:Nat}:evO cl mv (.v i) τ=(match cq τ i with|some d=>if mv=Δ then .ok (d,τ.set i Ξ) else .ok (er d,τ.set i (Γ (er d)))|none=>stk):=rfl
noncomputable def za (p:List D×Ev):Res (D×Ev):=grd (f7 p.1.length) (.ok (.tup p.1,p.2))
theorem az {p:List D×Ev}:za p=grd (f7 p.1.length) (.ok (.tup p.1,p.2)):=rfl
theorem o_tup {es:List IR}:evO cl mv (.tup es) τ=bnd (lI cl mv es τ) za:=rfl
noncomputable def zd (p:List D×Ev):Res (D×Ev):=grd (f7 p.1.length) (.ok (.lst Δ p.1,p.2))
theorem aA {p:List D×Ev}:zd p=grd (f7 p.1.length) (.ok (.lst Δ p.1,p.2)):=rfl
theorem o_lst {es:List IR}:evO cl mv (.lst es) τ=bnd (lI cl mv es τ) zd:=rfl
noncomputable def nO (es:List IR)(τ:Ev)(d:D):Res (D×Ev):=if fB d=Δ then .ok (d,τ) else .ok (d,frz (cw es) τ)
theorem aa {es:List IR}{d:D}:nO es τ d=if fB d=Δ then .ok (d,τ) else .ok (d,frz (cw es) τ):=rfl
noncomputable def u5 (cl:Nat->List D->Res D)(f:Nat)(es:List IR)(τ:Ev)(ds:List D):Res (D×Ev):=bnd (cl f (ers ds)) (nO es τ)
theorem af {f:Nat}{es:List IR}{ds:List D}:u5 cl f es τ ds=bnd (cl f (ers ds)) (nO es τ):=rfl
theorem o_call {f:Nat}{es:List IR}:evO cl mv (.call f es) τ=bnd (fy cl es τ) (u5 cl f es τ):=rfl
noncomputable def jg (e:IR)(τ:Ev)(d:D):Res (D×Ev):=.ok (fH e d τ)
theorem aB {e:IR}{d:D}:jg e τ d=.ok (fH e d τ):=rfl
theorem o_c {d:D}:evO cl mv (.c d) τ=bnd (evR cl (.c d) τ) (jg (.c d) τ):=rfl
theorem o_g {n:Nat}{d:D}:evO cl mv (.g n d) τ=bnd (evR cl (.g n d) τ) (jg (.g n d) τ):=rfl
theorem cU {op:BOp}{a b:IR}:evO cl mv (.bin op a b) τ=bnd (evR cl (.bin op a b) τ) (jg (.bin op a b) τ):=rfl
theorem cV {a i:IR}:evO cl mv (.idx a i) τ=bnd (evR cl (.idx a i) τ) (jg (.idx a i) τ):=rfl
theorem eC {a:IR}{lo hi:Option IR}:evO cl mv (.sl a lo hi) τ=bnd (evR cl (.sl a lo hi) τ) (jg (.sl a lo hi) τ):=rfl
theorem eD {f:Bi}{es:List IR}:evO cl mv (.bi f es) τ=bnd (evR cl (.bi f es) τ) (jg (.bi f es) τ):=rfl
theorem o_dnew:evO cl mv .dnew τ=.ok (.dct Δ [] [],τ):=rfl
theorem bu {a k:IR}:evO cl mv (.dget a k) τ=bnd (evR cl (.dget a k) τ) (jg (.dget a k) τ):=rfl
theorem cW {m:Mt}{o:IR}{es:List IR}:evO cl mv (.mth m o es) τ=bnd (evR cl (.mth m o es) τ) (jg (.mth m o es) τ):=rfl
theorem bw {G:Gm}{fr:List Nat}{T:Tg}{s:Sr}{I:List IR}{E:IR}:evO cl mv (.comp G fr T s I E) τ=bnd (evR cl (.comp G fr T s I E) τ) (jg (.comp G fr T s I E) τ):=rfl
theorem eE:lI cl mv [] τ=.ok ([],τ):=rfl
noncomputable def Bj (d:D)(q:List D×Ev):Res (List D×Ev):=.ok (d::q.1,q.2)
theorem bx {d:D}{q:List D×Ev}:Bj d q=.ok (d::q.1,q.2):=rfl
noncomputable def osK (cl:Nat->List D->Res D)(mv:Bool)(es:List IR)(p:D×Ev):Res (List D×Ev):=bnd (lI cl mv es p.2) (Bj p.1)
theorem cX {es:List IR}{p:D×Ev}:osK cl mv es p=bnd (lI cl mv es p.2) (Bj p.1):=rfl
theorem eF {e:IR}{es:List IR}:lI cl mv (e::es) τ=bnd (evO cl mv e τ) (osK cl mv es):=rfl
noncomputable def smK (d:D):Res (Option D):=.ok (Γ d)
theorem cY {d:D}:smK d=.ok (Γ d):=rfl
noncomputable def Bl (cl:Nat->List D->Res D)(E:IR)(τ:Ev)(r:Bool):Res (Option D):=if r=Δ then bnd (evR cl E τ) smK else .ok Ξ
theorem bz {E:IR}{r:Bool}:Bl cl E τ r=if r=Δ then bnd (evR cl E τ) smK else .ok Ξ:=rfl
noncomputable def bdK (cl:Nat->List D->Res D)(I:List IR)(E:IR)(τ:Ev):Res (Option D):=bnd (iM cl I τ) (Bl cl E τ)
theorem cZ {I:List IR}{E:IR}:bdK cl I E τ=bnd (iM cl I τ) (Bl cl E τ):=rfl
theorem aC {T:Tg}{I:List IR}{E:IR}{x:D}:fN cl T I E τ x=bnd (gR T x τ) (bdK cl I E):=rfl
theorem bA {G:Gm}{fr:List Nat}:blk G fr τ=fr.map (cq τ)++Ρ (G.N.length - fr.length) Ξ:=rfl
theorem k_i {e:IR}{i:Int}:fH e (.int i) τ=(.int i,τ):=rfl
theorem k_s {e:IR}{x:Str}:fH e (.str x) τ=(.str x,τ):=rfl
theorem k_b {e:IR}{b:Bool}:fH e (.bl b) τ=(.bl b,τ):=rfl
theorem k_n {e:IR}:fH e .non τ=(.non,τ):=rfl
noncomputable def nxK (τ':Ev):Res Fl:=.ok (.nx τ')
theorem c4:nxK τ=.ok (.nx τ):=rfl
noncomputable def C7 (tg:Tg)(p:D×Ev):Res Fl:=bnd (gR tg p.1 p.2) nxK
theorem bB {tg:Tg}{p:D×Ev}:C7 tg p=bnd (gR tg p.1 p.2) nxK:=rfl
theorem st_asg {tg:Tg}{e:IR}:evS cl (.asg tg e) τ=bnd (evO cl Θ e τ) (C7 tg):=rfl
noncomputable def u6 (i:Nat)(p:D×Ev)(ds:List D):D->Res Fl
 |.int z=>(match ixN ds.length z with
  |some j=>.ok (.nx (p.2.set i (Γ (.lst Δ (ds.set j p.1)))))
  |none=>stk)
 |_=>stk
noncomputable def Bm (cl:Nat->List D->Res D)(i:Nat)(k:IR)(p:D×Ev):Option D->Res Fl
 |some (.lst Δ ds)=>bnd (evR cl k p.2) (u6 i p ds)
 |_=>stk
theorem bC {i:Nat}{k:IR}{p:D×Ev}{ds:List D}:Bm cl i k p (Γ (.lst Δ ds))=bnd (evR cl k p.2) (u6 i p ds):=rfl
theorem aD {i:Nat}{p:D×Ev}{ds:List D}{z:Int}:u6 i p ds (.int z)=(match ixN ds.length z with|some j=>.ok (.nx (p.2.set i (Γ (.lst Δ (ds.set j p.1)))))|none=>stk):=rfl
noncomputable def u7 (cl:Nat->List D->Res D)(i:Nat)(k:IR)(p:D×Ev):Res Fl:=Bm cl i k p (cq p.2 i)
theorem ah {i:Nat}{k:IR}{p:D×Ev}:u7 cl i k p=Bm cl i k p (cq p.2 i):=rfl
theorem st_setix {i:Nat}{k e:IR}:evS cl (.setix i k e) τ=bnd (evO cl Θ e τ) (u7 cl i k):=rfl
noncomputable def Bn (i:Nat)(p:D×Ev):Option D->Res Fl
 |some (.lst Δ ds)=>grd (hU ds.length) (.ok (.nx (p.2.set i (Γ (.lst Δ (ds++[p.1]))))))
 |_=>stk
noncomputable def Bo (i:Nat)(p:D×Ev):Res Fl:=Bn i p (cq p.2 i)
theorem bD {i:Nat}{p:D×Ev}:Bo i p=Bn i p (cq p.2 i):=rfl
noncomputable def C8 (cl:Nat->List D->Res D)(i:Nat)(e:IR)(τ:Ev):Option D->Res Fl
 |some (.lst _ _)=>bnd (evO cl Θ e τ) (Bo i)
 |_=>stk
theorem bE {i:Nat}{e:IR}{o:Bool}{ds:List D}:C8 cl i e τ (Γ (.lst o ds))=bnd (evO cl Θ e τ) (Bo i):=rfl
theorem bG {i:Nat}{p:D×Ev}{ds:List D}:Bn i p (Γ (.lst Δ ds))=grd (hU ds.length) (.ok (.nx (p.2.set i (Γ (.lst Δ (ds++[p.1])))))):=rfl
noncomputable def jh (cl:Nat->List D->Res D)(i:Nat)(k:IR)(τ:Ev)(d:D):Option D->Res Fl
 |some (.dct Δ ks ds)=>bnd (evR cl k τ) fun y=>(match iq y with|some q=>grd (fE d&&cA ds&&hU ks.length) (.ok (.nx (τ.set i (Γ (.dct Δ (f9 ks q) (fL ks ds q d))))))|none=>stk)
 |_=>stk
theorem ko {i:Nat}{k:IR}{d:D}{ks:List Key}{ds:List D}{x:Str}(h:evR cl k τ=.ok (.str x))(hl:(fE d&&cA ds&&hU ks.length)=Δ):jh cl i k τ d (Γ (.dct Δ ks ds))=.ok (.nx (τ.set i (Γ (.dct Δ (f9 ks (.inr x)) (fL ks ds (.inr x) d))))):=by show(bnd (evR cl k τ) fun y=>(match iq y with|some q=>grd (fE d&&cA ds&&hU ks.length) (.ok (Fl.nx (τ.set i (Γ (.dct Δ (f9 ks q) (fL ks ds q d))))))|none=>stk))=_;rw[h];show grd _ _=_;rw[hl];rfl
noncomputable def ze (cl:Nat->List D->Res D)(i:Nat)(k:IR)(τ:Ev)(d:D):Res Fl:=jh cl i k τ d (cq τ i)
theorem aE {i:Nat}{k:IR}{d:D}:ze cl i k τ d=jh cl i k τ d (cq τ i):=rfl
theorem st_dset {i:Nat}{k e:IR}:evS cl (.dset i k e) τ=bnd (evR cl e τ) (ze cl i k τ):=rfl
noncomputable def C9 (j:Nat)(τ:Ev)(d:D):Res Fl:=bnd (sM j τ d) nxK
theorem bH {j:Nat}{d:D}:C9 j τ d=bnd (sM j τ d) nxK:=rfl
theorem st_dof {j:Nat}{e:IR}:evS cl (.dof j e) τ=bnd (evR cl e τ) (C9 j τ):=rfl
theorem st_dupd {i j:Nat}:evS cl (.dupd i j) τ=bnd (ua i τ (cq τ i) (cq τ j)) nxK:=rfl
noncomputable def u9 (d:D):Option D->Res Fl
 |some (.dct Δ ks vs)=>grd (fq vs) (.ok (.ri d ks vs))
 |_=>stk
theorem aG {i:Nat}{d:D}:oO i (d,τ)=u9 d (cq τ i):=rfl
theorem st_reti {i:Nat}{e:IR}:evS cl (.reti i e) τ=bnd (evO cl Δ e τ) (oO i):=rfl
noncomputable def Bp (cl:Nat->List D->Res D)(j f i:Nat)(th:Option Nat)(ks:List Key)(vs:List D)(τ:Ev)(ds ds2:List D):Res Fl:=bnd (noX (cl f (ers ds++.dct Δ ks vs::ers ds2))) (pT j i th τ)
theorem bI {j f i:Nat}{th:Option Nat}{ks:List Key}{vs ds ds2:List D}:Bp cl j f i th ks vs τ ds ds2=bnd (noX (cl f (ers ds++.dct Δ ks vs::ers ds2))) (pT j i th τ):=rfl
noncomputable def Bq (cl:Nat->List D->Res D)(j f:Nat)(es:List IR)(i:Nat)(es2:List IR)(th:Option Nat)(ks:List Key)(vs:List D)(τ:Ev)(ds:List D):Res Fl:=bnd (fy cl es2 τ) (Bp cl j f i th ks vs (frz (cw es++cw es2) τ) ds)
theorem bJ {j f:Nat}{es:List IR}{i:Nat}{es2:List IR}{th:Option Nat}{ks:List Key}{vs ds:List D}:Bq cl j f es i es2 th ks vs τ ds=bnd (fy cl es2 τ) (Bp cl j f i th ks vs (frz (cw es++cw es2) τ) ds):=rfl
noncomputable def Dc (cl:Nat->List D->Res D)(j f:Nat)(es:List IR)(i:Nat)(es2:List IR)(th:Option Nat)(τ:Ev):Option D->Res Fl
 |some (.dct Δ ks vs)=>grd (fq vs&&pS τ th) (bnd (fy cl es τ) (Bq cl j f es i es2 th ks vs τ))
 |_=>stk
theorem bK {j f:Nat}{es:List IR}{i:Nat}{es2:List IR}{th:Option Nat}{ks:List Key}{vs:List D}:Dc cl j f es i es2 th τ (Γ (.dct Δ ks vs))=grd (fq vs&&pS τ th) (bnd (fy cl es τ) (Bq cl j f es i es2 th ks vs τ)):=rfl
theorem st_cio {j f:Nat}{es:List IR}{i:Nat}{es2:List IR}{th:Option Nat}:evS cl (.cio j f es i es2 th) τ=Dc cl j f es i es2 th τ (cq τ i):=by
 show(match cq τ i with|some (.dct Δ ks vs)=>grd (fq vs&&pS τ th) (bnd (fy cl es τ) fun ds=>bnd (fy cl es2 τ) fun ds2=>bnd (noX (cl f (ers ds++D.dct Δ ks vs::ers ds2))) (pT j i th (frz (cw es++cw es2) τ)))|_=>stk)=_;rcases cq τ i with _|d
 ·rfl
 ·induction d using zD<;>first|rfl|(rename_i o ks ds;induction o using zB<;>rfl)
theorem bL {j i:Nat}{th:Option Nat}{d:D}{ks:List Key}{vs:List D}:pT j i th τ (.tup [d,.dct Θ ks vs])=grd (fq vs) (ud ((τ.set i (Γ (.dct Δ ks vs))).set j (Γ d)) th):=rfl
theorem bM:ud τ Ξ=.ok (.nx τ):=rfl
theorem bN {t:Nat}:ud τ (Γ t)=qK t τ (cq τ t):=rfl
theorem aH {i:Nat}{ks:List Key}{ds:List D}:qK i τ (Γ (.dct Θ ks ds))=grd (ndx (τ.set i Ξ)&&fV ds) (.ok (.nx (τ.set i (Γ (.dct Δ ks ds))))):=rfl
noncomputable def thD:Option D->Bool
 |some (.dct Δ _ ds)=>gw ds
 |_=>Θ
theorem c5 {ks:List Key}{ds:List D}:thD (Γ (.dct Δ ks ds))=gw ds:=rfl
theorem bO:pS τ Ξ=Δ:=rfl
theorem bP {t:Nat}:pS τ (Γ t)=thD (cq τ t):=rfl
theorem st_mvx {j i k:Nat}:evS cl (.mvx j i k) τ=wZ j i k τ (cq τ i):=rfl
theorem bQ {j i:Nat}{a b:D}:wZ j i 1 τ (Γ (.tup [a,b]))=.ok (.nx ((τ.set i Ξ).set j (Γ b))):=rfl
noncomputable def Dd (i:Nat)(x:D)(τ:Ev)(ks:List Key)(ds:List D)(y:D):Res Ev:=pU i x τ ks ds (iq y)
theorem aN {i:Nat}{x:D}{ks:List Key}{ds:List D}{z:Str}:Dd i x τ ks ds (.str z)=grd (fq ds&&hU ks.length) (.ok (τ.set i (Γ (.dct Δ (f9 ks (.inr z)) (ers (fL ks ds (.inr z) x)))))):=rfl
theorem aO {i:Nat}{k:IR}{x:D}{ks:List Key}{ds:List D}:gF cl i k x τ (Γ (.dct Δ ks ds))=bnd (evR cl k τ) (Dd i x τ ks ds):=rfl
noncomputable def De (cl:Nat->List D->Res D)(i:Nat)(k:IR)(p:D×Ev):Res Fl:=bnd (gF cl i k p.1 p.2 (cq p.2 i)) nxK
theorem bR {i:Nat}{k:IR}{d:D}:De cl i k (d,τ)=bnd (gF cl i k d τ (cq τ i)) nxK:=rfl
theorem st_dsety {i:Nat}{k e:IR}:evS cl (.dsety i k e) τ=bnd (evO cl Θ e τ) (De cl i k):=rfl
noncomputable def Df (j:Nat)(y:D)(τ:Ev):Res Fl:=.ok (.nx (τ.set j (Γ y)))
theorem bS {j:Nat}{y:D}:Df j y τ=.ok (.nx (τ.set j (Γ y))):=rfl
theorem bT {i:Nat}{k:IR}{j:Nat}{x y:D}:kN cl i k j (.tup [x,y],τ)=bnd (gF cl i k x τ (cq τ i)) (Df j y):=rfl
theorem st_dsetp {i:Nat}{k:IR}{j:Nat}{e:IR}:evS cl (.dsetp i k j e) τ=bnd (evO cl Θ e τ) (kN cl i k j):=rfl
theorem st_clrA {a b i:Nat}:evS cl (.clrA a b i) τ=ue a b i τ (cq τ i):=rfl
theorem aP {a b i:Nat}{d:D}:ue a b i τ (Γ d)=grd (mh d&&uc τ b) (.ok (.nx (((τ.set i Ξ).set a Ξ).set b Ξ))):=rfl
theorem Br {i:Int}:gL (.int i)=Δ:=by unfold gL;rfl
theorem xJ {x:Str}:gL (.str x)=Δ:=by unfold gL;rfl
theorem xK {ds:List D}:gL (.tup ds)=fV ds:=by rw[gL]
theorem lq {o:Bool}{ds:List D}:gL (.lst o ds)=fV ds:=by rw[gL]
theorem Bt {o:Bool}{ks:List Key}{ds:List D}:gL (.dct o ks ds)=(o&&fV ds):=by rw[gL]
theorem mH {d:D}{ds:List D}:fV (d::ds)=(gL d&&fV ds):=by rw[fV]
theorem cz {d:D}:ndx (Γ d::τ)=(gL d&&ndx τ):=rfl
theorem xM {i:Str}:fB (.str i)=Δ:=by rw[fB]
theorem ve {ds:List D}:fB (.tup ds)=fF ds:=by rw[fB]
theorem sU {o:Bool}{ds:List D}:fB (.lst o ds)=(o&&fF ds):=by rw[fB]
theorem zg:fF []=Δ:=by rw[fF]
theorem kb {d:D}{ds:List D}:fF (d::ds)=(fB d&&fF ds):=by rw[fF]
theorem st_app {i:Nat}{e:IR}:evS cl (.app i e) τ=C8 cl i e τ (cq τ i):=rfl
noncomputable def rtK (p:D×Ev):Res Fl:=.ok (.rt p.1)
theorem c6 {p:D×Ev}:rtK p=.ok (.rt p.1):=rfl
theorem st_ret {e:IR}:evS cl (.ret e) τ=bnd (evO cl Δ e τ) rtK:=rfl
noncomputable def ifK (cl:Nat->List D->Res D)(a b:List IS)(τ:Ev)(r:Bool):Res Fl:=if r=Δ then gA cl a τ else gA cl b τ
theorem c7 {a b:List IS}{r:Bool}:ifK cl a b τ r=if r=Δ then gA cl a τ else gA cl b τ:=rfl
theorem st_if {t:IR}{a b:List IS}:evS cl (.if_ t a b) τ=bnd (evT cl t τ) (ifK cl a b τ):=rfl
noncomputable def turn (cl:Nat->List D->Res D)(tg:Tg)(body:List IS)(x:D)(τ:Ev):Res Fl:=bnd (gR tg x τ) (gA cl body)
theorem e9 {tg:Tg}{body:List IS}{x:D}:turn cl tg body x τ=bnd (gR tg x τ) (gA cl body):=rfl
noncomputable def Dg (cl:Nat->List D->Res D)(tg:Tg)(body:List IS)(p:List D×Ev):Res Fl:=forM (turn cl tg body) p.1 p.2
theorem bU {tg:Tg}{body:List IS}{p:List D×Ev}:Dg cl tg body p=forM (turn cl tg body) p.1 p.2:=rfl
theorem st_for {tg:Tg}{s:Sr}{body:List IS}:evS cl (.for_ tg s body) τ=bnd (pR cl s τ) (Dg cl tg body):=rfl
noncomputable def xN (f:Ev->Res Fl):Fl->Res Fl
 |.nx τ'=>f τ'
 |.ct τ'=>.ok (.ct τ')
 |.bk τ'=>.ok (.bk τ')
 |.rt d=>.ok (.rt d)
 |.ri d ks vs=>.ok (.ri d ks vs)
theorem eG:gA cl [] τ=.ok (.nx τ):=rfl
theorem eI {s:IS}{r:List IS}:gA cl (s::r) τ=bnd (evS cl s τ) (xN (gA cl r)):=rfl
theorem c8 {f:Ev->Res Fl}:xN f (.nx τ)=f τ:=rfl
theorem c9 {f:Ev->Res Fl}{d:D}{ks:List Key}{vs:List D}:xN f (.ri d ks vs)=.ok (.ri d ks vs):=rfl
theorem da {f:Ev->Res Fl}{d:D}:xN f (.rt d)=.ok (.rt d):=rfl
noncomputable def Dh (τ:Ev)(its:List D):Res (List D×Ev):=.ok (its,τ)
theorem bV {its:List D}:Dh τ its=.ok (its,τ):=rfl
noncomputable def zh (e:IR)(τ:Ev)(its:List D):Res (List D×Ev):=.ok (ers its,frz (vars e) τ)
theorem aI {e:IR}{its:List D}:zh e τ its=.ok (ers its,frz (vars e) τ):=rfl
theorem dh {n:IR}:pR cl (.rng1 n) τ=bnd (jA cl (.rng1 n) τ) (Dh τ):=rfl
theorem dm {e:IR}:pR cl (.val e) τ=bnd (jA cl (.val e) τ) (zh e τ):=rfl
noncomputable def Di (body:D->Ev->Res Fl)(xs:List D):Fl->Res Fl
 |.nx τ'=>forM body xs τ'
 |.ct τ'=>forM body xs τ'
 |.bk τ'=>.ok (.nx τ')
 |.rt d=>.ok (.rt d)
 |.ri d ks vs=>.ok (.ri d ks vs)
theorem cu {body:D->Ev->Res Fl}{x:D}{xs:List D}:forM body (x::xs) τ=bnd (body x τ) (Di body xs):=rfl
theorem Dj {body:D->Ev->Res Fl}{xs:List D}:Di body xs (.nx τ)=forM body xs τ:=rfl
theorem eJ {i:Nat}{d:D}:gR (.nm i) d τ=.ok (τ.set i (Γ d)):=rfl
theorem eK {ts:List Tg}{ds:List D}:gR (.tp ts) (.tup ds) τ=grd (decide (ds.length=ts.length)) (jy ts ds τ):=rfl
theorem dn:jy [] [] τ=.ok τ:=rfl
theorem dq {t:Tg}{ts:List Tg}{d:D}{ds:List D}:jy (t::ts) (d::ds) τ=bnd (gR t d τ) (jy ts ds):=rfl
theorem dt {o p:Option D}:(o::τ).set 0 p=p::τ:=rfl
theorem du {o p:Option D}{i:Nat}:(o::τ).set (i+1) p=o::τ.set i p:=rfl
theorem dv {a b:Int}:opB .add (.int a) (.int b)=.ok (.int (a+b)):=rfl
theorem aQ {a b:Str}:opB .add (.str a) (.str b)=grd (f7 (a.length+b.length)) (.ok (.str (a++b))):=rfl
theorem bW {o o':Bool}{a b:List D}:opB .add (.lst o a) (.lst o' b)=grd (f7 (a.length+b.length)) (.ok (.lst Δ (a++b))):=rfl
theorem dz {a b:Int}:opB .sub (.int a) (.int b)=.ok (.int (a - b)):=rfl
theorem zl {a b:Int}:opB .mul (.int a) (.int b)=grd (decide (-(2 ^ 64) < a/\a < 2 ^ 64)||decide (-(2 ^ 64) < b/\b < 2 ^ 64)) (.ok (.int (a*b))):=rfl
theorem Bu {a b:Int}:opB .fdiv (.int a) (.int b)=grd (decide (0 < b/\b < 1073741824)) (.ok (.int (a / b))):=rfl
theorem Dk {a b:Int}:opB .mod (.int a) (.int b)=grd (decide (0 < b)) (.ok (.int (a % b))):=rfl
theorem x_l {o:Bool}{ds:List D}{i:Int}:gx (.lst o ds) (.int i)=(match atI ds i with|some d=>.ok d|none=>stk):=rfl
theorem x_t {ds:List D}{i:Int}:gx (.tup ds) (.int i)=(match atI ds i with|some d=>.ok d|none=>stk):=rfl
theorem x_s {z:Str}{i:Int}:gx (.str z) (.int i)=grd (f7 z.length) (match atI z.cps.toList i with|some c=>.ok (.str ⟨#[c]⟩)|none=>stk):=rfl
theorem eL {o:Bool}{ds:List D}{lo hi:Option Int}:oI (.lst o ds) lo hi=.ok (.lst Δ (ik ds lo hi)):=rfl
theorem eM {z:Str}{lo hi:Option Int}:oI (.str z) lo hi=grd (f7 z.length) (.ok (.str (Txt.slice z lo hi))):=rfl
theorem eN {b:Bool}:fQ (.bl b)=.ok b:=rfl
theorem Dl {a b:D}:opC .eq a b=eqN 40 a b:=by cases a<;>cases b<;>rfl
noncomputable def Dm (r:Bool):Res Bool:=.ok !r
theorem bX {r:Bool}:Dm r=.ok !r:=rfl
theorem Dq {a b:D}:opC .ne a b=bnd (eqN 40 a b) Dm:=by cases a<;>cases b<;>rfl
theorem dW {n:Nat}{a b:Int}:eqN (n+1) (.int a) (.int b)=.ok (a == b):=rfl
theorem dX {n:Nat}{a b:Str}:eqN (n+1) (.str a) (.str b)=.ok (a == b):=rfl
theorem eO {n:Nat}{o o':Bool}{a b:List D}:eqN (n+1) (.lst o a) (.lst o' b)=gp (eqN n) a b:=rfl
theorem eP {f:D->D->Res Bool}:gp f [] []=.ok Δ:=rfl
noncomputable def Dr (x y:Bool):Res Bool:=.ok (x&&y)
noncomputable def esK (f:D->D->Res Bool)(r s:List D)(x:Bool):Res Bool:=bnd (gp f r s) (Dr x)
theorem cy {f:D->D->Res Bool}{r s:List D}{x:Bool}:esK f r s x=bnd (gp f r s) (Dr x):=rfl
theorem dS {f:D->D->Res Bool}{a b:D}{r s:List D}:gp f (a::r) (b::s)=bnd (f a b) (esK f r s):=rfl
theorem eQ {f:D->D->Res Bool}{a:D}{r:List D}:gp f (a::r) []=.ok Θ:=rfl
theorem eR {a b:Int}:opC .lt (.int a) (.int b)=.ok (decide (a < b)):=rfl
theorem eS {a b:Int}:opC .le (.int a) (.int b)=.ok (decide (a<=b)):=rfl
theorem eT {a b:Int}:opC .gt (.int a) (.int b)=.ok (decide (b < a)):=rfl
theorem zm {a:D}:opC .isn a .non=.ok (!ja a):=by cases a<;>rfl
theorem n_n:ja .non=Δ:=rfl
theorem n_s {i:Str}:ja (.str i)=Θ:=rfl
theorem dA {x:Str}:ip .len [.str x]=grd (f7 x.length) (.ok (.int x.length)):=rfl
theorem dB {o:Bool}{ds:List D}:ip .len [.lst o ds]=.ok (.int ds.length):=rfl
theorem bY {a b:Int}:ip .min2 [.int a,.int b]=.ok (.int (if b < a then b else a)):=rfl
theorem bZ {a b:Int}:ip .max2 [.int a,.int b]=.ok (.int (if b > a then b else a)):=rfl
theorem ai {o:Bool}{ds:List D}:ip .list [.lst o ds]=.ok (.lst Δ ds):=rfl
theorem vf (ns:List Int):gy (ns.map .int)=Γ ns:=by
 induction ns with
 |nil=>rfl
 |cons n ns ih=>show(gy (ns.map .int)).map (n::·)=_;rw[ih];rfl
theorem o9 (ns:List Str):gI (ns.map .str)=Γ ns:=by
 induction ns with
 |nil=>rfl
 |cons n ns ih=>show(gI (ns.map .str)).map (n::·)=_;rw[ih];rfl
theorem vg {o:Bool}{ns:List Int}(h:ns.length<=1000000):ip .sum [.lst o (ns.map .int)]=.ok (.int ns.sum):=by
 show(match gy (ns.map .int) with|some ns=>grd (decide (ns.length<=1000000)) (.ok (.int ns.sum))|none=>stk)=(_:Res D)
 rw[vf];show grd (decide (ns.length<=1000000)) _=_;rw[s_ h];rfl
theorem xO {x:Str}{o:Bool}{ys:List Str}(h:(ys.map (·.length)).sum+ys.length*x.length<=16777216):kK .join (.str x) [.lst o (ys.map .str)]=.ok (.str (Txt.join x ys)):=by
 show(match gI (ys.map .str) with|some ys=>grd (decide ((ys.map (fun y:Str=>y.length)).sum+ys.length*x.length<=16777216)) (.ok (.str (Txt.join x ys)))|none=>stk)=(_:Res D)
 rw[o9];show grd (decide _) _=_;rw[s_ h];rfl
theorem dC {x:Str}:jk (.str x)=Δ:=rfl
theorem vi (ns:List Int):cA (ns.map .int)=Δ:=by rw[fO,List.all_map,ED];intro x _;rfl
theorem sV (ns:List Str):cA (ns.map .str)=Δ:=by rw[fO,List.all_map,ED];intro x _;rfl
theorem eU {i:Int}:er (.int i)=.int i:=by rw[er]
theorem eV {i:Str}:er (.str i)=.str i:=by rw[er]
theorem eW {ds:List D}:er (.tup ds)=.tup (ers ds):=by rw[er]
theorem eX {o:Bool}{ds:List D}:er (.lst o ds)=.lst Θ (ers ds):=by rw[er]
theorem dD:ers []=[]:=by rw[ers]
theorem dE {d:D}{ds:List D}:ers (d::ds)=er d::ers ds:=by rw[ers]
theorem nP (ns:List Int):ers (ns.map .int)=ns.map .int:=gm (vi ns)
theorem nQ (ns:List Str):ers (ns.map .str)=ns.map .str:=gm (sV ns)
noncomputable def Bv:Fl->Res D
 |.nx _=>.ok .non
 |.rt d=>.ok d
 |_=>stk
theorem run {fn:Fn}{ds:List D}(h:ds.length=fn.np):iJ cl fn ds=bnd (gA cl fn.body (ds.map Γ++Ρ (fn.G.N.length - fn.np) Ξ)) Bv:=by unfold iJ;rw[s_ h];rfl
theorem b7 {d:D}:Bv (.rt d)=.ok d:=rfl
theorem call {T:Tb}{n f:Nat}{fn:Fn}{ds:List D}(h:T f=Γ fn)(h0:fn.io=Θ):aj T (n+1) f ds=iJ (aj T n) fn ds:=by show(match T f with|some fn=>(match fn.io with|false=>iJ (aj T n) fn ds|true=>iK (aj T n) fn ds)|none=>stk)=_;rw[h];show(match fn.io with|false=>iJ (aj T n) fn ds|true=>iK (aj T n) fn ds)=_;rw[h0]
noncomputable def ioK:Fl->Res D
 |.ri d ks vs=>.ok (.tup [d,.dct Θ ks vs])
 |_=>stk
theorem goI {T:Tb}{n f:Nat}{fn:Fn}{ds:List D}{m k:Nat}{body:List IS}(h:T f=Γ fn)(h0:fn.io=Δ)(h1:fn.np=m)(h2:fn.G.N.length=k)(h3:fn.body=body)(hl:ds.length=m)(ho:gV (fn.G.io.getD 0) ds=Δ) :
  aj T (n+1) f ds=bnd (gA (aj T n) body (ds.map Γ++Ρ (k - m) Ξ)) ioK:=by
 show(match T f with|some fn=>(match fn.io with|false=>iJ (aj T n) fn ds|true=>iK (aj T n) fn ds)|none=>stk)=_;rw[h];show(match fn.io with|false=>iJ (aj T n) fn ds|true=>iK (aj T n) fn ds)=_;rw[h0];show iK (aj T n) fn ds=_;unfold iK;rw[s_ (show ds.length=fn.np by rw[hl,h1]),ho,h1,h2,h3];show bnd _ _=bnd _ _;congr 1
theorem go {T:Tb}{n f:Nat}{fn:Fn}{ds:List D}{m k:Nat}{body:List IS}(h:T f=Γ fn)(h0:fn.io=Θ)(h1:fn.np=m)(h2:fn.G.N.length=k)(h3:fn.body=body)(hl:ds.length=m) :
  aj T (n+1) f ds=bnd (gA (aj T n) body (ds.map Γ++Ρ (k - m) Ξ)) Bv:=by
 rw[call h h0,run (by rw[hl,h1]),h1,h2,h3]
end
end Ev
namespace Ev
section
variable {cl:Nat->List D->Res D}{τ:Ev}
theorem line:Ε=16777216:=sizeLine_eq
theorem vk {a b:Int}(h1 : -18446744073709551616 < a)(h2:a < 18446744073709551616):opB .mul (.int a) (.int b)=.ok (.int (a*b)):=by rw[zl,s_ (show -(2 ^ 64) < a/\a < 2 ^ 64 from⟨by omega,by omega⟩)];rfl
theorem vm {a b:Int}(h1 : -18446744073709551616 < b)(h2:b < 18446744073709551616):opB .mul (.int a) (.int b)=.ok (.int (a*b)):=by rw[zl,s_ (show -(2 ^ 64) < b/\b < 2 ^ 64 from⟨by omega,by omega⟩),Bool.or_true];rfl
theorem vn {a b:Int}(h1:0 < b)(h2:b < 1073741824):opB .fdiv (.int a) (.int b)=.ok (.int (a / b)):=by rw[Bu,s_ ⟨h1,h2⟩];rfl
theorem zo {a b:Int}(h1:0 < b):opB .mod (.int a) (.int b)=.ok (.int (a % b)):=by rw[Dk,s_ h1];rfl
theorem lu {n:Nat}(h:n<=16777216):f7 n=Δ:=s_ (by rw[line];exact h)
theorem jr {n:Nat}(h:n < 16777216):hU n=Δ:=s_ (by rw[line];exact h)
theorem rj {i:Int}(h1 : -4611686018427387904<=i)(h2:i < 4611686018427387904):j9 i=Δ:=s_ ⟨by omega,by omega⟩
theorem xP {α β:Type}(f:α->β)(xs:List α)(i:Int):atI (xs.map f) i=(atI xs i).map f:=by
 unfold atI;rw[f_];cases ixN xs.length i with
 |none=>rfl
 |some j=>exact EL ..
theorem nR {α:Type}{xs:List α}{i:Int}(d:α)(h0:0<=i)(h1:i < xs.length):atI xs i=Γ (xs.getD i.toNat d):=by
 unfold atI ixN;rw[c_ h0,c_ h1];show xs[i.toNat]? = _;have:i.toNat < xs.length:=by omega
 rw[EO,EK this];rfl
theorem x_i {o:Bool}{xs:List Int}{i:Int}(h0:0<=i)(h1:i < xs.length):gx (.lst o (xs.map .int)) (.int i)=.ok (.int (xs.getD i.toNat 0)):=by rw[x_l,xP,nR 0 h0 h1];rfl
theorem x_c {z:Str}{i:Int}(h0:0<=i)(h1:i < z.length)(hz:z.length<=16777216):gx (.str z) (.int i)=.ok (.str ⟨#[z.cps.toList.getD i.toNat 0]⟩):=by
 rw[x_s,lu hz];have hl:z.cps.toList.length=z.length:=by simp[Str.length]
 rw[nR 0 h0 (by rw[hl];exact h1)];rfl
theorem vp {α β:Type}(f:α->β)(xs:List α)(lo hi:Option Int):ik (xs.map f) lo hi=(ik xs lo hi).map f:=by unfold ik;rw[f_,List.map_take,List.map_drop]
noncomputable def fz:Bool->Option D->Option D
 |true,Γ d=>Γ (er d)
 |true,Ξ=>Ξ
 |false,o=>o
theorem eY {d:D}:fz Δ (Γ d)=Γ (er d):=rfl
theorem eZ {o:Option D}:fz Θ o=o:=rfl
theorem zp {is:List Nat}{k:Nat}{o:Option D}{τ:Ev}:jT is k (o::τ)=fz (is.contains k) o::jT is (k+1) τ:=by show(if is.contains k then o.map er else o)::jT is (k+1) τ=_;cases is.contains k<;>induction o using zO<;>rfl
theorem e7 {d:D}:vars (.c d)=[]:=rfl
theorem e8 {i:Nat}:vars (.v i)=[i]:=rfl
theorem b8 {o:BOp}{a b:IR}:vars (.bin o a b)=vars a++vars b:=rfl
theorem b9 {es:List IR}:vars (.tup es)=cw es:=rfl
theorem cf {es:List IR}:vars (.lst es)=cw es:=rfl
theorem aJ {f:Nat}{es:List IR}:vars (.call f es)=cw es:=rfl
theorem dG {f:Bi}{es:List IR}:vars (.bi f es)=cw es:=rfl
theorem cg {a i:IR}:vars (.idx a i)=vars a++vars i:=rfl
theorem dH:cw []=[]:=rfl
theorem dI {e:IR}{es:List IR}:cw (e::es)=vars e++cw es:=rfl
theorem aK {G:Gm}{fr:List Nat}{t:Tg}{s:Sr}{i:List IR}{e:IR}:fU (.comp G fr t s i e)=Δ:=rfl
theorem ck {a b:IR}:fU (.bin .add a b)=Δ:=rfl
theorem aL {es:List IR}:fU (.bi .list es)=Δ:=rfl
theorem cp {a i:IR}:fU (.idx a i)=Θ:=rfl
theorem Ds {e:IR}{o:Bool}{ds:List D}{τ:Ev}:fH e (.lst o ds) τ=cond (fU e) (cond (cA ds) (.lst Δ ds,τ) (cond (iI e ds) (.lst Δ (ds.map kg),τ) (.lst Δ (ers ds),frz (vars e) τ))) (.lst Θ (ers ds),frz (vars e) τ):=by
 unfold fH;rw[b_ (show ¬fE (.lst o ds)=Δ by intro z;cases z)];cases fU e
 ·exact Prod.ext (by show er (.lst o ds)=_;rw[er];rfl) rfl
 ·show(if cA ds=Δ then _ else if iI e ds=Δ then _ else _)=_;cases cA ds
  ·cases iI e ds<;>rfl
  ·rfl
theorem rl {body:D->Ev->Res Fl}(P:Nat->Ev->Prop):∀(its:List D) (k:Nat) (τ:Ev),P k τ->(∀(i:Nat) (x:D) (τ:Ev),its[i]? = Γ x->P (k+i) τ->∃τ',body x τ=.ok (.nx τ')/\P (k+i+1) τ')->∃τ',forM body its τ=.ok (.nx τ')/\P (k+its.length) τ'
 |[],k,τ,h,_=>⟨τ,rfl,h⟩
 |x::xs,k,τ,h,hb=>by
  obtain⟨τ1,e1,h1⟩:=hb 0 x τ rfl h;obtain⟨τ2,e2,h2⟩:=rl P xs (k+1) τ1 h1 fun i y σ hy hp=>by obtain⟨τ',e',h'⟩:=hb (i+1) y σ (by simpa using hy) (by rw[show k+(i+1)=k+1+i by omega];exact hp);exact⟨τ',e',by rw[show k+1+i+1=k+(i+1)+1 by omega];exact h'⟩
  refine⟨τ2,?_,by rw[List.length_cons,show k+(xs.length+1)=k+1+xs.length by omega];exact h2⟩;rw[cu,e1,cv,Dj,e2]
theorem nS {body:D->Ev->Res Fl}(P:Nat->Ev->Prop){its:List D}{τ:Ev}(h:P 0 τ)(hb:∀(i:Nat)(x:D)(τ:Ev),its[i]? = Γ x->P i τ->∃τ',body x τ=.ok (.nx τ')/\P (i+1) τ'):∃τ',forM body its τ=.ok (.nx τ')/\P its.length τ':=by
 obtain⟨τ',h1,h2⟩:=rl P its 0 τ h fun i x τ hx hp=>by rw[Nat.zero_add]at hp ⊢;exact hb i x τ hx hp
 exact⟨τ',h1,by rw[Nat.zero_add]at h2;exact h2⟩
theorem gC {α β:Type}{g:D->Res (Option D)}(emb:α->D)(out:α->β)(emb':β->D):∀(xs:List α),(∀x∈xs,g (emb x)=.ok (Γ (emb' (out x))))->fT g (xs.map emb)=.ok ((xs.map out).map emb')
 |[],_=>rfl
 |x::xs,h=>by show bnd (g (emb x)) _=_;rw[h x (by simp)];show bnd (fT g (xs.map emb)) _=_;rw[gC emb out emb' xs fun y hy=>h y (q_ _ hy)];rfl
theorem dJ {α:Type}{a:α}:noX (.ok a:Res α)=.ok a:=rfl
theorem vq (a b:Int):ir a b=((List.range (b - a).toNat).map fun k=>a+(k:Nat)).map .int:=by unfold ir;rw[EB];rfl
end
end Ev
end L2
namespace L2.Ev
theorem rs0 {o:Option D}{τ:Ev}:cq (o::τ) 0=o:=rfl
theorem rss {o:Option D}{τ:Ev}{i:Nat}:cq (o::τ) (i+1)=cq τ i:=rfl
theorem rfn {is:List Nat}{k:Nat}:jT is k []=[]:=rfl
theorem rct {a k:Nat}{l:List Nat}:List.contains (a::l) k=((k == a)||l.contains k):=rfl
theorem rcn {k:Nat}:List.contains [] k=Θ:=rfl
theorem fzI {b:Bool}{i:Int}:fz b (Γ (.int i))=Γ (.int i):=by cases b<;>rfl
theorem fzS {b:Bool}{i:PySem.Str}:fz b (Γ (.str i))=Γ (.str i):=by cases b<;>rfl
theorem fzN {b:Bool}:fz b Ξ=Ξ:=by cases b<;>rfl
end L2.Ev
namespace L2
open PySem
theorem Zaa {a b:Prop}(x:a)(y:b):a/\b:=⟨x,y⟩
noncomputable def ev0:=(Zaa (Zaa (Zaa (Zaa (Zaa @Ev.ko (Zaa @Ev.st_cio @Ev.Br)) (Zaa @Ev.xJ (Zaa @Ev.xK @Ev.lq))) (Zaa (Zaa @Ev.Bt (Zaa @Ev.mH @Ev.xM)) (Zaa @Ev.ve (Zaa @Ev.sU @Ev.zg)))) (Zaa (Zaa (Zaa @Ev.kb (Zaa @Ev.Dl @Ev.Dq)) (Zaa @Ev.zm (Zaa @Ev.nP @Ev.nQ))) (Zaa (Zaa @Ev.vk (Zaa @Ev.vm @Ev.vn)) (Zaa @Ev.zo (Zaa @Ev.lu @Ev.jr))))) (Zaa (Zaa (Zaa (Zaa @Ev.rj (Zaa @Ev.x_i @Ev.x_c)) (Zaa @Ev.zp (Zaa @Ev.Ds @Ev.vi))) (Zaa (Zaa @Ev.sV (Zaa @Bool.or_false @Bool.or_true)) (Zaa @List.replicate_succ.{0} (Zaa @List.replicate_zero.{0} @List.length_cons.{0})))) (Zaa (Zaa (Zaa @List.length_nil.{0} (Zaa @Nat.zero_add @decide_true)) (Zaa @Bool.and_self (Zaa @Bool.not_true @Bool.not_false))) (Zaa (Zaa @Bool.and_true (Zaa @Bool.true_and @beq_self_eq_true.{0})) (Zaa @if_true.{1} (Zaa @if_false.{1} @Bool.false_eq_true))))))
namespace Fr
noncomputable def zq:List IS:=[(.if_ (.cmp .lt (.v 1) (.bi .len [(.v 0)])) [(.ret (.idx (.v 0) (.v 1)))] []),(.ret (.c (.int 0)))]
end Fr
end L2
local macro_rules | `(tactic| simp! [$xs,*]) =>do
 let a ← ("Nat.reduceBEq Nat.reduceSub Nat.reduceAdd reduceIte Ev.rs0 Ev.rss Ev.dt Ev.du Ev.rfn Ev.rct Ev.rcn cond_true cond_false List.map_cons List.map_nil List.cons_append List.nil_append Bool.true_or Bool.false_or Ev.eU Ev.eV Ev.eW Ev.eX Ev.dD Ev.dE Ev.e7 Ev.e8 Ev.b8 Ev.aJ Ev.dH Ev.dI Ev.b9 Ev.cf Ev.dG Ev.cg Ev.aR Ev.cE Ev.ak Ev.aU Ev.aV Ev.aW Ev.cG Ev.aq Ev.aX Ev.aY Ev.cI Ev.ar Ev.aZ Ev.a7 Ev.a8 Ev.a9 Ev.ba Ev.cN Ev.au Ev.bc Ev.av Ev.bg Ev.bo Ev.bq Ev.aw Ev.ax Ev.cR Ev.cS Ev.az Ev.aA Ev.aa Ev.af Ev.aB Ev.bx Ev.cX Ev.cY Ev.bz Ev.cZ Ev.c4 Ev.bB Ev.ah Ev.bD Ev.aE Ev.bH Ev.aG Ev.bI Ev.bJ Ev.bK Ev.aH Ev.c5 Ev.aN Ev.aO Ev.bR Ev.bS Ev.bT Ev.aP Ev.c6 Ev.c7 Ev.bU Ev.bV Ev.aI Ev.bX Ev.cy Ev.dJ Ev.cv Ev.cB Ev.r_c Ev.r_g Ev.r_v Ev.cC Ev.cD Ev.aT Ev.cF Ev.ao Ev.cH Ev.dY Ev.cJ Ev.cK Ev.cL Ev.cM Ev.dZ Ev.bb Ev.d5 Ev.bf Ev.cO Ev.bh Ev.bj Ev.cP Ev.cQ Ev.br Ev.d6 Ev.d7 Ev.bt Ev.d8 Ev.d9 Ev.eh Ev.ei Ev.ay Ev.ej Ev.cT Ev.eA Ev.eB Ev.t_t Ev.o_v Ev.o_tup Ev.o_lst Ev.o_call Ev.o_c Ev.o_g Ev.cU Ev.cV Ev.eC Ev.eD Ev.o_dnew Ev.bu Ev.cW Ev.bw Ev.eE Ev.eF Ev.aC Ev.bA Ev.k_i Ev.k_s Ev.k_b Ev.k_n Ev.st_asg Ev.bC Ev.aD Ev.st_setix Ev.bE Ev.bG Ev.st_dset Ev.st_dof Ev.st_dupd Ev.st_reti Ev.bL Ev.bM Ev.bN Ev.bO Ev.bP Ev.st_mvx Ev.bQ Ev.st_dsety Ev.st_dsetp Ev.st_clrA Ev.cz Ev.st_app Ev.st_ret Ev.st_if Ev.st_for Ev.eG Ev.eI Ev.c8 Ev.c9 Ev.da Ev.dh Ev.dm Ev.cu Ev.eJ Ev.eK Ev.dn Ev.dq Ev.dv Ev.aQ Ev.bW Ev.dz Ev.x_t Ev.eL Ev.eM Ev.eN Ev.dW Ev.dX Ev.eO Ev.eP Ev.dS Ev.eQ Ev.eR Ev.eS Ev.eT Ev.n_n Ev.n_s Ev.dA Ev.dB Ev.bY Ev.bZ Ev.ai Ev.dC Ev.b7 Ev.eY Ev.eZ Ev.aK Ev.ck Ev.aL Ev.cp".splitOn " ").toArray.mapM fun s =>`(Lean.Parser.Tactic.simpLemma| $(Lean.mkIdent s.toName):ident)
 `(tactic| simp (disch :=omega) only [L2.ev0,$a,*,↓L2.Ev.fzI,↓L2.Ev.fzS,↓L2.Ev.fzN,$xs,*])
namespace Law
open PySem L2
noncomputable def top (i:Nat):Stmt:=PySem.Challenge.pw_flagroll_k08_shares_changed.main.body.getD i (.Pass ⟨0,0,0,0⟩)
noncomputable def Z:Sg:={nm:=(["PLACES","run_size","run_parted","run_joined","run_index","allot_new","face_at","shares_of","wanted_shares","rows_shrunk","rows_grown","allot_changed","_law_cell_at","_law_stream","_law_names","_law_normal","_law_cut","_law_count","_law_told_shares","_law_changed","_law_faces_right","law"]:List Str),kst:=[(21,(.int 10007))],fns:=[22,23,24,25,26,27,28,29,30,31,32,33,34,35,36,37,38,41,42],cls:=[],xt:=[],pl:=[],rc:=[],xm:=[],fio:=[39,40]}
noncomputable def b22:List IS:=
 [(.ret (.bi .sum [(.comp {N:=["low","high"],kd:=[.local,.local],gl:=[],df:=Θ} [] (.tp [(.nm 0),(.nm 1)]) (.val (.v 0)) [] (.bin .sub (.v 1) (.v 0)))]))]
noncomputable def d22:Fn:={np:=1,G:={N:=["run"],kd:=[.local],gl:=[1],df:=Δ},body:=b22}
noncomputable def b23:List IS:=
 [(.asg (.nm 2) (.lst [])),(.asg (.nm 3) (.lst [])),(.asg (.nm 4) (.v 1)),(.for_ (.tp [(.nm 5),(.nm 6)]) (.val (.v 0)) [(.asg (.nm 7) (.bi .min2 [(.bin .add (.v 5) (.v 4)),(.v 6)])),(.if_ (.cmp .lt (.v 5) (.v 7)) [(.app 2 (.tup [(.v 5),(.v 7)]))] []),(.if_ (.cmp .lt (.v 7) (.v 6)) [(.app 3 (.tup [(.v 7),(.v 6)]))] []),(.asg (.nm 4) (.bin .sub (.v 4) (.bin .sub (.v 7) (.v 5))))]),(.ret (.tup [(.v 2),(.v 3)]))]
noncomputable def d23:Fn:={np:=2,G:={N:=["run","many","first","rest","wanted","low","high","cut"],kd:=[.local,.local,.local,.local,.local,.local,.local,.local],gl:=[2],df:=Δ},body:=b23}
noncomputable def b24:List IS:=
 [(.if_ (.or_ (.cmp .eq (.v 0) (.lst [])) (.or_ (.cmp .eq (.v 1) (.lst [])) (.cmp .ne (.idx (.idx (.v 0) (.neg (.c (.int 1)))) (.c (.int 1))) (.idx (.idx (.v 1) (.c (.int 0))) (.c (.int 0)))))) [(.ret (.bin .add (.v 0) (.v 1)))] []),(.asg (.nm 2) (.tup [(.idx (.idx (.v 0) (.neg (.c (.int 1)))) (.c (.int 0))),(.idx (.idx (.v 1) (.c (.int 0))) (.c (.int 1)))])),(.ret (.bin .add (.bin .add (.sl (.v 0) Ξ (Γ (.neg (.c (.int 1))))) (.lst [(.v 2)])) (.sl (.v 1) (Γ (.c (.int 1))) Ξ)))]
noncomputable def d24:Fn:={np:=2,G:={N:=["one","other","seam"],kd:=[.local,.local,.local],gl:=[],df:=Δ},body:=b24}
noncomputable def b25:List IS:=
 [(.asg (.nm 2) (.c (.int 0))),(.for_ (.tp [(.nm 3),(.nm 4)]) (.val (.v 0)) [(.if_ (.chain .le .lt (.v 3) (.v 1) (.v 4)) [(.ret (.bin .sub (.bin .add (.v 2) (.v 1)) (.v 3)))] []),(.asg (.nm 2) (.bin .sub (.bin .add (.v 2) (.v 4)) (.v 3)))]),(.ret (.c .non))]
noncomputable def d25:Fn:={np:=2,G:={N:=["run","place","ahead","low","high"],kd:=[.local,.local,.local,.local,.local],gl:=[],df:=Δ},body:=b25}
noncomputable def b26:List IS:=
 [(.if_ (.cmp .lt (.lset (.v 0)) (.bi .len [(.v 0)])) [.never] []),(.ret (.tup [(.comp {N:=["face"],kd:=[.local],gl:=[],df:=Θ} [] (.nm 0) (.val (.v 0)) [] (.tup [(.v 0),(.lst [])])),(.lst [(.tup [(.c (.int 0)),(.g 21 (.int 10007))])])]))]
noncomputable def d26:Fn:={np:=1,G:={N:=["faces"],kd:=[.local],gl:=[0,12,21],df:=Δ},body:=b26}
noncomputable def b27:List IS:=
 [(.for_ (.tp [(.nm 2),(.nm 3)]) (.val (.idx (.v 0) (.c (.int 0)))) [(.if_ (.cmp .isn (.call 25 [(.v 3),(.v 1)]) (.c .non)) [(.ret (.v 2))] [])]),(.ret (.c .non))]
noncomputable def d27:Fn:={np:=2,G:={N:=["allot","place","face","run"],kd:=[.local,.local,.local,.local],gl:=[25],df:=Δ},body:=b27}
noncomputable def b28:List IS:=
 [(.ret (.comp {N:=["face","run"],kd:=[.local,.local],gl:=[22],df:=Θ} [] (.tp [(.nm 0),(.nm 1)]) (.val (.idx (.v 0) (.c (.int 0)))) [] (.tup [(.v 0),(.call 22 [(.v 1)])])))]
noncomputable def d28:Fn:={np:=1,G:={N:=["allot"],kd:=[.local],gl:=[],df:=Δ},body:=b28}
noncomputable def b29:List IS:=
 [(.dof 2 (.call 28 [(.v 0)])),(.asg (.nm 3) .dnew),(.for_ (.tp [(.nm 4),(.nm 5)]) (.val (.v 1)) [(.if_ (.din Δ (.v 4) (.v 2)) [.never] []),(.if_ (.din Θ (.v 4) (.v 3)) [.never] []),(.if_ (.cmp .lt (.v 5) (.c (.int 0))) [.never] []),(.dset 3 (.v 4) (.v 5))]),(.dupd 2 3),(.if_ (.cmp .gt (.dsum (.v 2)) (.g 21 (.int 10007))) [.never] []),(.ret (.v 2))]
noncomputable def d29:Fn:={np:=2,G:={N:=["allot","shares","wanted","told","face","places"],kd:=[.local,.local,.local,.local,.local,.local],gl:=[19,28,1,21],df:=Δ},body:=b29}
noncomputable def b30:List IS:=
 [(.asg (.nm 3) (.lst [])),(.for_ (.tp [(.nm 4),(.nm 5)]) (.val (.v 0)) [(.asg (.nm 6) (.call 23 [(.v 5),(.bi .min2 [(.dget (.v 2) (.v 4)),(.call 22 [(.v 5)])])])),(.app 3 (.tup [(.v 4),(.idx (.v 6) (.c (.int 0)))])),(.asg (.nm 1) (.call 24 [(.idx (.v 6) (.c (.int 1))),(.v 1)]))]),(.ret (.tup [(.v 3),(.v 1)]))]
noncomputable def d30:Fn:={np:=3,G:={N:=["rows","free","wanted","kept_rows","face","run","parted"],kd:=[.local,.local,.local,.local,.local,.local,.local],gl:=[23,2,22,24],df:=Δ},body:=b30}
noncomputable def b31:List IS:=
 [(.asg (.nm 3) (.lst [])),(.for_ (.tp [(.nm 4),(.nm 5)]) (.val (.v 0)) [(.asg (.nm 6) (.call 23 [(.v 1),(.bin .sub (.dget (.v 2) (.v 4)) (.call 22 [(.v 5)]))])),(.app 3 (.tup [(.v 4),(.call 24 [(.v 5),(.idx (.v 6) (.c (.int 0)))])])),(.mvx 1 6 1)]),(.ret (.tup [(.v 3),(.v 1)]))]
noncomputable def d31:Fn:={np:=3,G:={N:=["rows","free","wanted","grown_rows","face","run","parted"],kd:=[.local,.local,.local,.local,.local,.local,.local],gl:=[23,22,24],df:=Δ},body:=b31}
noncomputable def b32:List IS:=
 [(.asg (.nm 2) (.call 29 [(.v 0),(.v 1)])),(.asg (.nm 3) (.call 30 [(.idx (.v 0) (.c (.int 0))),(.bi .list [(.idx (.v 0) (.c (.int 1)))]),(.v 2)])),(.ret (.call 31 [(.idx (.v 3) (.c (.int 0))),(.idx (.v 3) (.c (.int 1))),(.v 2)]))]
noncomputable def d32:Fn:={np:=2,G:={N:=["allot","shares","wanted","shrunk"],kd:=[.local,.local,.local,.local],gl:=[29,30,5,31],df:=Δ},body:=b32}
noncomputable def b33:List IS:=
 [(.if_ (.cmp .lt (.v 1) (.bi .len [(.v 0)])) [(.ret (.idx (.v 0) (.v 1)))] []),(.ret (.c (.int 0)))]
noncomputable def d33:Fn:={np:=2,G:={N:=["_law_script","_law_k"],kd:=[.local,.local],gl:=[0],df:=Δ},body:=b33}
noncomputable def b34:List IS:=
 [(.asg (.nm 2) (.lst [])),(.asg (.nm 3) (.bin .add (.bin .mod (.v 0) (.c (.int 2147483647))) (.c (.int 1)))),(.for_ (.nm 4) (.rng1 (.v 1)) [(.asg (.nm 3) (.bin .mod (.bin .add (.bin .add (.bin .mul (.v 3) (.c (.int 48271))) (.bin .mul (.bin .mul (.c (.int 7)) (.v 4)) (.v 4))) (.c (.int 3))) (.c (.int 2147483647)))),(.app 2 (.bin .fdiv (.v 3) (.c (.int 16))))]),(.ret (.v 2))]
noncomputable def d34:Fn:={np:=2,G:={N:=["_law_cell","_law_many","_law_found","_law_number","_law_k"],kd:=[.local,.local,.local,.local,.local],gl:=[15],df:=Δ},body:=b34}
noncomputable def b35:List IS:=
 [(.asg (.nm 2) (.c (.str "abcdefghijklmnopqrstuvwxyz"))),(.asg (.nm 3) (.mth .join (.c (.str "")) [(.comp {N:=["_law_abc","_law_number"],kd:=[.cell,.local],gl:=[],df:=Θ} [2] (.nm 1) (.val (.call 34 [(.bin .fdiv (.v 0) (.c (.int 3))),(.c (.int 8))])) [] (.idx (.v 0) (.bin .mod (.v 1) (.c (.int 26)))))])),(.if_ (.and_ (.cmp .eq (.bin .mod (.v 0) (.c (.int 3))) (.c (.int 1))) (.cmp .le (.v 1) (.c (.int 8)))) [(.ret (.comp {N:=["_law_base","_law_k"],kd:=[.cell,.local],gl:=[],df:=Θ} [3] (.nm 1) (.rng1 (.v 1)) [] (.sl (.v 0) Ξ (Γ (.bin .add (.v 1) (.c (.int 1)))))))] []),(.asg (.nm 3) (.sl (.v 3) Ξ (Γ (.bin .add (.c (.int 1)) (.bin .mod (.bin .fdiv (.v 0) (.c (.int 3))) (.c (.int 8))))))),(.asg (.nm 4) (.bin .mod (.bin .fdiv (.v 0) (.c (.int 24))) (.bi .len [(.v 3)]))),(.ret (.comp {N:=["_law_base","_law_at","_law_abc","_law_cell","_law_k"],kd:=[.cell,.cell,.cell,.cell,.local],gl:=[],df:=Θ} [3,4,2,0] (.nm 4) (.rng1 (.v 1)) [] (.bin .add (.bin .add (.sl (.v 0) Ξ (Γ (.v 1))) (.idx (.v 2) (.bin .mod (.bin .add (.bin .fdiv (.v 3) (.c (.int 3))) (.bin .mul (.c (.int 7)) (.v 4))) (.c (.int 26))))) (.sl (.v 0) (Γ (.bin .add (.v 1) (.c (.int 1)))) Ξ))))]
noncomputable def d35:Fn:={np:=2,G:={N:=["_law_cell","_law_many","_law_abc","_law_base","_law_at"],kd:=[.cell,.local,.cell,.cell,.cell],gl:=[34,15,0],df:=Δ},body:=b35}
noncomputable def b36:List IS:=
 [(.asg (.nm 1) (.lst [])),(.for_ (.tp [(.nm 2),(.nm 3)]) (.val (.v 0)) [(.if_ (.and_ (.cmp .ne (.v 1) (.lst [])) (.cmp .eq (.idx (.idx (.v 1) (.neg (.c (.int 1)))) (.c (.int 1))) (.v 2))) [(.setix 1 (.neg (.c (.int 1))) (.tup [(.idx (.idx (.v 1) (.neg (.c (.int 1)))) (.c (.int 0))),(.v 3)]))] [(.app 1 (.tup [(.v 2),(.v 3)]))])]),(.ret (.v 1))]
noncomputable def d36:Fn:={np:=1,G:={N:=["_law_pieces","_law_found","_law_low","_law_high"],kd:=[.local,.local,.local,.local],gl:=[],df:=Δ},body:=b36}
noncomputable def b37:List IS:=
 [(.asg (.nm 2) (.lst [])),(.asg (.nm 3) (.lst [])),(.for_ (.tp [(.nm 4),(.nm 5)]) (.val (.v 0)) [(.asg (.nm 6) (.bi .min2 [(.v 5),(.bin .add (.v 4) (.v 1))])),(.asg (.nm 1) (.bin .sub (.v 1) (.bin .sub (.v 6) (.v 4)))),(.if_ (.cmp .lt (.v 4) (.v 6)) [(.app 2 (.tup [(.v 4),(.v 6)]))] []),(.if_ (.cmp .lt (.v 6) (.v 5)) [(.app 3 (.tup [(.v 6),(.v 5)]))] [])]),(.ret (.tup [(.v 2),(.v 3)]))]
noncomputable def d37:Fn:={np:=2,G:={N:=["_law_run","_law_many","_law_first","_law_rest","_law_low","_law_high","_law_amid"],kd:=[.local,.local,.local,.local,.local,.local,.local],gl:=[2],df:=Δ},body:=b37}
noncomputable def b38:List IS:=
 [(.ret (.bi .sum [(.comp {N:=["_law_low","_law_high"],kd:=[.local,.local],gl:=[],df:=Θ} [] (.tp [(.nm 0),(.nm 1)]) (.val (.v 0)) [] (.bin .sub (.v 1) (.v 0)))]))]
noncomputable def d38:Fn:={np:=1,G:={N:=["_law_run"],kd:=[.local],gl:=[1],df:=Δ},body:=b38}
noncomputable def b39:List IS:=
 [(.asg (.nm 3) (.call 34 [(.v 0),(.bin .add (.bin .mul (.c (.int 3)) (.bi .len [(.v 1)])) (.c (.int 2)))])),(.asg (.nm 4) (.lst [])),(.for_ (.nm 5) (.rng1 (.bi .len [(.v 1)])) [(.asg (.nm 6) (.idx (.v 1) (.bin .mod (.bin .add (.v 5) (.idx (.v 3) (.c (.int 0)))) (.bi .len [(.v 1)])))),(.asg (.nm 7) (.bin .sub (.c (.int 10007)) (.bi .sum [(.comp {N:=["_law_due","_law_face","_law_own"],kd:=[.cell,.cell,.local],gl:=[],df:=Θ} [2,6] (.nm 2) (.val (.v 1)) [(.cmp .ne (.v 2) (.v 1))] (.dget (.v 0) (.v 2)))]))),(.if_ (.cmp .gt (.bin .mod (.idx (.v 3) (.bin .add (.bin .mul (.c (.int 3)) (.v 5)) (.c (.int 2)))) (.c (.int 3))) (.c (.int 0))) [(.asg (.nm 8) (.bi .max2 [(.c (.int 0)),(.bin .sub (.dget (.v 2) (.v 6)) (.bin .mod (.idx (.v 3) (.bin .add (.bin .mul (.c (.int 3)) (.v 5)) (.c (.int 4)))) (.c (.int 5))))])),(.asg (.nm 9) (.idx (.lst [(.bin .mod (.idx (.v 3) (.bin .add (.bin .mul (.c (.int 3)) (.v 5)) (.c (.int 3)))) (.bin .add (.v 7) (.c (.int 1)))),(.v 7),(.c (.int 0)),(.v 8)]) (.bin .mod (.bin .fdiv (.idx (.v 3) (.bin .add (.bin .mul (.c (.int 3)) (.v 5)) (.c (.int 4)))) (.c (.int 8))) (.c (.int 4))))),(.if_ (.cmp .eq (.bin .mod (.bin .fdiv (.idx (.v 3) (.bin .add (.bin .mul (.c (.int 3)) (.v 5)) (.c (.int 4)))) (.c (.int 32))) (.c (.int 3))) (.c (.int 0))) [(.asg (.nm 9) (.bi .min2 [(.v 7),(.bin .add (.dget (.v 2) (.v 6)) (.bin .mod (.idx (.v 3) (.bin .add (.bin .mul (.c (.int 3)) (.v 5)) (.c (.int 3)))) (.c (.int 7))))]))] []),(.dset 2 (.v 6) (.v 9)),(.app 4 (.tup [(.v 6),(.v 9)]))] [])]),(.reti 2 (.v 4))]
noncomputable def d39:Fn:={np:=3,G:={N:=["_law_cell","_law_faces","_law_due","_law_xs","_law_told","_law_k","_law_face","_law_room","_law_less","_law_places"],kd:=[.local,.local,.cell,.local,.local,.local,.cell,.local,.local,.local],gl:=[34,0,15,1,3,2],df:=Δ,io:=Γ 2},body:=b39,io:=Δ}
noncomputable def b40:List IS:=
 [(.for_ (.nm 4) (.val (.v 0)) [(.dsetp 1 (.v 4) 5 (.call 37 [(.dget (.v 1) (.v 4)),(.dget (.v 3) (.v 4))])),(.asg (.nm 2) (.call 36 [(.bin .add (.v 5) (.v 2))]))]),(.for_ (.nm 4) (.val (.v 0)) [(.asg (.tp [(.nm 6),(.nm 2)]) (.call 37 [(.v 2),(.bin .sub (.dget (.v 3) (.v 4)) (.call 38 [(.dget (.v 1) (.v 4))]))])),(.dsety 1 (.v 4) (.call 36 [(.bin .add (.dget (.v 1) (.v 4)) (.v 6))]))]),(.reti 1 (.v 2))]
noncomputable def d40:Fn:={np:=4,G:={N:=["_law_faces","_law_rows","_law_free","_law_due","_law_face","_law_given","_law_taken"],kd:=[.local,.local,.local,.local,.local,.local,.local],gl:=[37,36,38],df:=Δ,io:=Γ 1},body:=b40,io:=Δ}
noncomputable def b41:List IS:=
 [(.for_ (.nm 4) (.val (.bin .add (.v 1) (.lst [(.c .non)]))) [(.asg (.nm 5) (.v 3)),(.if_ (.cmp .isn (.v 4) (.c .non)) [(.asg (.nm 5) (.dget (.v 2) (.v 4)))] []),(.for_ (.tp [(.nm 6),(.nm 7)]) (.val (.v 5)) [(.for_ (.nm 8) (.val (.tup [(.v 6),(.bin .sub (.v 7) (.c (.int 1)))])) [(.if_ (.cmp .ne (.call 27 [(.v 0),(.v 8)]) (.v 4)) [(.ret (.c (.bl Θ)))] [])])])]),(.ret (.c (.bl Δ)))]
noncomputable def d41:Fn:={np:=4,G:={N:=["_law_allot","_law_faces","_law_rows","_law_free","_law_face","_law_run","_law_low","_law_high","_law_place"],kd:=[.local,.local,.local,.local,.local,.local,.local,.local,.local],gl:=[27],df:=Δ},body:=b41}
noncomputable def b42:List IS:=
 [(.asg (.nm 1) (.call 35 [(.call 33 [(.v 0),(.c (.int 0))]),(.bin .add (.c (.int 1)) (.bin .mod (.call 33 [(.v 0),(.c (.int 1))]) (.c (.int 6))))])),(.asg (.nm 2) .dnew),(.asg (.nm 3) .dnew),(.for_ (.nm 4) (.val (.v 1)) [(.dsety 2 (.v 4) (.lst [])),(.dset 3 (.v 4) (.c (.int 0)))]),(.asg (.nm 5) (.lst [(.tup [(.c (.int 0)),(.c (.int 10007))])])),(.asg (.nm 6) (.call 26 [(.bi .list [(.v 1)])])),(.for_ (.nm 7) (.val (.bin .add (.call 34 [(.call 33 [(.v 0),(.c (.int 1))]),(.c (.int 2))]) (.sl (.v 0) (Γ (.c (.int 2))) (Γ (.c (.int 14)))))) [(.cio 8 39 [(.v 7),(.v 1)] 3 [] Ξ),(.cio 5 40 [(.v 1)] 2 [(.v 5),(.v 3)] (Γ 3)),(.asg (.nm 9) (.tup [(.comp {N:=["_law_face","_law_run"],kd:=[.local,.local],gl:=[5],df:=Θ} [] (.tp [(.nm 0),(.nm 1)]) (.val (.idx (.v 6) (.c (.int 0)))) [] (.tup [(.v 0),(.bi .list [(.v 1)])])),(.bi .list [(.idx (.v 6) (.c (.int 1)))])])),(.asg (.nm 10) (.bi .list [(.v 8)])),(.asg (.nm 11) (.call 32 [(.v 6),(.v 10)])),(.if_ (.or_ (.not_ (.isi (.v 11) .tuple)) (.cmp .ne (.v 11) (.tup [(.comp {N:=["_law_rows","_law_face"],kd:=[.cell,.local],gl:=[],df:=Θ} [2] (.nm 1) (.val (.v 1)) [] (.tup [(.v 1),(.dget (.v 0) (.v 1))])),(.v 5)]))) [(.ret (.c (.bl Θ)))] []),(.if_ (.or_ (.cmp .ne (.v 10) (.v 8)) (.or_ (.cmp .ne (.v 6) (.v 9)) (.not_ (.call 41 [(.v 11),(.v 1),(.v 2),(.v 5)])))) [(.ret (.c (.bl Θ)))] []),(.if_ (.cmp .ne (.call 28 [(.v 11)]) (.comp {N:=["_law_due","_law_face"],kd:=[.cell,.local],gl:=[],df:=Θ} [3] (.nm 1) (.val (.v 1)) [] (.tup [(.v 1),(.dget (.v 0) (.v 1))]))) [(.ret (.c (.bl Θ)))] []),(.clrA 4 12 6),(.if_ (.cmp .ne (.v 11) (.tup [(.comp {N:=["_law_rows","_law_face"],kd:=[.cell,.local],gl:=[],df:=Θ} [2] (.nm 1) (.val (.v 1)) [] (.tup [(.v 1),(.dget (.v 0) (.v 1))])),(.v 5)])) [(.ret (.c (.bl Θ)))] []),(.mov 6 11)]),(.ret (.c (.bl Δ)))]
noncomputable def d42:Fn:={np:=1,G:={N:=["_law_script","_law_faces","_law_rows","_law_due","_law_face","_law_free","_law_allot","_law_cell","_law_told","_law_before","_law_handed","_law_found","_law_run"],kd:=[.local,.local,.cell,.cell,.local,.local,.local,.local,.local,.local,.local,.local,.local],gl:=[35,33,26,5,34,39,40,32,14,6,41,28],df:=Δ},body:=b42}
noncomputable def T:Tb:=fun n=>match n with
 |22=>Γ d22
 |23=>Γ d23
 |24=>Γ d24
 |25=>Γ d25
 |26=>Γ d26
 |27=>Γ d27
 |28=>Γ d28
 |29=>Γ d29
 |30=>Γ d30
 |31=>Γ d31
 |32=>Γ d32
 |33=>Γ d33
 |34=>Γ d34
 |35=>Γ d35
 |36=>Γ d36
 |37=>Γ d37
 |38=>Γ d38
 |39=>Γ d39
 |40=>Γ d40
 |41=>Γ d41
 |42=>Γ d42
 |_=>Ξ
theorem c22:fJ Z d22 ["run"] (top 8)=Δ:=by decide +kernel
theorem c23:fJ Z d23 ["run","many"] (top 9)=Δ:=by decide +kernel
theorem c24:fJ Z d24 ["one","other"] (top 10)=Δ:=by decide +kernel
theorem c25:fJ Z d25 ["run","place"] (top 11)=Δ:=by decide +kernel
theorem c26:fJ Z d26 ["faces"] (top 13)=Δ:=by decide +kernel
theorem c27:fJ Z d27 ["allot","place"] (top 14)=Δ:=by decide +kernel
theorem c28:fJ Z d28 ["allot"] (top 15)=Δ:=by decide +kernel
theorem c29:fJ Z d29 ["allot","shares"] (top 16)=Δ:=by decide +kernel
theorem c30:fJ Z d30 ["rows","free","wanted"] (top 17)=Δ:=by decide +kernel
theorem c31:fJ Z d31 ["rows","free","wanted"] (top 18)=Δ:=by decide +kernel
theorem c32:fJ Z d32 ["allot","shares"] (top 19)=Δ:=by decide +kernel
theorem c33:fJ Z d33 ["_law_script","_law_k"] (top 21)=Δ:=by decide +kernel
theorem c34:fJ Z d34 ["_law_cell","_law_many"] (top 22)=Δ:=by decide +kernel
theorem c35:fJ Z d35 ["_law_cell","_law_many"] (top 23)=Δ:=by decide +kernel
theorem c36:fJ Z d36 ["_law_pieces"] (top 24)=Δ:=by decide +kernel
theorem c37:fJ Z d37 ["_law_run","_law_many"] (top 25)=Δ:=by decide +kernel
theorem c38:fJ Z d38 ["_law_run"] (top 26)=Δ:=by decide +kernel
theorem c39:jH Z d39 ["_law_cell","_law_faces","_law_due"] (top 27)=Δ:=by decide +kernel
theorem c40:jH Z d40 ["_law_faces","_law_rows","_law_free","_law_due"] (top 28)=Δ:=by decide +kernel
theorem c41:fJ Z d41 ["_law_allot","_law_faces","_law_rows","_law_free"] (top 29)=Δ:=by decide +kernel
theorem c42:fJ Z d42 ["_law_script"] (top 30)=Δ:=by decide +kernel
theorem Bw:∀n x,Z.name n=Γ x->x≠"__name__"/\(x == ("__debug__" : Str))=Θ:=by
 have h:(gq++Z.nm).all (fun x=>!(x == "__name__")&&!(x == "__debug__"))=Δ:=by decide +kernel
 intro n x hx;have:=ED.mp h x (EM hx);simpa using this
@[elab_as_elim] theorem lnS {P:List Φ->Prop}{n:Nat} (us:List Φ) (e:us.length=n+1) (h:∀(x:Φ) (us:List Φ),us.length=n->P (x::us)):P us:=by
 cases us with
 |nil=>cases e
 |cons x us=>exact h x us (Nat.succ.inj e)
@[elab_as_elim] theorem lnZ {P:List Φ->Prop} (us:List Φ) (e:us.length=0) (h:P []):P us:=by
 cases us with
 |nil=>exact h
 |cons x us=>cases e
theorem ln1 {fd:Ν}{ps:List Str}(h:∀x0:Φ,bindArgs fd ⟨[x0],[]⟩=pure (ps.zip [x0]))(us:List Φ)(e:us.length=1):bindArgs fd ⟨us,[]⟩=pure (ps.zip us):=lnS us e fun x0 us e=>lnZ us e (h x0)
theorem ln2 {fd:Ν}{ps:List Str}(h:∀x0 x1:Φ,bindArgs fd ⟨[x0,x1],[]⟩=pure (ps.zip [x0,x1]))(us:List Φ)(e:us.length=2):bindArgs fd ⟨us,[]⟩=pure (ps.zip us):=lnS us e fun x0 us e=>lnS us e fun x1 us e=>lnZ us e (h x0 x1)
theorem ln3 {fd:Ν}{ps:List Str}(h:∀x0 x1 x2:Φ,bindArgs fd ⟨[x0,x1,x2],[]⟩=pure (ps.zip [x0,x1,x2]))(us:List Φ)(e:us.length=3):bindArgs fd ⟨us,[]⟩=pure (ps.zip us):=lnS us e fun x0 us e=>lnS us e fun x1 us e=>lnS us e fun x2 us e=>lnZ us e (h x0 x1 x2)
theorem ln4 {fd:Ν}{ps:List Str}(h:∀x0 x1 x2 x3:Φ,bindArgs fd ⟨[x0,x1,x2,x3],[]⟩=pure (ps.zip [x0,x1,x2,x3]))(us:List Φ)(e:us.length=4):bindArgs fd ⟨us,[]⟩=pure (ps.zip us):=lnS us e fun x0 us e=>lnS us e fun x1 us e=>lnS us e fun x2 us e=>lnS us e fun x3 us e=>lnZ us e (h x0 x1 x2 x3)
theorem dfo {f:Nat}{x:Str}{fn:Fn}{st:Stmt}{fa:Ψ}{ps:List Str}{K:W.Frag}{h:Heap}{mg:Str->Option Φ}{oc:Φ}{od an:Option Ψ}{sl:Array (Option Φ)}{kV dc pm cd ct:Φ}(c:fJ Z fn ps st=Δ)(hT:T f=Γ fn)(b:∀(kV dc pm:Φ)(an:Option Ψ)(cd ct:Φ)(us:List Φ),us.length=ps.length->bindArgs (W.fnOf x x (gO st) (fY st) (fg st) .none kV dc pm an cd ct) ⟨us,[]⟩=pure (ps.zip us))(X:K.In h)(G:h.Ns Ζ mg)
  (a:W.nsIn K Ζ x=Γ (Γ (.ref fa))) (l:K.lookup fa=Γ ⟨oc,od,.func (W.fnOf x x (gO st) (fY st) (fg st) .none kV dc pm an cd ct),sl⟩) (e:W.codeIn K cd x=Δ) (k:W.keepIn K (.ref fa)=Δ):DefOk K mg Z T f x:=⟨fn,st,fa,_,ps,hT,kz l e k,W.mg_of X G a,(kz l e k).binds b,o6 c⟩
theorem Dt {f:Nat}{x:Str}{fn:Fn}{st:Stmt}{fa:Ψ}{ps:List Str}{K:W.Frag}{h:Heap}{mg:Str->Option Φ}{oc:Φ}{od an:Option Ψ}{sl:Array (Option Φ)}{kV dc pm cd ct:Φ}(c:jH Z fn ps st=Δ)(hT:T f=Γ fn)(b:∀(kV dc pm:Φ)(an:Option Ψ)(cd ct:Φ)(us:List Φ),us.length=ps.length->bindArgs (W.fnOf x x (gO st) (fY st) (fg st) .none kV dc pm an cd ct) ⟨us,[]⟩=pure (ps.zip us))(X:K.In h)(G:h.Ns Ζ mg)
  (a:W.nsIn K Ζ x=Γ (Γ (.ref fa))) (l:K.lookup fa=Γ ⟨oc,od,.func (W.fnOf x x (gO st) (fY st) (fg st) .none kV dc pm an cd ct),sl⟩) (e:W.codeIn K cd x=Δ) (k:W.keepIn K (.ref fa)=Δ):DefOI K mg Z T f x:=⟨fn,st,fa,_,ps,hT,kz l e k,W.mg_of X G a,(kz l e k).binds b,uW c⟩
noncomputable def xQ:Nat:=42
noncomputable def xR:Str:="_law_script"
theorem all_mk {l:PySem.W.OpenLaw}{w:Α}{fa:Ψ}{K:W.Frag}{h:Heap}{mg:Str->Option Φ}{f42:Ψ}{od42 an42:Option Ψ}{sl42:Array (Option Φ)}{oc42 kV42 dc42 pm42 cd42 ct42:Φ}{t21:Tok}(X:K.In h)(G:h.Ns Ζ mg)(hfa:mg "law" = Γ (.ref fa))
  (t22:DefOk K mg Z T 22 "run_size")
  (t23:DefOk K mg Z T 23 "run_parted")
  (t24:DefOk K mg Z T 24 "run_joined")
  (t25:DefOk K mg Z T 25 "run_index")
  (t26:DefOk K mg Z T 26 "allot_new")
  (t27:DefOk K mg Z T 27 "face_at")
  (t28:DefOk K mg Z T 28 "shares_of")
  (t29:DefOk K mg Z T 29 "wanted_shares")
  (t30:DefOk K mg Z T 30 "rows_shrunk")
  (t31:DefOk K mg Z T 31 "rows_grown")
  (t32:DefOk K mg Z T 32 "allot_changed")
  (t33:DefOk K mg Z T 33 "_law_cell_at")
  (t34:DefOk K mg Z T 34 "_law_stream")
  (t35:DefOk K mg Z T 35 "_law_names")
  (t36:DefOk K mg Z T 36 "_law_normal")
  (t37:DefOk K mg Z T 37 "_law_cut")
  (t38:DefOk K mg Z T 38 "_law_count")
  (t39:DefOI K mg Z T 39 "_law_told_shares")
  (t40:DefOI K mg Z T 40 "_law_changed")
  (t41:DefOk K mg Z T 41 "_law_faces_right")
  (a42:W.nsIn K Ζ "law" = Γ (Γ (.ref f42))) (l42:K.lookup f42=Γ ⟨oc42,od42,.func (W.fnOf "law" "law" (gO (top 30)) (fY (top 30)) (fg (top 30)) .none kV42 dc42 pm42 an42 cd42 ct42),sl42⟩) (e42:W.codeIn K cd42 "law" = Δ) (k42:W.keepIn K (.ref f42)=Δ)
  (q21:W.nsIn K Ζ "PLACES" = Γ (Γ (.int 10007 t21)))
  (z0:W.nsIn K Ζ "len" = Γ Ξ)
  (z1:W.nsIn K Ζ "sum" = Γ Ξ)
  (z2:W.nsIn K Ζ "min" = Γ Ξ)
  (z3:W.nsIn K Ζ "max" = Γ Ξ)
  (z4:W.nsIn K Ζ "sorted" = Γ Ξ)
  (z5:W.nsIn K Ζ "list" = Γ Ξ)
  (z6:W.nsIn K Ζ "tuple" = Γ Ξ)
  (z7:W.nsIn K Ζ "ord" = Γ Ξ)
  (z8:W.nsIn K Ζ "int" = Γ Ξ)
  (z9:W.nsIn K Ζ "all" = Γ Ξ)
  (z10:W.nsIn K Ζ "any" = Γ Ξ)
  (z11:W.nsIn K Ζ "str" = Γ Ξ)
  (z12:W.nsIn K Ζ "set" = Γ Ξ)
  (z13:W.nsIn K Ζ "abs" = Γ Ξ)
  (z14:W.nsIn K Ζ "isinstance" = Γ Ξ)
  (z15:W.nsIn K Ζ "range" = Γ Ξ)
  (z16:W.nsIn K Ζ "bool" = Γ Ξ)
  (z17:W.nsIn K Ζ "zip" = Γ Ξ)
  (z18:W.nsIn K Ζ "reversed" = Γ Ξ)
  (z19:W.nsIn K Ζ "dict" = Γ Ξ)
  (z20:W.nsIn K Ζ "enumerate" = Γ Ξ) :
  ∃fd:Ν,(∀(s:Ω) (v:Φ),BindsTo s fd ⟨[v],[]⟩ [(xR,v)])/\∀base:Heap,K.In base->base.Ns Ζ mg->FnOk l.prog w K mg base (CX1 l.prog w) (16+1) fa fd [xR] (spL K (aj T (16+1)) xQ [xR]):=by
 have e:=hfa.symm.trans (PySem.W.mg_of X G a42);cases e;have t:TopOk K mg Z T:=by
  constructor
  case nam=>
   exact Bw
  case blt=>
   exact fun n x hx=>by
    have key:∀y∈gq,mg y=Ξ:=by
     intro y hy;simp only[gq,j_,List.not_mem_nil,or_false]at hy;rcases hy with rfl|rfl|rfl|rfl|rfl|rfl|rfl|rfl|rfl|rfl|rfl|rfl|rfl|rfl|rfl|rfl|rfl|rfl|rfl|rfl|rfl
     ·exact EE X G z0
     ·exact EE X G z1
     ·exact EE X G z2
     ·exact EE X G z3
     ·exact EE X G z4
     ·exact EE X G z5
     ·exact EE X G z6
     ·exact EE X G z7
     ·exact EE X G z8
     ·exact EE X G z9
     ·exact EE X G z10
     ·exact EE X G z11
     ·exact EE X G z12
     ·exact EE X G z13
     ·exact EE X G z14
     ·exact EE X G z15
     ·exact EE X G z16
     ·exact EE X G z17
     ·exact EE X G z18
     ·exact EE X G z19
     ·exact EE X G z20
    exact key x (EM hx)
  case cst=>
   exact fun n d x hm hx=>by
    have hm':(n,d)∈([(21,(.int 10007))]:List (Nat×D)):=hm;simp only[j_,List.not_mem_nil,or_false,Prod.mk.injEq]at hm';rcases hm' with⟨rfl,rfl⟩
    ·cases hx;exact⟨_,.int _,PySem.W.mg_of X G q21,⟨_,rfl⟩,fun _ _=>.int _⟩
  case fns=>
   exact fun f hf x hx=>by
    have hf':f∈([22,23,24,25,26,27,28,29,30,31,32,33,34,35,36,37,38,41,42]:List Nat):=hf;simp only[j_,List.not_mem_nil,or_false]at hf';rcases hf' with rfl|rfl|rfl|rfl|rfl|rfl|rfl|rfl|rfl|rfl|rfl|rfl|rfl|rfl|rfl|rfl|rfl|rfl|rfl
    ·cases hx;exact t22
    ·cases hx;exact t23
    ·cases hx;exact t24
    ·cases hx;exact t25
    ·cases hx;exact t26
    ·cases hx;exact t27
    ·cases hx;exact t28
    ·cases hx;exact t29
    ·cases hx;exact t30
    ·cases hx;exact t31
    ·cases hx;exact t32
    ·cases hx;exact t33
    ·cases hx;exact t34
    ·cases hx;exact t35
    ·cases hx;exact t36
    ·cases hx;exact t37
    ·cases hx;exact t38
    ·cases hx;exact t41
    ·cases hx;exact dfo c42 rfl (fun _ _ _ _ _ _=>ln1 fun _=>rfl) X G a42 l42 e42 k42
  case fio=>
   exact fun f hf x hx=>by
    have hf':f∈([39,40]:List Nat):=hf;simp only[j_,List.not_mem_nil,or_false]at hf';rcases hf' with rfl|rfl
    ·cases hx;exact t39
    ·cases hx;exact t40
  case plc=>
   exact fun f hf=>absurd (show f∈([]:List Nat) from hf) (by simp)
  case xcv=>
   exact fun n hn=>absurd (show n∈([]:List Nat) from hn) (by simp)
  case xcl=>
   exact fun c n b x hm=>absurd (show(c,n,b)∈([]:List (Str×Nat×Bool)) from hm) (by simp)
  case xmt=>
   exact fun c n x hm=>absurd (show(c,n)∈([]:List (Str×Nat)) from hm) (by simp)
  case xrs=>
   exact fun n c hm=>absurd (show(n,c)∈([]:List (Nat×Str)) from hm) (by simp)
 exact⟨PySem.W.fnOf "law" "law" (gO (top 30)) (fY (top 30)) (fg (top 30)) .none kV42 dc42 pm42 an42 cd42 ct42,fun s v=>.of_eq rfl,fun base _ _=>Ba t 16 (by decide) (f:=42) (fn:=d42) rfl (kz (st:=top 30) l42 e42 k42) (o6 c42)⟩
end Law
namespace L2
open PySem PySem.Spec PyProof.Rows PySem.SeqAt
namespace Fr
variable {T:Tb}
theorem cell {f:Nat}{fn:Fn}(hT:T f=Γ fn)(h0:fn.io=Θ)(h1:fn.np=2)(h2:fn.G.N.length=2)(h3:fn.body=zq)(n:Nat)(ns:List Int)(k:Int)(hk:0<=k):aj T (n+1) f [.lst Θ (ns.map .int),.int k]=.ok (.int (ns.getD k.toNat 0)):=by
 rw[Ev.go hT h0 h1 h2 h3 rfl];unfold zq;by_cases h:k < (ns.length:Int)
 ·have hd:decide (k < (((ns.map D.int).length:Nat):Int))=Δ:=s_ (by rw[f_];exact h);simp -implicitDefEqProofs (disch:=omega) only[ev0,Nat.reduceBEq,Nat.reduceSub,Nat.reduceAdd,reduceIte,Ev.rs0,Ev.rss,Ev.dt,Ev.du,↓Ev.fzI,↓Ev.fzS,↓Ev.fzN,Ev.rfn,Ev.rct,Ev.rcn,cond_true,cond_false,a_,List.map_nil,e_,List.nil_append,Bool.true_or,Bool.false_or,Ev.eU,Ev.eV,Ev.eW,Ev.eX,Ev.dD,Ev.dE,Ev.e7,Ev.e8,Ev.b8,Ev.aJ,Ev.dH,Ev.dI,Ev.b9,Ev.cf,Ev.dG,Ev.cg,Ev.aR,Ev.cE,Ev.ak,Ev.aU,Ev.aV,Ev.aW,Ev.cG,Ev.aq,Ev.aX,Ev.aY,Ev.cI,Ev.ar,Ev.aZ,Ev.a7,Ev.a8,Ev.a9,Ev.ba,Ev.cN,Ev.au,Ev.bc,Ev.av,Ev.bg,Ev.bo,Ev.bq,Ev.aw,Ev.ax,Ev.cR,Ev.cS,Ev.az,Ev.aA,Ev.aa,Ev.af,Ev.aB,Ev.bx,Ev.cX,Ev.cY,Ev.bz,Ev.cZ,Ev.c4,Ev.bB,Ev.ah,Ev.bD,Ev.aE,Ev.bH,Ev.aG,Ev.bI,Ev.bJ,Ev.bK,Ev.aH,Ev.c5,Ev.aN,Ev.aO,Ev.bR,Ev.bS,Ev.bT,Ev.aP,Ev.c6,Ev.c7,Ev.bU,Ev.bV,Ev.aI,Ev.bX,Ev.cy,Ev.dJ,Ev.cv,Ev.cB,Ev.r_c,Ev.r_g,Ev.r_v,Ev.cC,Ev.cD,Ev.aT,Ev.cF,Ev.ao,Ev.cH,Ev.dY,Ev.cJ,Ev.cK,Ev.cL,Ev.cM,Ev.dZ,Ev.bb,Ev.d5,Ev.bf,Ev.cO,Ev.bh,Ev.bj,Ev.cP,Ev.cQ,Ev.br,Ev.d6,Ev.d7,Ev.bt,Ev.d8,Ev.d9,Ev.eh,Ev.ei,Ev.ay,Ev.ej,Ev.cT,Ev.eA,Ev.eB,Ev.t_t,Ev.o_v,Ev.o_tup,Ev.o_lst,Ev.o_call,Ev.o_c,Ev.o_g,Ev.cU,Ev.cV,Ev.eC,Ev.eD,Ev.o_dnew,Ev.bu,Ev.cW,Ev.bw,Ev.eE,Ev.eF,Ev.aC,Ev.bA,Ev.k_i,Ev.k_s,Ev.k_b,Ev.k_n,Ev.st_asg,Ev.bC,Ev.aD,Ev.st_setix,Ev.bE,Ev.bG,Ev.st_dset,Ev.st_dof,Ev.st_dupd,Ev.st_reti,Ev.bL,Ev.bM,Ev.bN,Ev.bO,Ev.bP,Ev.st_mvx,Ev.bQ,Ev.st_dsety,Ev.st_dsetp,Ev.st_clrA,Ev.cz,Ev.st_app,Ev.st_ret,Ev.st_if,Ev.st_for,Ev.eG,Ev.eI,Ev.c8,Ev.c9,Ev.da,Ev.dh,Ev.dm,Ev.cu,Ev.eJ,Ev.eK,Ev.dn,Ev.dq,Ev.dv,Ev.aQ,Ev.bW,Ev.dz,Ev.x_t,Ev.eL,Ev.eM,Ev.eN,Ev.dW,Ev.dX,Ev.eO,Ev.eP,Ev.dS,Ev.eQ,Ev.eR,Ev.eS,Ev.eT,Ev.n_n,Ev.n_s,Ev.dA,Ev.dB,Ev.bY,Ev.bZ,Ev.ai,Ev.dC,Ev.b7,Ev.eY,Ev.eZ,Ev.aK,Ev.ck,Ev.aL,Ev.cp,hd]
 ·have hd:decide (k < (((ns.map D.int).length:Nat):Int))=Θ:=p_ (by rw[f_];exact h);simp -implicitDefEqProofs (disch:=omega) only[ev0,Nat.reduceBEq,Nat.reduceSub,Nat.reduceAdd,reduceIte,Ev.rs0,Ev.rss,Ev.dt,Ev.du,↓Ev.fzI,↓Ev.fzS,↓Ev.fzN,Ev.rfn,Ev.rct,Ev.rcn,cond_true,cond_false,a_,List.map_nil,e_,List.nil_append,Bool.true_or,Bool.false_or,Ev.eU,Ev.eV,Ev.eW,Ev.eX,Ev.dD,Ev.dE,Ev.e7,Ev.e8,Ev.b8,Ev.aJ,Ev.dH,Ev.dI,Ev.b9,Ev.cf,Ev.dG,Ev.cg,Ev.aR,Ev.cE,Ev.ak,Ev.aU,Ev.aV,Ev.aW,Ev.cG,Ev.aq,Ev.aX,Ev.aY,Ev.cI,Ev.ar,Ev.aZ,Ev.a7,Ev.a8,Ev.a9,Ev.ba,Ev.cN,Ev.au,Ev.bc,Ev.av,Ev.bg,Ev.bo,Ev.bq,Ev.aw,Ev.ax,Ev.cR,Ev.cS,Ev.az,Ev.aA,Ev.aa,Ev.af,Ev.aB,Ev.bx,Ev.cX,Ev.cY,Ev.bz,Ev.cZ,Ev.c4,Ev.bB,Ev.ah,Ev.bD,Ev.aE,Ev.bH,Ev.aG,Ev.bI,Ev.bJ,Ev.bK,Ev.aH,Ev.c5,Ev.aN,Ev.aO,Ev.bR,Ev.bS,Ev.bT,Ev.aP,Ev.c6,Ev.c7,Ev.bU,Ev.bV,Ev.aI,Ev.bX,Ev.cy,Ev.dJ,Ev.cv,Ev.cB,Ev.r_c,Ev.r_g,Ev.r_v,Ev.cC,Ev.cD,Ev.aT,Ev.cF,Ev.ao,Ev.cH,Ev.dY,Ev.cJ,Ev.cK,Ev.cL,Ev.cM,Ev.dZ,Ev.bb,Ev.d5,Ev.bf,Ev.cO,Ev.bh,Ev.bj,Ev.cP,Ev.cQ,Ev.br,Ev.d6,Ev.d7,Ev.bt,Ev.d8,Ev.d9,Ev.eh,Ev.ei,Ev.ay,Ev.ej,Ev.cT,Ev.eA,Ev.eB,Ev.t_t,Ev.o_v,Ev.o_tup,Ev.o_lst,Ev.o_call,Ev.o_c,Ev.o_g,Ev.cU,Ev.cV,Ev.eC,Ev.eD,Ev.o_dnew,Ev.bu,Ev.cW,Ev.bw,Ev.eE,Ev.eF,Ev.aC,Ev.bA,Ev.k_i,Ev.k_s,Ev.k_b,Ev.k_n,Ev.st_asg,Ev.bC,Ev.aD,Ev.st_setix,Ev.bE,Ev.bG,Ev.st_dset,Ev.st_dof,Ev.st_dupd,Ev.st_reti,Ev.bL,Ev.bM,Ev.bN,Ev.bO,Ev.bP,Ev.st_mvx,Ev.bQ,Ev.st_dsety,Ev.st_dsetp,Ev.st_clrA,Ev.cz,Ev.st_app,Ev.st_ret,Ev.st_if,Ev.st_for,Ev.eG,Ev.eI,Ev.c8,Ev.c9,Ev.da,Ev.dh,Ev.dm,Ev.cu,Ev.eJ,Ev.eK,Ev.dn,Ev.dq,Ev.dv,Ev.aQ,Ev.bW,Ev.dz,Ev.x_t,Ev.eL,Ev.eM,Ev.eN,Ev.dW,Ev.dX,Ev.eO,Ev.eP,Ev.dS,Ev.eQ,Ev.eR,Ev.eS,Ev.eT,Ev.n_n,Ev.n_s,Ev.dA,Ev.dB,Ev.bY,Ev.bZ,Ev.ai,Ev.dC,Ev.b7,Ev.eY,Ev.eZ,Ev.aK,Ev.ck,Ev.aL,Ev.cp,hd];rw[EO,List.getElem?_eq_none (by omega)];rfl
noncomputable def nT:List IS:=[(.asg (.nm 3) (.bin .mod (.bin .add (.bin .add (.bin .mul (.v 3) (.c (.int 48271))) (.bin .mul (.bin .mul (.c (.int 7)) (.v 4)) (.v 4))) (.c (.int 3))) (.c (.int 2147483647)))),(.app 2 (.bin .fdiv (.v 3) (.c (.int 16))))]
noncomputable def rn:List IS:=[(.asg (.nm 2) (.lst [])),(.asg (.nm 3) (.bin .add (.bin .mod (.v 0) (.c (.int 2147483647))) (.c (.int 1)))),(.for_ (.nm 4) (.rng1 (.v 1)) nT),(.ret (.v 2))]
theorem stream {f:Nat}{fn:Fn}(hT:T f=Γ fn)(h0:fn.io=Θ)(h1:fn.np=2)(h2:fn.G.N.length=5)(h3:fn.body=rn)(n:Nat)(c m:Int)(hm0:0<=m)(hm:m<=1000) :
  ∃xs:List Int,aj T (n+1) f [.int c,.int m]=.ok (.lst Δ (xs.map .int))/\xs.length=m.toNat/\∀x∈xs,0<=x:=by
 rw[Ev.go hT h0 h1 h2 h3 rfl];unfold rn;obtain⟨τ',e,xs,num,kk,rfl,hl,hx,hn⟩:=Ev.nS (its:=ir 0 m) (τ:=[Γ (.int c),Γ (.int m),Γ (.lst Δ []),Γ (.int (c % 2147483647+1)),Ξ]) (body:=Ev.turn (aj T n) (.nm 4) nT)
  (fun i τ=>∃(xs:List Int) (num:Int) (kk:Option D),τ=[Γ (.int c),Γ (.int m),Γ (.lst Δ (xs.map .int)),Γ (.int num),kk]/\xs.length=i/\(∀x∈xs,0<=x)/\0<=num)
  ⟨[],_,Ξ,rfl,rfl,fun x hx=>absurd hx (by simp),by have:=Int.emod_nonneg c (show(2147483647:Int)≠0 by decide);omega⟩ (by
   rintro i x τ hx ⟨xs,num,kk,rfl,hl,hxs,hn⟩;have hi:i < m.toNat:=by have:=(B_.mp hx).1;rw[iz]at this;omega
   unfold ir at hx;rw[EL,List.getElem?_range (by omega)]at hx;have hx':D.int (0+(i:Nat))=x:=EF hx;subst hx';refine⟨[Γ (.int c),Γ (.int m),Γ (.lst Δ ((xs++[(num*48271+7*(0+(i:Int))*(0+(i:Int))+3) % 2147483647 / 16]).map .int)),Γ (.int ((num*48271+7*(0+(i:Int))*(0+(i:Int))+3) % 2147483647)),Γ (.int (0+(i:Nat)))],?_,_,_,_,rfl,by rw[t_,EH,hl],fun x hx=>?_,Int.emod_nonneg _ (by decide)⟩
   ·unfold nT;simp -implicitDefEqProofs (disch:=omega) only[ev0,Nat.reduceBEq,Nat.reduceSub,Nat.reduceAdd,reduceIte,Ev.rs0,Ev.rss,Ev.dt,Ev.du,↓Ev.fzI,↓Ev.fzS,↓Ev.fzN,Ev.rfn,Ev.rct,Ev.rcn,cond_true,cond_false,a_,List.map_nil,e_,List.nil_append,Bool.true_or,Bool.false_or,Ev.eU,Ev.eV,Ev.eW,Ev.eX,Ev.dD,Ev.dE,Ev.e7,Ev.e8,Ev.b8,Ev.aJ,Ev.dH,Ev.dI,Ev.b9,Ev.cf,Ev.dG,Ev.cg,Ev.aR,Ev.cE,Ev.ak,Ev.aU,Ev.aV,Ev.aW,Ev.cG,Ev.aq,Ev.aX,Ev.aY,Ev.cI,Ev.ar,Ev.aZ,Ev.a7,Ev.a8,Ev.a9,Ev.ba,Ev.cN,Ev.au,Ev.bc,Ev.av,Ev.bg,Ev.bo,Ev.bq,Ev.aw,Ev.ax,Ev.cR,Ev.cS,Ev.az,Ev.aA,Ev.aa,Ev.af,Ev.aB,Ev.bx,Ev.cX,Ev.cY,Ev.bz,Ev.cZ,Ev.c4,Ev.bB,Ev.ah,Ev.bD,Ev.aE,Ev.bH,Ev.aG,Ev.bI,Ev.bJ,Ev.bK,Ev.aH,Ev.c5,Ev.aN,Ev.aO,Ev.bR,Ev.bS,Ev.bT,Ev.aP,Ev.c6,Ev.c7,Ev.bU,Ev.bV,Ev.aI,Ev.bX,Ev.cy,Ev.dJ,Ev.cv,Ev.cB,Ev.r_c,Ev.r_g,Ev.r_v,Ev.cC,Ev.cD,Ev.aT,Ev.cF,Ev.ao,Ev.cH,Ev.dY,Ev.cJ,Ev.cK,Ev.cL,Ev.cM,Ev.dZ,Ev.bb,Ev.d5,Ev.bf,Ev.cO,Ev.bh,Ev.bj,Ev.cP,Ev.cQ,Ev.br,Ev.d6,Ev.d7,Ev.bt,Ev.d8,Ev.d9,Ev.eh,Ev.ei,Ev.ay,Ev.ej,Ev.cT,Ev.eA,Ev.eB,Ev.t_t,Ev.o_v,Ev.o_tup,Ev.o_lst,Ev.o_call,Ev.o_c,Ev.o_g,Ev.cU,Ev.cV,Ev.eC,Ev.eD,Ev.o_dnew,Ev.bu,Ev.cW,Ev.bw,Ev.eE,Ev.eF,Ev.aC,Ev.bA,Ev.k_i,Ev.k_s,Ev.k_b,Ev.k_n,Ev.st_asg,Ev.bC,Ev.aD,Ev.st_setix,Ev.bE,Ev.bG,Ev.st_dset,Ev.st_dof,Ev.st_dupd,Ev.st_reti,Ev.bL,Ev.bM,Ev.bN,Ev.bO,Ev.bP,Ev.st_mvx,Ev.bQ,Ev.st_dsety,Ev.st_dsetp,Ev.st_clrA,Ev.cz,Ev.st_app,Ev.st_ret,Ev.st_if,Ev.st_for,Ev.eG,Ev.eI,Ev.c8,Ev.c9,Ev.da,Ev.dh,Ev.dm,Ev.cu,Ev.eJ,Ev.eK,Ev.dn,Ev.dq,Ev.dv,Ev.aQ,Ev.bW,Ev.dz,Ev.x_t,Ev.eL,Ev.eM,Ev.eN,Ev.dW,Ev.dX,Ev.eO,Ev.eP,Ev.dS,Ev.eQ,Ev.eR,Ev.eS,Ev.eT,Ev.n_n,Ev.n_s,Ev.dA,Ev.dB,Ev.bY,Ev.bZ,Ev.ai,Ev.dC,Ev.b7,Ev.eY,Ev.eZ,Ev.aK,Ev.ck,Ev.aL,Ev.cp,Ev.e9,A_,f_]
   ·rcases u_.mp hx with hx|hx
    ·exact hxs x hx
    ·rw[C_]at hx;rw[hx]
     exact Int.ediv_nonneg (Int.emod_nonneg _ (by decide)) (by decide))
 refine⟨xs,?_,?_,hx⟩
 ·simp -implicitDefEqProofs (disch:=omega) only[ev0,Nat.reduceBEq,Nat.reduceSub,Nat.reduceAdd,reduceIte,Ev.rs0,Ev.rss,Ev.dt,Ev.du,↓Ev.fzI,↓Ev.fzS,↓Ev.fzN,Ev.rfn,Ev.rct,Ev.rcn,cond_true,cond_false,a_,List.map_nil,e_,List.nil_append,Bool.true_or,Bool.false_or,Ev.eU,Ev.eV,Ev.eW,Ev.eX,Ev.dD,Ev.dE,Ev.e7,Ev.e8,Ev.b8,Ev.aJ,Ev.dH,Ev.dI,Ev.b9,Ev.cf,Ev.dG,Ev.cg,Ev.aR,Ev.cE,Ev.ak,Ev.aU,Ev.aV,Ev.aW,Ev.cG,Ev.aq,Ev.aX,Ev.aY,Ev.cI,Ev.ar,Ev.aZ,Ev.a7,Ev.a8,Ev.a9,Ev.ba,Ev.cN,Ev.au,Ev.bc,Ev.av,Ev.bg,Ev.bo,Ev.bq,Ev.aw,Ev.ax,Ev.cR,Ev.cS,Ev.az,Ev.aA,Ev.aa,Ev.af,Ev.aB,Ev.bx,Ev.cX,Ev.cY,Ev.bz,Ev.cZ,Ev.c4,Ev.bB,Ev.ah,Ev.bD,Ev.aE,Ev.bH,Ev.aG,Ev.bI,Ev.bJ,Ev.bK,Ev.aH,Ev.c5,Ev.aN,Ev.aO,Ev.bR,Ev.bS,Ev.bT,Ev.aP,Ev.c6,Ev.c7,Ev.bU,Ev.bV,Ev.aI,Ev.bX,Ev.cy,Ev.dJ,Ev.cv,Ev.cB,Ev.r_c,Ev.r_g,Ev.r_v,Ev.cC,Ev.cD,Ev.aT,Ev.cF,Ev.ao,Ev.cH,Ev.dY,Ev.cJ,Ev.cK,Ev.cL,Ev.cM,Ev.dZ,Ev.bb,Ev.d5,Ev.bf,Ev.cO,Ev.bh,Ev.bj,Ev.cP,Ev.cQ,Ev.br,Ev.d6,Ev.d7,Ev.bt,Ev.d8,Ev.d9,Ev.eh,Ev.ei,Ev.ay,Ev.ej,Ev.cT,Ev.eA,Ev.eB,Ev.t_t,Ev.o_v,Ev.o_tup,Ev.o_lst,Ev.o_call,Ev.o_c,Ev.o_g,Ev.cU,Ev.cV,Ev.eC,Ev.eD,Ev.o_dnew,Ev.bu,Ev.cW,Ev.bw,Ev.eE,Ev.eF,Ev.aC,Ev.bA,Ev.k_i,Ev.k_s,Ev.k_b,Ev.k_n,Ev.st_asg,Ev.bC,Ev.aD,Ev.st_setix,Ev.bE,Ev.bG,Ev.st_dset,Ev.st_dof,Ev.st_dupd,Ev.st_reti,Ev.bL,Ev.bM,Ev.bN,Ev.bO,Ev.bP,Ev.st_mvx,Ev.bQ,Ev.st_dsety,Ev.st_dsetp,Ev.st_clrA,Ev.cz,Ev.st_app,Ev.st_ret,Ev.st_if,Ev.st_for,Ev.eG,Ev.eI,Ev.c8,Ev.c9,Ev.da,Ev.dh,Ev.dm,Ev.cu,Ev.eJ,Ev.eK,Ev.dn,Ev.dq,Ev.dv,Ev.aQ,Ev.bW,Ev.dz,Ev.x_t,Ev.eL,Ev.eM,Ev.eN,Ev.dW,Ev.dX,Ev.eO,Ev.eP,Ev.dS,Ev.eQ,Ev.eR,Ev.eS,Ev.eT,Ev.n_n,Ev.n_s,Ev.dA,Ev.dB,Ev.bY,Ev.bZ,Ev.ai,Ev.dC,Ev.b7,Ev.eY,Ev.eZ,Ev.aK,Ev.ck,Ev.aL,Ev.cp,e]
 ·rw[hl,iz];omega
noncomputable def one (c:Nat):Str:=⟨#[c]⟩
noncomputable def sal (cs:List Nat):Str:=⟨cs.toArray⟩
def low (c:Nat):Prop:=97<=c/\c<=122
theorem vt:(Ο "abcdefghijklmnopqrstuvwxyz").cps.toList=List.range' 97 26:=by decide +kernel
theorem rp:(Ο "abcdefghijklmnopqrstuvwxyz").length=26:=by decide +kernel
theorem vw {i:Int}(h0:0<=i)(h1:i < 26):gx (.str "abcdefghijklmnopqrstuvwxyz") (.int i)=.ok (.str (one (97+i.toNat))):=by
 rw[Ev.x_c h0 (by rw[rp];exact h1) (by rw[rp];decide),vt];have:(List.range' 97 26).getD i.toNat 0=97+i.toNat:=by rw[EO,List.getElem?_range' (by omega)];show 97+1*i.toNat=_;omega
 rw[this];rfl
theorem iW (cs:List Nat):(sal cs).length=cs.length:=by unfold sal Str.length;simp
theorem xS (c:Nat):(one c).length=1:=rfl
theorem mJ:∀(cs:List Nat) (acc:Array Nat),(cs.map one).foldl (fun acc p=>acc++(Ο "").cps++p.cps) acc=acc++cs.toArray
 |[],acc=>by simp
 |c::cs,acc=>by
  have e:(Ο "").cps = #[]:=by decide +kernel
  rw[a_,List.foldl_cons,mJ cs,e];show acc++#[]++#[c]++cs.toArray=_;simp
theorem join_one (cs:List Nat):Txt.join "" (cs.map one)=sal cs:=by
 show(⟨((cs.map one).drop 1).foldl (fun acc p=>acc++(Ο "").cps++p.cps) ((cs.map one).headD Str.empty).cps⟩:Str)=_;cases cs with
 |nil=>rfl
 |cons c cs=>rw[a_,List.drop_succ_cons,List.drop_zero,List.headD_cons,mJ];unfold sal one;simp
theorem xT (cs:List Nat):((cs.map one).map (fun y:Str=>y.length)).sum=cs.length:=by
 induction cs with
 |nil=>rfl
 |cons c cs ih=>rw[a_,a_,List.sum_cons,ih,List.length_cons,xS];omega
theorem xU {o:Bool}{cs:List Nat}(h:cs.length<=1000):kK .join (.str "") [.lst o ((cs.map one).map .str)]=.ok (.str (sal cs)):=by
 have e:(Ο "").length=0:=by decide +kernel
 rw[Ev.xO (by rw[xT,f_,e];omega),join_one]
theorem lz {cs:List Nat}{j:Int}(h0:0<=j)(h1:j<=cs.length):Txt.slice (sal cs) Ξ (Γ j)=sal (cs.take j.toNat):=by
 have:=StrLaws.sliceText_to (x:=sal cs) (j:=j) ⟨h0,by show j<=(cs.toArray.toList.length:Nat);simpa using h1⟩;refine this.trans ?_;show(⟨((cs.toArray.toList.drop 0).take (j - 0).toNat).toArray⟩:Str)=⟨(cs.take j.toNat).toArray⟩
 rw[List.toList_toArray,List.drop_zero,Int.sub_zero]
theorem qe {cs:List Nat}{i:Int}(h0:0<=i)(h1:i<=cs.length):Txt.slice (sal cs) (Γ i) Ξ=sal (cs.drop i.toNat):=by
 have:=StrLaws.sliceText_from (x:=sal cs) (i:=i) ⟨h0,by show i<=(cs.toArray.toList.length:Nat);simpa using h1⟩;refine this.trans ?_;show(⟨((cs.toArray.toList.drop i.toNat).take ((cs.toArray.toList.length:Int) - i).toNat).toArray⟩:Str)=⟨(cs.drop i.toNat).toArray⟩
 rw[List.toList_toArray,List.take_of_length_le (by rw[List.length_drop];omega)]
theorem xV (a b:List Nat):sal a++sal b=sal (a++b):=by
 show(⟨a.toArray++b.toArray⟩:Str)=⟨(a++b).toArray⟩
 rw[List.append_toArray]
theorem rq {a b:List Nat}(h:a.length+b.length<=1000):opB .add (.str (sal a)) (.str (sal b))=.ok (.str (sal (a++b))):=by rw[Ev.aQ,Ev.lu (by rw[iW,iW];omega),xV];rfl
end Fr
end L2
namespace Law
open PySem PySem.Spec L2 L2.Fr
theorem rz {a b:List Nat}(h:sal a=sal b):a=b:=by unfold sal at h;injection h with h;simpa using congrArg Array.toList h
theorem nU (fs:List Str):ers (fs.map .str)=fs.map D.str:=Ev.nQ fs
theorem nV (fs:List Str):cA (fs.map D.str)=Δ:=Ev.sV fs
noncomputable def ch (c k:Int):Nat:=97+((c / 3+7*k) % 26).toNat
theorem nW {α β:Type} [DecidableEq β](f:α->β):∀ {l:List α},l.Nodup->(∀x∈l,∀y∈l,f x=f y->x=y)->(l.map f).Nodup
 |[],_,_=>.nil
 |a::l,h,hf=>by rw[y_]at h;rw[a_,y_];refine⟨fun z=>?_,nW f h.2 fun x hx y hy=>hf x (q_ _ hx) y (q_ _ hy)⟩;obtain⟨x,hx,e⟩:=List.mem_map.mp z;have:=hf x (q_ _ hx) a (by simp) e;exact h.1 (this ▸ hx)
noncomputable def ks (m:Int):List Int:=(List.range (m - 0).toNat).map fun k=>0+((k:Nat):Int)
theorem zr (m:Int):(ks m).Nodup:=nW _ List.nodup_range fun x _ y _ e=>by omega
theorem mK {m x:Int}(h:x∈ks m):0<=x/\x < m:=by obtain⟨k,hk,rfl⟩:=List.mem_map.mp h;have:=List.mem_range.mp hk;omega
theorem qf (m:Int):(ks m).length=(m - 0).toNat:=by unfold ks;rw[f_,List.length_range]
structure Nms (m:Int)(fs:List Str):Prop where
 len:fs.length=(m - 0).toNat
 nod:fs.Nodup
 rep:∀f∈fs,(reprText f).length<=1000
theorem rA {cs:List Nat}(h:∀c∈cs,c < 1000)(hl:cs.length<=90):(reprText (sal cs)).length<=1000:=by have h1:=StrLaws.reprText_len (sal cs) (fun c hc=>by have:=h c (by simpa[sal] using hc);omega);rw[iW]at h1;omega
theorem vy (n:Nat)(c m:Int)(h0:0<=m)(h1:m<=12):∃fs:List Str,aj T (n+2) 35 [.int c,.int m]=.ok (.lst Δ (fs.map .str))/\Nms m fs:=by
 obtain⟨xs,ex,lx,px⟩:=stream (show T 34=Γ d34 from rfl) rfl rfl rfl rfl n (c / 3) 8 (by omega) (by omega);have e1:fT (fN (aj T (n+1)) (.nm 1) [] (.idx (.v 0) (.bin .mod (.v 1) (.c (.int 26)))) [Γ (.str "abcdefghijklmnopqrstuvwxyz"),Ξ]) (xs.map .int)=.ok (((xs.map fun x=>97+(x % 26).toNat).map one).map .str):=by
  have hg:(xs.map fun x=>97+(x % 26).toNat).map one=xs.map fun x:Int=>one (97+(x % 26).toNat):=by rw[EB];rfl
  rw[hg];refine Ev.gC D.int (fun x:Int=>one (97+(x % 26).toNat)) .str _ fun x hx=>?_;have hx0:=Int.emod_nonneg x (show(26:Int)≠0 by decide);have hx1:=Int.emod_lt_of_pos x (show(0:Int) < 26 by decide);simp![vw]
 have lb:(xs.map fun x=>97+(x % 26).toNat).length=8:=by rw[f_,lx];rfl
 have hcs:∀c∈(xs.map fun x=>97+(x % 26).toNat),c < 1000:=fun c hc=>by obtain⟨x,_,rfl⟩:=List.mem_map.mp hc;have hx1:=Int.emod_lt_of_pos x (show(0:Int) < 26 by decide);omega
 generalize(xs.map fun x=>97+(x % 26).toNat)=cs at *;have lxs:(xs.map D.int).length=8:=by rw[f_,lx];rfl
 have je:∀o:Bool,kK .join (.str "") [.lst o ((cs.map one).map .str)]=.ok (.str (sal cs)):=fun o=>xU (by omega);generalize(cs.map one).map D.str=J,xs.map D.int=X at *;have rk:ir 0 m=(ks m).map .int:=Ev.vq 0 m;have lk:((ks m).map D.int).length=(m - 0).toNat:=by rw[f_,qf]
 by_cases hb:c % 3=1/\m<=8
 ·have b1:(c % 3 == 1)=Δ:=by rw[hb.1];rfl
  have b2:decide (m<=8)=Δ:=s_ hb.2;have e2:fT (fN (aj T (n+1)) (.nm 1) [] (.sl (.v 0) Ξ (Γ (.bin .add (.v 1) (.c (.int 1))))) [Γ (.str (sal cs)),Ξ]) ((ks m).map .int)=.ok (((ks m).map fun k=>sal (cs.take (k+1).toNat)).map .str):=by
   refine Ev.gC D.int (fun k:Int=>sal (cs.take (k+1).toNat)) .str _ fun k hk=>?_;obtain⟨k0,k1⟩:=mK hk;have es:=lz (cs:=cs) (j:=k+1) (by omega) (by omega);have sl:=iW cs;have s8:(sal cs).length<=16777216:=by omega
   simp![es]
  refine⟨(ks m).map fun k=>sal (cs.take (k+1).toNat),?_,by rw[f_,qf],nW _ (zr m) fun x hx y hy e=>?_,fun f hf=>?_⟩
  ·rw[Ev.go (show T 35=Γ d35 from rfl) (show d35.io=Θ from rfl) (show d35.np=2 from rfl) (show d35.G.N.length=5 from rfl) (show d35.body=b35 from rfl) rfl];unfold b35;generalize((ks m).map fun k=>sal (cs.take (k+1).toNat))=F at *;have ff:=nV F;generalize(ks m).map D.int=KK at *;simp![ex,e1,je,b1,b2,rk,e2,lxs,lk,ff]
  ·obtain⟨x0,x1⟩:=mK hx;obtain⟨y0,y1⟩:=mK hy;have:=congrArg List.length (rz e);rw[EV,EV]at this;omega
  ·obtain⟨k,_,rfl⟩:=List.mem_map.mp hf;exact rA (fun c hc=>hcs c (List.mem_of_mem_take hc)) (by rw[EV];omega)
 ·have b3:((c % 3 == 1)&&decide (m<=8))=Θ:=by
   rw[Bool.and_eq_false_iff];by_cases hc:c % 3=1
   ·exact .inr (p_ fun z=>hb ⟨hc,z⟩)
   ·exact .inl (by simpa using hc)
  have m0:=Int.emod_nonneg (c / 3) (show(8:Int)≠0 by decide);have m1:=Int.emod_lt_of_pos (c / 3) (show(0:Int) < 8 by decide);have es:=lz (cs:=cs) (j:=1+c / 3 % 8) (by omega) (by omega);have lb':(cs.take (1+c / 3 % 8).toNat).length=(1+c / 3 % 8).toNat:=by rw[EV];omega
  have sl:=iW cs;have hB:∀c'∈cs.take (1+c / 3 % 8).toNat,c' < 1000:=fun c' hc=>hcs c' (List.mem_of_mem_take hc);generalize cs.take (1+c / 3 % 8).toNat=B at *;have slB:=iW B;have hlen:((sal B).length:Int)=1+c / 3 % 8:=by rw[slB];omega
  have a0:=Int.emod_nonneg (c / 24) (show((sal B).length:Int)≠0 by omega);have a1:=Int.emod_lt_of_pos (c / 24) (show(0:Int) < ((sal B).length:Int) by omega);generalize hat:c / 24 % ((sal B).length:Int)=at' at *;have es1:=lz (cs:=B) (j:=at') (by omega) (by omega);have es2:=qe (cs:=B) (i:=at' + 1) (by omega) (by omega);have la:(B.take at'.toNat).length<=8:=by rw[EV];omega
  have lc:(B.drop (at' + 1).toNat).length<=8:=by rw[List.length_drop];omega
  have hA:∀c'∈B.take at'.toNat,c' < 1000:=fun c' hc=>hB c' (List.mem_of_mem_take hc);have hC:∀c'∈B.drop (at' + 1).toNat,c' < 1000:=fun c' hc=>hB c' (List.mem_of_mem_drop hc);generalize B.take at'.toNat=A,B.drop (at' + 1).toNat=C at *;have e2:fT (fN (aj T (n+1)) (.nm 4) [] (.bin .add (.bin .add (.sl (.v 0) Ξ (Γ (.v 1))) (.idx (.v 2) (.bin .mod (.bin .add (.bin .fdiv (.v 3) (.c (.int 3))) (.bin .mul (.c (.int 7)) (.v 4))) (.c (.int 26))))) (.sl (.v 0) (Γ (.bin .add (.v 1) (.c (.int 1)))) Ξ)) [Γ (.str (sal B)),Γ (.int at'),Γ (.str "abcdefghijklmnopqrstuvwxyz"),Γ (.int c),Ξ]) ((ks m).map .int)=.ok (((ks m).map fun k=>sal (A++[ch c k]++C)).map .str):=by
   refine Ev.gC D.int (fun k:Int=>sal (A++[ch c k]++C)) .str _ fun k hk=>?_;obtain⟨k0,k1⟩:=mK hk;have r0:=Int.emod_nonneg (c / 3+7*k) (show(26:Int)≠0 by decide);have r1:=Int.emod_lt_of_pos (c / 3+7*k) (show(0:Int) < 26 by decide);have f0:=vw r0 r1;rw[show one (97+((c / 3+7*k) % 26).toNat)=sal [ch c k] from rfl]at f0;have f1:opB .add (.str (sal A)) (.str (sal [ch c k]))=.ok (.str (sal (A++[ch c k]))):=rq (by rw[List.length_cons,List.length_nil];omega);have f2:opB .add (.str (sal (A++[ch c k]))) (.str (sal C))=.ok (.str (sal (A++[ch c k]++C))):=rq (by rw[t_,List.length_cons,List.length_nil];omega);generalize sal (A++[ch c k]++C)=W3,sal (A++[ch c k])=W2,sal [ch c k]=W1 at *;have s8:(sal B).length<=16777216:=by omega
   simp![es1,es2,f0,f1,f2]
  refine⟨(ks m).map fun k=>sal (A++[ch c k]++C),?_,by rw[f_,qf],nW _ (zr m) fun x hx y hy e=>?_,fun f hf=>?_⟩
  ·rw[Ev.go (show T 35=Γ d35 from rfl) (show d35.io=Θ from rfl) (show d35.np=2 from rfl) (show d35.G.N.length=5 from rfl) (show d35.body=b35 from rfl) rfl];unfold b35;generalize((ks m).map fun k=>sal (A++[ch c k]++C))=F at *;have ff:=nV F;generalize(ks m).map D.int=KK at *;have s8:(sal cs).length<=16777216:=by omega
   have s9:(sal B).length<=16777216:=by omega
   have sp:(0:Int) < ((sal B).length:Int):=by omega
   cases q1:(c % 3 == 1) with
   |true=>
    cases q2:decide (m<=8) with
    |true=>rw[q1,q2]at b3;cases b3
    |false=>simp![ex,e1,je,q1,q2,rk,e2,lxs,lk,ff,es,hat]
   |false=>simp![ex,e1,je,q1,rk,e2,lxs,lk,ff,es,hat]
  ·obtain⟨x0,x1⟩:=mK hx;obtain⟨y0,y1⟩:=mK hy;have e3:=rz e;rw[o_,o_]at e3;have e4:=List.append_cancel_left e3;have e5:ch c x=ch c y:=by rw[ER,ER]at e4;exact(List.cons.inj e4).1
   unfold ch at e5;omega
  ·obtain⟨k,_,rfl⟩:=List.mem_map.mp hf;have r1:=Int.emod_lt_of_pos (c / 3+7*k) (show(0:Int) < 26 by decide);refine rA (fun c' hc=>?_) (by simp only[t_,List.length_cons,List.length_nil];omega);rcases u_.mp hc with hc|hc
   ·rcases u_.mp hc with hc|hc
    ·exact hA c' hc
    ·rw[C_.mp hc];unfold ch;omega
   ·exact hC c' hc
theorem rB:∀(l σ:List Str),(σ++l).Nodup->l.foldl Sx.dd σ=σ++l
 |[],σ,_=>by simp
 |v::l,σ,h=>by
  have hv:¬(σ.any (· == v))=Δ:=fun z=>by
   obtain⟨a,ha,e⟩:=List.any_eq_true.mp z;have e':a=v:=by simpa using e
   subst e';exact(h_.mp h).2.2 a ha a (by simp) rfl
  have e:Sx.dd σ v=σ++[v]:=by unfold Sx.dd;rw[b_ hv]
  rw[List.foldl_cons,e,rB l (σ++[v]) (by rw[o_];exact h),o_];rfl
theorem Bx {fs:List Str}(h:fs.Nodup)(hl:fs.length < 1000)(o:Bool):qJ (.lst o (fs.map .str))=.ok (.int (fs.length:Nat)):=by
 show(match gI (fs.map .str) with|some ys=>grd (decide (ys.length < 1000)) (.ok (.int ((ys.foldl Sx.dd []).length:Nat)))|none=>stk)=(_:Res D)
 rw[Ev.o9];show grd (decide _) _=_;rw[s_ hl,rB fs [] h];rfl
noncomputable def row (f:Str):D:=.tup [.str f,.lst Δ []]
noncomputable def fnd (fs:List Str):D:=.tup [.lst Δ (fs.map row),.lst Δ [.tup [.int 0,.int 10007]]]
theorem xW (cl:Nat->List D->Res D)(fs:List Str):fT (fN cl (.nm 0) [] (.tup [(.v 0),(.lst [])]) [Ξ]) (fs.map .str)=.ok (fs.map row):=by
 have:=Ev.gC (g:=fN cl (.nm 0) [] (.tup [(.v 0),(.lst [])]) [Ξ]) D.str (fun f:Str=>f) row fs fun f _=>by unfold row;simp![ev0]
 rw[this,List.map_id']
theorem vz (fs:List Str):(fs.map row).map kg=fs.map row:=by rw[EB];rfl
theorem xX (fs:List Str):(fs.map row).all prD=Δ:=by rw[List.all_map,ED];intro x _;rfl
theorem By (n:Nat)(fs:List Str)(h:fs.Nodup)(hl:fs.length<=50):aj T (n+1) 26 [.lst Θ (fs.map .str)]=.ok (fnd fs):=by
 have e1:=Bx h (by omega);have e2:=xW (aj T n) fs;have e3:=vz fs;have e4:iI (.comp {N:=["face"],kd:=[.local],gl:=[],df:=Θ} [] (.nm 0) (.val (.v 0)) [] (.tup [(.v 0),(.lst [])])) (fs.map row)=Δ:=by show(Δ&&(fs.map row).all prD)=Δ;rw[xX,Bool.and_self]
 have lm:(fs.map D.str).length=fs.length:=f_ _;have hd:decide ((fs.length:Int) < (fs.length:Int))=Θ:=p_ (by omega);unfold fnd;rw[Ev.go (show T 26=Γ d26 from rfl) (show d26.io=Θ from rfl) (show d26.np=1 from rfl) (show d26.G.N.length=1 from rfl) (show d26.body=b26 from rfl) rfl];unfold b26;generalize fs.map row=R,fs.map D.str=S at *;cases z:cA R<;>simp![e1,e2,e3,e4,lm,hd,z]
end Law
namespace L2
open PySem PySem.Spec PyProof.Rows PySem.SeqAt
namespace Rn
variable {T:Tb}
abbrev Pr:=Int×Int
noncomputable def pr2 (p:Pr):D:=.tup [.int p.1,.int p.2]
theorem gD (run:List Pr):cA (run.map pr2)=Δ:=by rw[fO,List.all_map,ED];intro x _;rfl
theorem fD (run:List Pr):ers (run.map pr2)=run.map pr2:=gm (gD run)
noncomputable def cnt:List Pr->Int
 |[]=>0
 |p::r=>(p.2 - p.1)+cnt r
noncomputable def cAt (p:Pr)(w:Int):Int:=if p.2 < p.1+w then p.2 else p.1+w
theorem Bz (p:Pr)(w:Int):(if p.1+w < p.2 then p.1+w else p.2)=cAt p w:=by unfold cAt;split<;>split<;>omega
noncomputable def fC:List Pr->List Pr->List Pr->Int->List Pr×List Pr
 |[],A,B,_=>(A,B)
 |p::r,A,B,w=>fC r (if p.1 < cAt p w then A++[(p.1,cAt p w)] else A) (if cAt p w < p.2 then B++[(cAt p w,p.2)] else B) (w - (cAt p w - p.1))
theorem jI:∀(r A B:List Pr) (w:Int),(fC r A B w).1.length<=A.length+r.length/\(fC r A B w).2.length<=B.length+r.length
 |[],A,B,w=>⟨n_ _,n_ _⟩
 |p::r,A,B,w=>by
  obtain⟨h1,h2⟩:=jI r (if p.1 < cAt p w then A++[(p.1,cAt p w)] else A) (if cAt p w < p.2 then B++[(cAt p w,p.2)] else B) (w - (cAt p w - p.1));have a1:(if p.1 < cAt p w then A++[(p.1,cAt p w)] else A).length<=A.length+1:=by split<;>simp
  have a2:(if cAt p w < p.2 then B++[(cAt p w,p.2)] else B).length<=B.length+1:=by split<;>simp
  unfold fC;rw[List.length_cons];exact⟨by omega,by omega⟩
noncomputable def tPt:List IS:=[(.asg (.nm 7) (.bi .min2 [(.bin .add (.v 5) (.v 4)),(.v 6)])),(.if_ (.cmp .lt (.v 5) (.v 7)) [(.app 2 (.tup [(.v 5),(.v 7)]))] []),(.if_ (.cmp .lt (.v 7) (.v 6)) [(.app 3 (.tup [(.v 7),(.v 6)]))] []),(.asg (.nm 4) (.bin .sub (.v 4) (.bin .sub (.v 7) (.v 5))))]
noncomputable def bPt:List IS:=[(.asg (.nm 2) (.lst [])),(.asg (.nm 3) (.lst [])),(.asg (.nm 4) (.v 1)),(.for_ (.tp [(.nm 5),(.nm 6)]) (.val (.v 0)) tPt),(.ret (.tup [(.v 2),(.v 3)]))]
theorem iu (A:List Pr)(p:Pr):(A++[p]).map pr2=A.map pr2++[.tup [.int p.1,.int p.2]]:=by rw[A_];rfl
theorem xY {cl:Nat->List D->Res D}(r0 m0:D)(A B:List Pr)(hA:A.length<=1000)(hB:B.length<=1000)(w:Int)(p:Pr)(x y z:Option D) :
  Ev.turn cl (.tp [(.nm 5),(.nm 6)]) tPt (pr2 p) [Γ r0,Γ m0,Γ (.lst Δ (A.map pr2)),Γ (.lst Δ (B.map pr2)),Γ (.int w),x,y,z]=.ok (.nx [Γ r0,Γ m0,Γ (.lst Δ ((if p.1 < cAt p w then A++[(p.1,cAt p w)] else A).map pr2)),Γ (.lst Δ ((if cAt p w < p.2 then B++[(cAt p w,p.2)] else B).map pr2)),Γ (.int (w - (cAt p w - p.1))),Γ (.int p.1),Γ (.int p.2),Γ (.int (cAt p w))]):=by
 have hc:(if p.2 < p.1+w then p.2 else p.1+w)=cAt p w:=rfl;rw[show pr2 p=.tup [.int p.1,.int p.2] from rfl];generalize cAt p w=c at *;by_cases c1:p.1 < c<;>by_cases c2:c < p.2
 ·have d1:decide (p.1 < c)=Δ:=s_ c1;have d2:decide (c < p.2)=Δ:=s_ c2;rw[c_ c1,c_ c2,iu,iu];unfold tPt;simp![Ev.e9,hc,d1,d2,f_]
 ·have d1:decide (p.1 < c)=Δ:=s_ c1;have d2:decide (c < p.2)=Θ:=p_ c2;rw[c_ c1,b_ c2,iu];unfold tPt;simp![Ev.e9,hc,d1,d2,f_]
 ·have d1:decide (p.1 < c)=Θ:=p_ c1;have d2:decide (c < p.2)=Δ:=s_ c2;rw[b_ c1,c_ c2,iu];unfold tPt;simp![Ev.e9,hc,d1,d2,f_]
 ·have d1:decide (p.1 < c)=Θ:=p_ c1;have d2:decide (c < p.2)=Θ:=p_ c2;rw[b_ c1,b_ c2];unfold tPt;simp![Ev.e9,hc,d1,d2,f_]
theorem rC {cl:Nat->List D->Res D}(r0 m0:D):∀(run A B:List Pr) (w:Int) (x y z:Option D),A.length+run.length<=1000->B.length+run.length<=1000->
  ∃v x' y' z',forM (Ev.turn cl (.tp [(.nm 5),(.nm 6)]) tPt) (run.map pr2) [Γ r0,Γ m0,Γ (.lst Δ (A.map pr2)),Γ (.lst Δ (B.map pr2)),Γ (.int w),x,y,z]=.ok (.nx [Γ r0,Γ m0,Γ (.lst Δ ((fC run A B w).1.map pr2)),Γ (.lst Δ ((fC run A B w).2.map pr2)),v,x',y',z'])
 |[],A,B,w,x,y,z,_,_=>⟨_,_,_,_,rfl⟩
 |p::r,A,B,w,x,y,z,h1,h2=>by
  rw[List.length_cons]at h1 h2;rw[a_,Ev.cu,xY r0 m0 A B (by omega) (by omega)];have a1:(if p.1 < cAt p w then A++[(p.1,cAt p w)] else A).length<=A.length+1:=by split<;>simp
  have a2:(if cAt p w < p.2 then B++[(cAt p w,p.2)] else B).length<=B.length+1:=by split<;>simp
  exact rC r0 m0 r _ _ _ _ _ _ (by omega) (by omega)
theorem Du {f:Nat}{fn:Fn}(hT:T f=Γ fn)(h0:fn.io=Θ)(h1:fn.np=2)(h2:fn.G.N.length=8)(h3:fn.body=bPt)(n:Nat)(run:List Pr)(hl:run.length<=1000)(w:Int):aj T (n+1) f [.lst Θ (run.map pr2),.int w]=.ok (.tup [.lst Δ ((fC run [] [] w).1.map pr2),.lst Δ ((fC run [] [] w).2.map pr2)]):=by rw[Ev.go hT h0 h1 h2 h3 rfl];unfold bPt;have pe:=fD run;obtain⟨v,x',y',z',e⟩:=rC (cl:=aj T n) (.lst Θ (run.map pr2)) (.int w) run [] [] w Ξ Ξ Ξ (by simpa using hl) (by simpa using hl);generalize tPt=tb at *;rw[List.map_nil]at e;simp![pe,e]
end Rn
namespace Rn
variable {T:Tb}
theorem iX (a b:List Pr):cnt (a++b)=cnt a+cnt b:=by
 induction a with
 |nil=>show cnt b=0+cnt b;omega
 |cons p r ih=>show(p.2 - p.1)+cnt (r++b)=(p.2 - p.1)+cnt r+cnt b;rw[ih];omega
def Pos (run:List Pr):Prop:=∀p∈run,p.1 < p.2
theorem jZ {run:List Pr}(h:Pos run):0<=cnt run:=by
 induction run with
 |nil=>exact Int.le_refl _
 |cons p r ih=>have:=ih fun q hq=>h q (q_ _ hq);have h1:=h p (.head _);show 0<=(p.2 - p.1)+cnt r;omega
noncomputable def mI (x a b:Int):Int:=if a<=x/\x < b then 1 else 0
noncomputable def mc (x:Int):List Pr->Int
 |[]=>0
 |p::r=>mI x p.1 p.2+mc x r
theorem j0 (x:Int)(a b:List Pr):mc x (a++b)=mc x a+mc x b:=by
 induction a with
 |nil=>show mc x b=0+mc x b;omega
 |cons p r ih=>show mI x p.1 p.2+mc x (r++b)=mI x p.1 p.2+mc x r+mc x b;rw[ih];omega
theorem vA {a b c:Int}(x:Int)(h1:a<=b)(h2:b<=c):mI x a b+mI x b c=mI x a c:=by unfold mI;split<;>split<;>split<;>omega
theorem Dv {a b:Int}(x:Int)(h:b<=a):mI x a b=0:=b_ (by omega)
noncomputable def dU:List Pr->List Pr->List Pr
 |[],r=>r
 |[q],[]=>[q]
 |[q],p::rs=>if q.2=p.1 then(q.1,p.2)::rs else q::p::rs
 |q::q'::l,r=>q::dU (q'::l) r
theorem mL:∀l:List Pr,dU l []=l
 |[]=>rfl
 |[q]=>rfl
 |q::q'::l=>by show q::dU (q'::l) []=_;rw[mL (q'::l)]
theorem j5 (q p:Pr)(rs:List Pr):∀c:List Pr,dU (c++[q]) (p::rs)=c++dU [q] (p::rs)
 |[]=>rfl
 |[x]=>rfl
 |x::y::c=>by
  show x::dU (y::(c++[q])) (p::rs)=x::((y::c)++dU [q] (p::rs))
  rw[<- j5 q p rs (y::c)];rfl
theorem rD (xs:List D)(y:D):gp (eqN 39) (xs++[y]) []=.ok Θ:=by cases xs<;>rfl
noncomputable def bJn:List IS:=[(.if_ (.or_ (.cmp .eq (.v 0) (.lst [])) (.or_ (.cmp .eq (.v 1) (.lst [])) (.cmp .ne (.idx (.idx (.v 0) (.neg (.c (.int 1)))) (.c (.int 1))) (.idx (.idx (.v 1) (.c (.int 0))) (.c (.int 0)))))) [(.ret (.bin .add (.v 0) (.v 1)))] []),(.asg (.nm 2) (.tup [(.idx (.idx (.v 0) (.neg (.c (.int 1)))) (.c (.int 0))),(.idx (.idx (.v 1) (.c (.int 0))) (.c (.int 1)))])),(.ret (.bin .add (.bin .add (.sl (.v 0) Ξ (Γ (.neg (.c (.int 1))))) (.lst [(.v 2)])) (.sl (.v 1) (Γ (.c (.int 1))) Ξ)))]
theorem vB (xs:List D)(y:D):ik (xs++[y]) Ξ (Γ (-1))=xs:=by show((xs++[y]).drop 0).take (((-1:Int)+(((xs++[y]).length:Nat):Int)).toNat - 0)=xs;rw[List.drop_zero,Nat.sub_zero,t_,EH,show((-1:Int)+((xs.length+1:Nat):Int)).toNat=xs.length by omega];exact List.take_left
theorem vC (x:D)(ys:List D):ik (x::ys) (Γ 1) Ξ=ys:=by show((x::ys).drop (min 1 (ys.length+1))).take ((ys.length+1) - min 1 (ys.length+1))=ys;rw[show min 1 (ys.length+1)=1 from Nat.min_eq_left (by omega)];exact List.take_length
theorem Dw {f:Nat}{fn:Fn}(hT:T f=Γ fn)(h0:fn.io=Θ)(h1:fn.np=2)(h2:fn.G.N.length=3)(h3:fn.body=bJn)(n:Nat)(l r:List Pr)(ll:l.length<=1000)(lr:r.length<=1000):∃j:List Pr,aj T (n+1) f [.lst Θ (l.map pr2),.lst Θ (r.map pr2)]=.ok (.lst Δ (j.map pr2))/\cnt j=cnt l+cnt r/\(Pos l->Pos r->Pos j/\∀x,mc x j=mc x l+mc x r)/\j.length<=l.length+r.length/\j=dU l r:=by
 rw[Ev.go hT h0 h1 h2 h3 rfl];unfold bJn;have lfA:∀a b:List Pr,cA (a.map pr2++b.map pr2)=Δ:=fun a b=>by rw[<- A_];exact gD _
 rcases List.eq_nil_or_concat l with rfl|⟨c,q,rfl⟩
 ·refine⟨r,?_,by show _=0+_;omega,fun _ h=>⟨h,fun x=>by show _=0+_;omega⟩,by simp,rfl⟩;have lf:=gD r;have lR:(r.map pr2).length<=1000:=by rw[f_];exact lr
  rw[List.map_nil];generalize r.map pr2=R at *;simp![lf]
 ·rw[List.concat_eq_append]at *;obtain⟨ql,qh⟩:=q;have hlen:((c++[(ql,qh)]).map pr2).length=c.length+1:=by simp
  have hln:c.length+1<=1000:=by simpa using ll
  have hne:gp (eqN 39) ((c++[(ql,qh)]).map pr2) []=.ok Θ:=by rw[A_];exact rD _ _
  have hix:gx (.lst Θ ((c++[(ql,qh)]).map pr2)) (.int (-1))=.ok (.tup [.int ql,.int qh]):=by rw[Ev.x_l];unfold atI;rw[hlen];unfold ixN;rw[b_ (by omega),c_ (by omega),show((-1+((c.length+1:Nat):Int))).toNat=c.length by omega];simp[pr2]
  have a0:∀a b:Int,atI [D.int a,.int b] 0=Γ (.int a):=fun _ _=>rfl;have a1:∀a b:Int,atI [D.int a,.int b] 1=Γ (.int b):=fun _ _=>rfl;cases r with
  |nil=>refine⟨c++[(ql,qh)],?_,by show _=_+0;omega,fun h _=>⟨h,fun x=>by show _=_+0;omega⟩,by simp,(mL _).symm⟩;have lf:=gD (c++[(ql,qh)]);generalize(c++[(ql,qh)]).map pr2=L at *;simp![hne,D_,lf]
  |cons p rs=>
   obtain⟨pl,ph⟩:=p;have hz:∀zs:List D,gx (.lst Θ (.tup [.int pl,.int ph]::zs)) (.int 0)=.ok (.tup [.int pl,.int ph]):=by intro zs;rw[Ev.x_l,Ev.nR .non (Int.le_refl 0) (by rw[List.length_cons];omega)];rfl
   have lrs:rs.length+1<=1000:=by simpa using lr
   have hc:(rs.map pr2).length=rs.length:=f_ ..;by_cases e:qh=pl
   ·have eb:(qh == pl)=Δ:=by simpa using e
    refine⟨(c++[(ql,ph)])++rs,?_,?_,fun h1 h2=>⟨fun p hp=>?_,fun x=>?_⟩,by simp<;>omega,?_⟩
    rotate_left
    ·rw[iX,iX,iX];show cnt c+(ph - ql+0)+cnt rs=cnt c+(qh - ql+0)+(ph - pl+cnt rs);omega
    ·have a1:=h1 (ql,qh) (by simp);have a2:=h2 (pl,ph) (by simp);have a1:ql < qh:=a1;have a2:pl < ph:=a2;rcases u_.mp hp with hp|hp
     ·rcases u_.mp hp with hp|hp
      ·exact h1 p (k_ _ hp)
      ·rw[C_.mp hp];show ql < ph;omega
     ·exact h2 p (q_ _ hp)
    ·have a1:ql < qh:=h1 (ql,qh) (by simp);have a2:pl < ph:=h2 (pl,ph) (by simp);rw[j0,j0,j0];show mc x c+(mI x ql ph+0)+mc x rs=mc x c+(mI x ql qh+0)+(mI x pl ph+mc x rs);rw[e,<- vA x (a:=ql) (b:=pl) (c:=ph) (by omega) (by omega)];omega
    ·rw[j5];show _=c++(if qh=pl then(ql,ph)::rs else(ql,qh)::(pl,ph)::rs)
     rw[c_ e,o_];rfl
    have lf:=lfA (c++[(ql,ph)]) rs;have hcut:ik ((c++[(ql,qh)]).map pr2) Ξ (Γ (-1))=c.map pr2:=by rw[A_];exact vB _ _
    have hc2:(c.map pr2).length=c.length:=f_ ..;have hct:=vC (.tup [.int pl,.int ph]) (rs.map pr2);rw[A_ (l₁:=c++[(ql,ph)]),iu c (ql,ph)];rw[iu c (ql,ph)]at lf;rw[show((pl,ph)::rs).map pr2=.tup [.int pl,.int ph]::rs.map pr2 from rfl];generalize rs.map pr2=R,(c++[(ql,qh)]).map pr2=L,c.map pr2=C at *;simp![hne,hix,hz,a0,a1,eb,Ev.x_t,lf,hlen,hc,hc2,hcut,hct,t_]
   ·have eb:(qh == pl)=Θ:=by simpa using e
    refine⟨(c++[(ql,qh)])++((pl,ph)::rs),?_,iX _ _,fun h1 h2=>⟨fun p hp=>(u_.mp hp).elim (h1 p) (h2 p),fun x=>j0 x _ _⟩,by rw[t_];exact n_ _,by
     rw[j5];show _=c++(if qh=pl then(ql,ph)::rs else(ql,qh)::(pl,ph)::rs)
     rw[b_ e,o_]
     rfl⟩
    have lf:=lfA (c++[(ql,qh)]) ((pl,ph)::rs);rw[A_ (l₁:=c++[(ql,qh)]) (l₂:=(pl,ph)::rs),show((pl,ph)::rs).map pr2=.tup [.int pl,.int ph]::rs.map pr2 from rfl];rw[show((pl,ph)::rs).map pr2=.tup [.int pl,.int ph]::rs.map pr2 from rfl]at lf;generalize rs.map pr2=R,(c++[(ql,qh)]).map pr2=L at *;simp![hne,hix,hz,a0,a1,eb,Ev.x_t,lf,hlen,hc]
end Rn
end L2
namespace Law
open PySem PySem.Spec L2 L2.Fr L2.Rn
theorem xZ (run:List Pr):(run.map fun p:Pr=>p.2 - p.1).sum=cnt run:=by
 induction run with
 |nil=>rfl
 |cons p r ih=>rw[a_,List.sum_cons,ih];rfl
theorem kq (n:Nat)(run:List Pr)(hl:run.length<=1000):aj T (n+1) 22 [.lst Θ (run.map pr2)]=.ok (.int (cnt run)):=by
 rw[Ev.go (show T 22=Γ d22 from rfl) (show d22.io=Θ from rfl) (show d22.np=1 from rfl) (show d22.G.N.length=1 from rfl) (show d22.body=b22 from rfl) rfl];unfold b22;have lc:(run.map pr2).length=run.length:=f_ ..;have e1:fT (fN (aj T n) (.tp [(.nm 0),(.nm 1)]) [] (.bin .sub (.v 1) (.v 0)) [Ξ,Ξ]) (run.map pr2)=.ok ((run.map fun p:Pr=>p.2 - p.1).map .int):=by refine Ev.gC pr2 (fun p:Pr=>p.2 - p.1) .int run fun p _=>?_;obtain⟨l,h⟩:=p;unfold pr2;simp![ev0]
 have e2:∀o,ip .sum [.lst o ((run.map fun p:Pr=>p.2 - p.1).map .int)]=.ok (.int (cnt run)):=fun o=>by rw[Ev.vg (by rw[f_];omega),xZ]
 simp![e1,e2]
abbrev Rw:=Str×List Pr
noncomputable def dQ (o:Bool)(p:Rw):D:=.tup [.str p.1,.lst o (p.2.map pr2)]
noncomputable def alt (o o' o'':Bool)(rows:List Rw)(free:List Pr):D:=.tup [.lst o (rows.map (dQ o')),.lst o'' (free.map pr2)]
theorem BA (o:Bool)(p:Rw):er (dQ o p)=dQ Θ p:=by unfold dQ;rw[er,ers,ers,ers,er,er,fD]
theorem hJ (o:Bool)(rows:List Rw):ers (rows.map (dQ o))=rows.map (dQ Θ):=by rw[gP,EB];exact E0 fun p _=>BA o p
theorem iO (o o' o'':Bool)(rows:List Rw)(free:List Pr):er (alt o o' o'' rows free)=alt Θ Θ Θ rows free:=by unfold alt;rw[er,ers,ers,ers,er,er,fD,hJ]
abbrev Sh:=Str×Int
noncomputable def shD (p:Sh):D:=.tup [.str p.1,.int p.2]
theorem pk (ps:List Sh):cA (ps.map shD)=Δ:=by rw[fO,List.all_map,ED];intro x _;rfl
theorem vD (ps:List Sh):ers (ps.map shD)=ps.map shD:=gm (pk ps)
noncomputable def szs (rows:List Rw):List Sh:=rows.map fun p=>(p.1,cnt p.2)
theorem mM (n:Nat)(rows:List Rw)(free:List Pr)(hl:rows.length<=1000)(hr:∀p∈rows,p.2.length<=1000):aj T (n+2) 28 [alt Θ Θ Θ rows free]=.ok (.lst Δ ((szs rows).map shD)):=by
 have e1:fT (fN (aj T (n+1)) (.tp [(.nm 0),(.nm 1)]) [] (.tup [(.v 0),(.call 22 [(.v 1)])]) [Ξ,Ξ]) (rows.map (dQ Θ))=.ok ((rows.map fun p:Rw=>(p.1,cnt p.2)).map shD):=by refine Ev.gC (dQ Θ) (fun p:Rw=>(p.1,cnt p.2)) shD rows fun p hp=>?_;have e:=kq n p.2 (hr p hp);have pe:=fD p.2;unfold dQ shD;simp![e,pe]
 have x0:gx (alt Θ Θ Θ rows free) (.int 0)=.ok (.lst Θ (rows.map (dQ Θ))):=rfl;have lm:(rows.map (dQ Θ)).length=rows.length:=f_ _;have lf:=pk (szs rows);unfold szs at *;rw[Ev.go (show T 28=Γ d28 from rfl) (show d28.io=Θ from rfl) (show d28.np=1 from rfl) (show d28.G.N.length=1 from rfl) (show d28.body=b28 from rfl) rfl];unfold b28;generalize alt Θ Θ Θ rows free=A,(rows.map fun p:Rw=>(p.1,cnt p.2)).map shD=Q,rows.map (dQ Θ)=R at *;simp![x0,e1,lm,lf]
theorem qg:∀(r A B:List Pr) (w:Int),Pos r->0<=w->Pos A->Pos B->cnt (fC r A B w).1=cnt A+(if w < cnt r then w else cnt r)/\cnt (fC r A B w).2=cnt B+cnt r - (if w < cnt r then w else cnt r)/\Pos (fC r A B w).1/\Pos (fC r A B w).2
 |[],A,B,w,_,hw,hA,hB=>by show cnt A=cnt A+(if w < 0 then w else 0)/\cnt B=cnt B+0 - (if w < 0 then w else 0)/\Pos A/\Pos B;rw[b_ (by omega)];exact⟨by omega,by omega,hA,hB⟩
 |p::r,A,B,w,hp,hw,hA,hB=>by
  have h1:p.1 < p.2:=hp p (.head _);have hr:Pos r:=fun q hq=>hp q (q_ _ hq);have hc:=jZ hr;have c1:p.1<=cAt p w/\cAt p w<=p.2:=by unfold cAt;split<;>omega
  have c2:cAt p w - p.1=if w < p.2 - p.1 then w else p.2 - p.1:=by unfold cAt;split<;>split<;>omega
  have pA:Pos (if p.1 < cAt p w then A++[(p.1,cAt p w)] else A):=by
   split
   ·intro q hq;rcases u_.mp hq with hq|hq
    ·exact hA q hq
    ·rw[C_.mp hq];assumption
   ·exact hA
  have pB:Pos (if cAt p w < p.2 then B++[(cAt p w,p.2)] else B):=by
   split
   ·intro q hq;rcases u_.mp hq with hq|hq
    ·exact hB q hq
    ·rw[C_.mp hq];assumption
   ·exact hB
  obtain⟨i1,i2,i3,i4⟩:=qg r _ _ (w - (cAt p w - p.1)) hr (by rw[c2];split<;>omega) pA pB;have sA:cnt (if p.1 < cAt p w then A++[(p.1,cAt p w)] else A)=cnt A+(cAt p w - p.1):=by
   split
   ·rw[iX];show cnt A+(cAt p w - p.1+0)=_;omega
   ·omega
  have sB:cnt (if cAt p w < p.2 then B++[(cAt p w,p.2)] else B)=cnt B+(p.2 - cAt p w):=by
   split
   ·rw[iX];show cnt B+(p.2 - cAt p w+0)=_;omega
   ·omega
  unfold fC;have ec:cnt (p::r)=(p.2 - p.1)+cnt r:=rfl;refine⟨?_,?_,i3,i4⟩
  ·rw[i1,sA,ec,c2];split<;>split<;>split<;>omega
  ·rw[i2,sB,ec];have:cAt p w=p.1+if w < p.2 - p.1 then w else p.2 - p.1:=by omega
   rw[this];split<;>split<;>split<;>omega
theorem rE:∀(r A B:List Pr) (w:Int),Pos r->0<=w->(fC r A B w).1.length+(fC r A B w).2.length<=A.length+B.length+r.length+1/\(w=0->(fC r A B w).1.length+(fC r A B w).2.length<=A.length+B.length+r.length)
 |[],A,B,w,_,_=>⟨by show A.length+B.length<=_;rw[List.length_nil];omega,fun _=>by show A.length+B.length<=_;rw[List.length_nil];omega⟩
 |p::r,A,B,w,hp,hw=>by
  have h1:p.1 < p.2:=hp p (.head _);have hr:Pos r:=fun q hq=>hp q (q_ _ hq);have c2:cAt p w - p.1=if w < p.2 - p.1 then w else p.2 - p.1:=by unfold cAt;split<;>split<;>omega
  have hw':0<=w - (cAt p w - p.1):=by rw[c2];split<;>omega
  obtain⟨i1,i2⟩:=rE r (if p.1 < cAt p w then A++[(p.1,cAt p w)] else A) (if cAt p w < p.2 then B++[(cAt p w,p.2)] else B) (w - (cAt p w - p.1)) hr hw';have lA:(if p.1 < cAt p w then A++[(p.1,cAt p w)] else A).length=A.length+if p.1 < cAt p w then 1 else 0:=by split<;>simp
  have lB:(if cAt p w < p.2 then B++[(cAt p w,p.2)] else B).length=B.length+if cAt p w < p.2 then 1 else 0:=by split<;>simp
  rw[lA,lB]at i1 i2;unfold fC;rw[List.length_cons];have kA:(if p.1 < cAt p w then 1 else 0)<=1:=by split<;>omega
  have kB:(if cAt p w < p.2 then 1 else 0)<=1:=by split<;>omega
  have zA:¬p.1 < cAt p w->(if p.1 < cAt p w then 1 else 0)=0:=fun h=>b_ h;have zB:¬cAt p w < p.2->(if cAt p w < p.2 then 1 else 0)=0:=fun h=>b_ h;generalize(fC r _ _ _).1.length=l1,(fC r _ _ _).2.length=l2,(if p.1 < cAt p w then 1 else 0)=d1,(if cAt p w < p.2 then 1 else 0)=d2 at *;by_cases hz:w < p.2 - p.1
  ·rw[c_ hz]at c2;have i2:=i2 (by omega);exact⟨by omega,fun e=>by have:=zA (by omega);omega⟩
  ·rw[b_ hz]at c2;have:=zB (by omega);exact⟨by omega,fun e=>by omega⟩
theorem vE (x:Int):∀(r A B:List Pr) (w:Int),Pos r->0<=w->mc x (fC r A B w).1+mc x (fC r A B w).2=mc x A+mc x B+mc x r
 |[],A,B,w,_,_=>by show mc x A+mc x B=mc x A+mc x B+0;omega
 |p::r,A,B,w,hp,hw=>by
  have h1:p.1 < p.2:=hp p (.head _);have hr:Pos r:=fun q hq=>hp q (q_ _ hq);have c1:p.1<=cAt p w/\cAt p w<=p.2:=by unfold cAt;split<;>omega
  have c2:cAt p w - p.1=if w < p.2 - p.1 then w else p.2 - p.1:=by unfold cAt;split<;>split<;>omega
  have i:=vE x r (if p.1 < cAt p w then A++[(p.1,cAt p w)] else A) (if cAt p w < p.2 then B++[(cAt p w,p.2)] else B) (w - (cAt p w - p.1)) hr (by rw[c2];split<;>omega);have sA:mc x (if p.1 < cAt p w then A++[(p.1,cAt p w)] else A)=mc x A+mI x p.1 (cAt p w):=by
   split
   ·rw[j0];show mc x A+(mI x p.1 (cAt p w)+0)=_;omega
   ·rw[Dv x (by omega)];omega
  have sB:mc x (if cAt p w < p.2 then B++[(cAt p w,p.2)] else B)=mc x B+mI x (cAt p w) p.2:=by
   split
   ·rw[j0];show mc x B+(mI x (cAt p w) p.2+0)=_;omega
   ·rw[Dv x (by omega)];omega
  unfold fC;rw[i,sA,sB];show _=_+(mI x p.1 p.2+mc x r);rw[<- vA x c1.1 c1.2];omega
theorem rF (n:Nat)(run:List Pr)(w:Int)(hl:run.length<=1000)(hp:Pos run)(hw:0<=w):∃a b:List Pr,aj T (n+1) 23 [.lst Θ (run.map pr2),.int w]=.ok (.tup [.lst Δ (a.map pr2),.lst Δ (b.map pr2)])/\
  cnt a=(if w < cnt run then w else cnt run)/\cnt b=cnt run - (if w < cnt run then w else cnt run)/\Pos a/\Pos b/\a.length<=run.length/\b.length<=run.length/\a.length+b.length<=run.length+1/\(∀x,mc x a+mc x b=mc x run)/\a=(fC run [] [] w).1/\b=(fC run [] [] w).2:=by
 obtain⟨h1,h2,h3,h4⟩:=qg run [] [] w hp hw (fun _ h=>by cases h) (fun _ h=>by cases h);obtain⟨l1,l2⟩:=jI run [] [] w;refine⟨_,_,Du (show T 23=Γ d23 from rfl) rfl rfl rfl rfl n run hl w,?_,?_,h3,h4,by simpa using l1,by simpa using l2,by have:=(rE run [] [] w hp hw).1;simpa using this,fun x=>by rw[vE x run [] [] w hp hw];show 0+0+_=_;omega,rfl,rfl⟩
 ·rw[h1];show 0+_=_;omega
 ·rw[h2];show 0+_ - _=_;omega
theorem rG (n:Nat)(l r:List Pr)(ll:l.length<=1000)(lr:r.length<=1000):∃j:List Pr,aj T (n+1) 24 [.lst Θ (l.map pr2),.lst Θ (r.map pr2)]=.ok (.lst Δ (j.map pr2))/\cnt j=cnt l+cnt r/\(Pos l->Pos r->Pos j/\∀x,mc x j=mc x l+mc x r)/\j.length<=l.length+r.length/\j=dU l r:=
 Dw (show T 24=Γ d24 from rfl) rfl rfl rfl rfl n l r ll lr
noncomputable def kf (f:Str):Key:=.inr f
noncomputable def iv (v:Str->Int)(f:Str):D:=.int (v f)
noncomputable def dF (o:Bool)(fs:List Str)(v:Str->Int):D:=.dct o (fs.map kf) (fs.map (iv v))
noncomputable def up (v:Str->Int)(f:Str)(x:Int):Str->Int:=fun g=>if g=f then x else v g
noncomputable def ups:(Str->Int)->List Sh->Str->Int
 |v,[]=>v
 |v,p::ps=>ups (up v p.1 p.2) ps
theorem kf_eq {f g:Str}:(kf f=kf g)=(f=g):=by unfold kf;exact propext ⟨fun h=>Sum.inr.inj h,fun h=>by rw[h]⟩
theorem qi (v:Str->Int){f:Str}:∀ {fs:List Str},f∈fs->look (fs.map kf) (fs.map (iv v)) (kf f)=Γ (.int (v f))
 |g::fs,h=>by
  show(if kf g=kf f then Γ (iv v g) else look (fs.map kf) (fs.map (iv v)) (kf f))=_;by_cases e:g=f
  ·rw[c_ (by rw[e]),e];rfl
  ·rw[b_ (by rw[kf_eq];exact e)];exact qi v ((j_.mp h).resolve_left fun z=>e z.symm)
theorem vF (v:Str->Int){f:Str}:∀ {fs:List Str},f∉fs->look (fs.map kf) (fs.map (iv v)) (kf f)=Ξ
 |[],_=>rfl
 |g::fs,h=>by show(if kf g=kf f then Γ (iv v g) else look (fs.map kf) (fs.map (iv v)) (kf f))=_;rw[b_ (by rw[kf_eq];exact fun e=>h (by rw[e];exact .head _))];exact vF v fun z=>h (q_ _ z)
theorem sW (v:Str->Int)(f:Str)(fs:List Str):(look (fs.map kf) (fs.map (iv v)) (kf f)).isSome=decide (f∈fs):=by
 by_cases h:f∈fs
 ·rw[qi v h,s_ h];rfl
 ·rw[vF v h,p_ h];rfl
theorem pq (f:Str):∀fs:List Str,oK (fs.map kf) (kf f)=decide (f∈fs)
 |[]=>rfl
 |g::fs=>by
  have ih:=pq f fs;unfold oK at *;rw[a_,List.any_cons,ih];by_cases e:g=f
  ·rw[e];simp
  ·have:decide (kf g=kf f)=Θ:=p_ (by rw[kf_eq];exact e);rw[this,Bool.false_or];have e':¬f=g:=fun z=>e z.symm;simp[e']
theorem rH (v:Str->Int)(x:Int){f:Str}{fs:List Str}(h:f∈fs):f9 (fs.map kf) (kf f)=fs.map kf/\fL (fs.map kf) (fs.map (iv v)) (kf f) (.int x)=fs.map (iv (up v f x)):=by
 unfold f9 fL;rw[pq,s_ h,c_ rfl,c_ rfl];refine⟨rfl,?_⟩;clear h
 induction fs with
 |nil=>rfl
 |cons g fs ih=>
  rw[a_,a_,List.zipWith_cons_cons,ih,a_];congr 1;unfold iv up;by_cases e:g=f
  ·rw[c_ (by rw[e]),c_ e]
  ·rw[b_ (by rw[kf_eq];exact e),b_ e]
theorem Dx (v:Str->Int)(x:Int){f:Str}{fs:List Str}(h:f∉fs):fs.map (iv (up v f x))=fs.map (iv v):=
 E0 fun g hg=>by unfold iv up;rw[b_ fun e=>h (by rw[<- e];exact hg)]
theorem rJ (v:Str->Int)(x:Int){f:Str}{fs:List Str}(h:f∉fs):f9 (fs.map kf) (kf f)=(fs++[f]).map kf/\fL (fs.map kf) (fs.map (iv v)) (kf f) (.int x)=(fs++[f]).map (iv (up v f x)):=by
 unfold f9 fL;rw[pq,p_ h,b_ EC,b_ EC,A_,A_,Dx v x h];refine⟨rfl,?_⟩;congr 1;show [D.int x]=[.int (if f=f then x else v f)]
 rw[c_ rfl]
theorem pv (v:Str->Int)(fs:List Str):cA (fs.map (iv v))=Δ:=by rw[fO,List.all_map,ED];intro x _;rfl
theorem lC (v:Str->Int)(fs:List Str):gw (fs.map (iv v))=Δ:=by unfold gw;rw[List.all_map,ED];intro x _;rfl
theorem zt (v:Str->Int)(fs:List Str):ers (fs.map (iv v))=fs.map (iv v):=gm (pv v fs)
theorem rK (o:Bool)(fs:List Str)(v:Str->Int):er (dF o fs v)=dF Θ fs v:=by unfold dF;rw[er,zt]
theorem rL (v:Str->Int):∀fs:List Str,gy (fs.map (iv v))=Γ (fs.map v)
 |[]=>rfl
 |f::fs=>by show(gy (fs.map (iv v))).map (v f::·)=_;rw[rL v fs];rfl
theorem Dy (o:Bool)(fs:List Str)(v:Str->Int):qI (dF o fs v)=.ok (.int (fs.map v).sum):=by show(match gy (fs.map (iv v)) with|some ns=>(.ok (.int ns.sum):Res D)|none=>stk)=_;rw[rL]
theorem lD (o:Bool){fs:List Str}(v:Str->Int){f:Str}(h:f∈fs):mf (dF o fs v) (.str f)=.ok (.int (v f)):=by show(match look (fs.map kf) (fs.map (iv v)) (kf f) with|some d=>(.ok d:Res D)|none=>stk)=_;rw[qi v h]
theorem Dz (o n:Bool)(fs:List Str)(v:Str->Int)(f:Str):Ev.Bg n (.str f) (dF o fs v)=.ok (.bl (n != decide (f∈fs))):=by show(.ok (.bl (n != (look (fs.map kf) (fs.map (iv v)) (kf f)).isSome)):Res D)=_;rw[sW]
noncomputable def ovr (c:Str->Int)(ns:List Str)(u:Str->Int):Str->Int:=fun f=>if f∈ns then u f else c f
theorem vG:∀(ps:List Sh) (v v':Str->Int) (f:Str),f∈ps.map (·.1)->ups v ps f=ups v' ps f
 |[],_,_,_,h=>by cases h
 |p::ps,v,v',f,h=>by
  show ups (up v p.1 p.2) ps f=ups (up v' p.1 p.2) ps f;by_cases e:f∈ps.map (·.1)
  ·exact vG ps _ _ f e
  ·have ef:f=p.1:=(j_.mp h).resolve_right e;have key:∀(ps:List Sh) (w:Str->Int),f∉ps.map (·.1)->ups w ps f=w f:=by
    intro ps
    induction ps with
    |nil=>intro w _;rfl
    |cons q ps ih=>intro w hn;show ups (up w q.1 q.2) ps f=w f;rw[ih _ fun z=>hn (q_ _ z)];unfold up;rw[b_ fun z=>hn (by rw[z];exact .head _)]
   rw[key ps _ e,key ps _ e];unfold up;rw[c_ ef,c_ ef]
theorem rM:∀(ps:List Sh) (w:Str->Int) (f:Str),f∉ps.map (·.1)->ups w ps f=w f
 |[],_,_,_=>rfl
 |q::ps,w,f,hn=>by show ups (up w q.1 q.2) ps f=w f;rw[rM ps _ f fun z=>hn (q_ _ z)];unfold up;rw[b_ fun z=>hn (by rw[z];exact .head _)]
theorem ya (c z:Str->Int)(ps:List Sh)(f:Str):ovr c (ps.map (·.1)) (ups z ps) f=ups c ps f:=by
 unfold ovr;by_cases h:f∈ps.map (·.1)
 ·rw[c_ h];exact vG ps _ _ f h
 ·rw[b_ h,rM ps c f h]
theorem vH (fs:List Str)(u:Str->Int):∀(ns:List Str) (c:Str->Int),(∀f∈ns,f∈fs)->mrg (ns.map fun f=>(kf f,iv u f)) (fs.map kf) (fs.map (iv c))=(fs.map kf,fs.map (iv (ovr c ns u)))
 |[],c,_=>rfl
 |f::ns,c,h=>by
  show mrg (ns.map fun f=>(kf f,iv u f)) (f9 (fs.map kf) (kf f)) (fL (fs.map kf) (fs.map (iv c)) (kf f) (.int (u f)))=_;obtain⟨h1,h2⟩:=rH c (u f) (h f (.head _));rw[h1,h2,vH fs u ns _ fun g hg=>h g (q_ _ hg)];congr 1;refine E0 fun g _=>?_;unfold iv ovr up;by_cases a:g∈ns
  ·rw[c_ a,c_ (q_ _ a)]
  ·rw[b_ a];by_cases b:g=f
   ·rw[c_ b,c_ (by rw[b];exact .head _),b]
   ·rw[b_ b,b_ fun z=>(j_.mp z).elim b a]
theorem rN (c:Str->Int):∀(gs ns:List Str),(ns++gs).Nodup->mrg (gs.map fun f=>(kf f,iv c f)) (ns.map kf) (ns.map (iv c))=((ns++gs).map kf,(ns++gs).map (iv c))
 |[],ns,_=>by rw[D_];rfl
 |f::gs,ns,h=>by
  show mrg (gs.map fun f=>(kf f,iv c f)) (f9 (ns.map kf) (kf f)) (fL (ns.map kf) (ns.map (iv c)) (kf f) (.int (c f)))=_;have nf:f∉ns:=fun z=>(h_.mp h).2.2 f z f (.head _) rfl;obtain⟨h1,h2⟩:=rJ c (c f) nf;have e:(ns++[f]).map (iv (up c f (c f)))=(ns++[f]).map (iv c):=E0 fun g _=>by
   unfold iv up;by_cases b:g=f
   ·rw[c_ b,b]
   ·rw[b_ b]
  have h':((ns++[f])++gs).Nodup:=by rw[o_];exact h
  rw[h1,h2,e,rN c gs (ns++[f]) h',o_];rfl
theorem zu (c:Str->Int):∀fs:List Str,jx ((fs.map fun f=>((f,c f):Sh)).map shD)=Γ (fs.map fun f=>(kf f,iv c f))
 |[]=>rfl
 |f::fs=>by show(match iq (.str f),jx ((fs.map fun f=>((f,c f):Sh)).map shD) with|some q,Γ ps=>Γ ((q,D.int (c f))::ps)|_,_=>Ξ)=_;rw[zu c fs];rfl
theorem DA (j:Nat)(τ:Ev)(o:Bool)(c:Str->Int){fs:List Str}(h:fs.Nodup):sM j τ (.lst o ((fs.map fun f=>((f,c f):Sh)).map shD))=.ok (τ.set j (Γ (dF Δ fs c))):=by
 have e:=rN c fs [] h;have e:mrg (fs.map fun f=>(kf f,iv c f)) [] []=(fs.map kf,fs.map (iv c)):=e;have s:gw ((fs.map fun f=>(kf f,iv c f)).map (·.2))=Δ:=by rw[EB];exact lC c fs
 show(match jx ((fs.map fun f=>((f,c f):Sh)).map shD) with|some ps=>grd (gw (ps.map (fun p:Key×D=>p.2))) (.ok (τ.set j (Γ (D.dct Δ (mrg ps [] []).1 (mrg ps [] []).2))))|none=>stk)=_;rw[zu];show grd (gw ((fs.map fun f=>(kf f,iv c f)).map (·.2))) _=_;rw[s,e];rfl
theorem zv (u:Str->Int):∀ns:List Str,(ns.map kf).zip (ns.map (iv u))=ns.map fun f=>(kf f,iv u f)
 |[]=>rfl
 |f::ns=>by rw[a_,a_,List.zip_cons_cons,zv u ns];rfl
theorem DB (i:Nat)(τ:Ev)(o:Bool)(c u:Str->Int){fs ns:List Str}(h:∀f∈ns,f∈fs)(hl:fs.length+ns.length<=1000):ua i τ (Γ (dF Δ fs c)) (Γ (dF o ns u))=.ok (τ.set i (Γ (dF Δ fs (ovr c ns u)))):=by show grd (gw (fs.map (iv c))&&gw (ns.map (iv u))&&f7 ((fs.map kf).length+(ns.map kf).length)) (.ok (τ.set i (Γ (.dct Δ (mrg ((ns.map kf).zip (ns.map (iv u))) (fs.map kf) (fs.map (iv c))).1 (mrg ((ns.map kf).zip (ns.map (iv u))) (fs.map kf) (fs.map (iv c))).2))))=_;rw[lC,lC,f_,f_,Ev.lu (by omega),zv,vH fs u ns c h];rfl
theorem yb (cl:Nat->List D->Res D)(i:Nat)(k:IR)(τ:Ev){f:Str}{fs:List Str}{v:Str->Int}{x:Int}(hk:evR cl k τ=.ok (.str f))(h:f∈fs)(hl:fs.length<=1000):Ev.jh cl i k τ (.int x) (Γ (dF Δ fs v))=.ok (.nx (τ.set i (Γ (dF Δ fs (up v f x))))):=by obtain⟨h1,h2⟩:=rH v x h;show Ev.jh cl i k τ (.int x) (Γ (.dct Δ (fs.map kf) (fs.map (iv v))))=_;rw[Ev.ko hk (by rw[pv,f_,Ev.jr (by omega)];rfl)];show(.ok (.nx (τ.set i (Γ (.dct Δ (f9 (fs.map kf) (kf f)) (fL (fs.map kf) (fs.map (iv v)) (kf f) (.int x)))))):Res Fl)=_;rw[h1,h2];rfl
theorem rO (cl:Nat->List D->Res D)(i:Nat)(k:IR)(τ:Ev){f:Str}{fs:List Str}{v:Str->Int}{x:Int}(hk:evR cl k τ=.ok (.str f))(h:f∉fs)(hl:fs.length<=1000):Ev.jh cl i k τ (.int x) (Γ (dF Δ fs v))=.ok (.nx (τ.set i (Γ (dF Δ (fs++[f]) (up v f x))))):=by obtain⟨h1,h2⟩:=rJ v x h;show Ev.jh cl i k τ (.int x) (Γ (.dct Δ (fs.map kf) (fs.map (iv v))))=_;rw[Ev.ko hk (by rw[pv,f_,Ev.jr (by omega)];rfl)];show(.ok (.nx (τ.set i (Γ (.dct Δ (f9 (fs.map kf) (kf f)) (fL (fs.map kf) (fs.map (iv v)) (kf f) (.int x)))))):Res Fl)=_;rw[h1,h2];rfl
noncomputable def tW:List IS:=[(.if_ (.din Δ (.v 4) (.v 2)) [.never] []),(.if_ (.din Θ (.v 4) (.v 3)) [.never] []),(.if_ (.cmp .lt (.v 5) (.c (.int 0))) [.never] []),(.dset 3 (.v 4) (.v 5))]
theorem BC (cl:Nat->List D->Res D)(a0 s0:D){fs seen:List Str}(c u:Str->Int)(p:Sh)(hl:seen.length<=1000)(h1:p.1∈fs)(h2:p.1∉seen)(h3:0<=p.2)(x y:Option D) :
  Ev.turn cl (.tp [(.nm 4),(.nm 5)]) tW (shD p) [Γ a0,Γ s0,Γ (dF Δ fs c),Γ (dF Δ seen u),x,y] =
   .ok (.nx [Γ a0,Γ s0,Γ (dF Δ fs c),Γ (dF Δ (seen++[p.1]) (up u p.1 p.2)),Γ (.str p.1),Γ (.int p.2)]):=by
 obtain⟨f,v⟩:=p;have i1:=Dz Δ Δ fs c f;have i2:=Dz Δ Θ seen u f;have st2:Ev.jh cl 3 (.v 4) [Γ a0,Γ s0,Γ (dF Δ fs c),Γ (dF Δ seen u),Γ (.str f),Γ (.int v)] (.int v) (Γ (dF Δ seen u))=.ok (.nx [Γ a0,Γ s0,Γ (dF Δ fs c),Γ (dF Δ (seen++[f]) (up u f v)),Γ (.str f),Γ (.int v)]):=rO cl 3 (.v 4) _ rfl h2 hl;show Ev.turn cl (.tp [(.nm 4),(.nm 5)]) tW (.tup [.str f,.int v]) _=.ok (.nx [_,_,_,Γ (dF Δ (seen++[f]) (up u f v)),Γ (.str f),Γ (.int v)]);rw[s_ h1]at i1;rw[p_ h2]at i2;have d3:decide (v < 0)=Θ:=p_ (by have h3:0<=v:=h3;omega);generalize dF Δ fs c=W,dF Δ seen u=S,dF Δ (seen++[f]) (up u f v)=S' at *;unfold tW;simp![Ev.e9,i1,i2,d3,st2,bne_self_eq_false,Bool.false_bne]
theorem vI (cl:Nat->List D->Res D)(a0 s0:D){fs:List Str}(c:Str->Int):∀(ps:List Sh) (seen:List Str) (u:Str->Int) (x y:Option D),seen.length+ps.length<=1000->(∀p∈ps,p.1∈fs/\0<=p.2)->(seen++ps.map (·.1)).Nodup->
  ∃x' y',forM (Ev.turn cl (.tp [(.nm 4),(.nm 5)]) tW) (ps.map shD) [Γ a0,Γ s0,Γ (dF Δ fs c),Γ (dF Δ seen u),x,y]=.ok (.nx [Γ a0,Γ s0,Γ (dF Δ fs c),Γ (dF Δ (seen++ps.map (·.1)) (ups u ps)),x',y'])
 |[],seen,u,x,y,_,_,_=>⟨x,y,by rw[List.map_nil,List.map_nil,D_];rfl⟩
 |p::ps,seen,u,x,y,hl,hp,nd=>by
  rw[List.length_cons]at hl;have e1:seen++(p::ps).map (·.1)=(seen++[p.1])++ps.map (·.1):=by rw[a_,o_];rfl
  rw[e1]at nd ⊢;have h2:p.1∉seen:=fun z=>by have n1:=(h_.mp nd).1;exact(h_.mp n1).2.2 p.1 z p.1 (C_.mpr rfl) rfl
  have ht:=BC cl a0 s0 (fs:=fs) (seen:=seen) c u p (by omega) (hp p (.head _)).1 h2 (hp p (.head _)).2 x y;obtain⟨x',y',e⟩:=vI cl a0 s0 (fs:=fs) c ps (seen++[p.1]) (up u p.1 p.2) (Γ (.str p.1)) (Γ (.int p.2)) (by rw[t_,EH];omega) (fun q hq=>hp q (q_ _ hq)) nd;refine⟨x',y',?_⟩;rw[a_,Ev.cu,ht];exact e
noncomputable def lsum (rows:List Rw):Nat:=(rows.map fun p=>p.2.length).sum
noncomputable def rmc (x:Int)(rows:List Rw):Int:=(rows.map fun p=>mc x p.2).sum
theorem jJ:∀ {rows:List Rw}{p:Rw},p∈rows->p.2.length<=lsum rows
 |q::rows,p,h=>by
  show _<=q.2.length+lsum rows;rcases j_.mp h with rfl|h
  ·omega
  ·have:=jJ h;omega
structure Al (fs:List Str)(c:Str->Int)(rows:List Rw)(free:List Pr)(L:Nat):Prop where
 nod:fs.Nodup
 few:fs.length<=6
 sz:szs rows=fs.map fun f=>(f,c f)
 pos:∀p∈rows,Pos p.2
 posf:Pos free
 len:lsum rows+free.length<=L
 tot:(fs.map c).sum+cnt free=10007
 cov:∀x,rmc x rows+mc x free=mI x 0 10007
theorem Al.rlen {fs:List Str}{c:Str->Int}{rows:List Rw}{free:List Pr}{L:Nat}(a:Al fs c rows free L):rows.length=fs.length:=by
 have:=congrArg List.length a.sz;unfold szs at this
 rwa [f_,f_]at this
theorem yd (n:Nat){fs:List Str}{c:Str->Int}{rows:List Rw}{free:List Pr}{L:Nat}(a:Al fs c rows free L)(hL:L<=1000)(ps:List Sh)(hp:ps.length<=100)(hin:∀p∈ps,p.1∈fs/\0<=p.2)(nd:(ps.map (·.1)).Nodup)(hs:(fs.map (ups c ps)).sum<=10007) :
  aj T (n+3) 29 [alt Θ Θ Θ rows free,.lst Θ (ps.map shD)]=.ok (dF Δ fs (ups c ps)):=by
 have hrl:=a.rlen;have hf:=a.few;have e1:=mM n rows free (by omega) fun p h=>by have h1:=jJ h;have h2:=a.len;omega
 rw[a.sz]at e1;have ae:=iO Θ Θ Θ rows free;have e2:=DA (j:=2) (τ:=[Γ (alt Θ Θ Θ rows free),Γ (.lst Θ (ps.map shD)),Ξ,Ξ,Ξ,Ξ]) (o:=Δ) c a.nod;have pe:=vD ps;obtain⟨x',y',i⟩:=vI (aj T (n+2)) (alt Θ Θ Θ rows free) (.lst Θ (ps.map shD)) (fs:=fs) c ps [] (fun _=>0) Ξ Ξ (by rw[List.length_nil];omega) hin nd;have hd0:dF Δ [] (fun _=>0)=.dct Δ [] []:=rfl;rw[hd0]at i;have body:b29=[(.dof 2 (.call 28 [(.v 0)])),(.asg (.nm 3) .dnew),(.for_ (.tp [(.nm 4),(.nm 5)]) (.val (.v 1)) tW),(.dupd 2 3),(.if_ (.cmp .gt (.dsum (.v 2)) (.g 21 (.int 10007))) [.never] []),(.ret (.v 2))]:=rfl;rw[Ev.go (show T 29=Γ d29 from rfl) (show d29.io=Θ from rfl) (show d29.np=2 from rfl) (show d29.G.N.length=6 from rfl) (show d29.body=_ from body) rfl];have e2':sM 2 [Γ (alt Θ Θ Θ rows free),Γ (.lst Θ (ps.map shD)),Ξ,Ξ,Ξ,Ξ] (.lst Δ ((fs.map fun f=>((f,c f):Sh)).map shD))=.ok [Γ (alt Θ Θ Θ rows free),Γ (.lst Θ (ps.map shD)),Γ (dF Δ fs c),Ξ,Ξ,Ξ]:=e2;generalize(fs.map fun f=>((f,c f):Sh)).map shD=Q at *;have hsub:∀f∈ps.map (·.1),f∈fs:=fun f hf=>by obtain⟨p,hp,rfl⟩:=List.mem_map.mp hf;exact(hin p hp).1
 rw[List.nil_append]at i;have e3:ua 2 [Γ (alt Θ Θ Θ rows free),Γ (.lst Θ (ps.map shD)),Γ (dF Δ fs c),Γ (dF Δ (ps.map (·.1)) (ups (fun _=>0) ps)),x',y'] (Γ (dF Δ fs c)) (Γ (dF Δ (ps.map (·.1)) (ups (fun _=>0) ps)))=.ok [Γ (alt Θ Θ Θ rows free),Γ (.lst Θ (ps.map shD)),Γ (dF Δ fs (ups c ps)),Γ (dF Δ (ps.map (·.1)) (ups (fun _=>0) ps)),x',y']:=by have:=DB 2 [Γ (alt Θ Θ Θ rows free),Γ (.lst Θ (ps.map shD)),Γ (dF Δ fs c),Γ (dF Δ (ps.map (·.1)) (ups (fun _=>0) ps)),x',y'] Δ c (ups (fun _=>0) ps) hsub (by rw[f_];omega);rw[this];have hov:ovr c (ps.map (·.1)) (ups (fun _=>0) ps)=ups c ps:=funext fun f=>ya c _ ps f;rw[hov];rfl
 have e4:=Dy Δ fs (ups c ps);have d1:decide ((10007:Int) < (fs.map (ups c ps)).sum)=Θ:=p_ (by omega);generalize(fs.map (ups c ps)).sum=SS,dF Δ fs (ups c ps)=W',dF Δ fs c=W,dF Δ (ps.map (·.1)) (ups (fun _=>0) ps)=TD,alt Θ Θ Θ rows free=A,tW=tb,ps.map shD=PS at *;simp![e1,e2',ae,pe,i,e3,e4,d1]
noncomputable def mn (a b:Int):Int:=if b < a then b else a
noncomputable def tS:List IS:=[(.asg (.nm 6) (.call 23 [(.v 5),(.bi .min2 [(.dget (.v 2) (.v 4)),(.call 22 [(.v 5)])])])),(.app 3 (.tup [(.v 4),(.idx (.v 6) (.c (.int 0)))])),(.asg (.nm 1) (.call 24 [(.idx (.v 6) (.c (.int 1))),(.v 1)]))]
noncomputable def tG:List IS:=[(.asg (.nm 6) (.call 23 [(.v 1),(.bin .sub (.dget (.v 2) (.v 4)) (.call 22 [(.v 5)]))])),(.app 3 (.tup [(.v 4),(.call 24 [(.v 5),(.idx (.v 6) (.c (.int 0)))])])),(.mvx 1 6 1)]
theorem rP (o:Bool)(K:List Rw)(p:Rw):(K++[p]).map (dQ o)=K.map (dQ o)++[.tup [.str p.1,.lst o (p.2.map pr2)]]:=by rw[A_];rfl
theorem BD (n:Nat)(r0:D){fs:List Str}{v:Str->Int}(K:List Rw)(hK:K.length<=1000)(free:List Pr)(o1:Bool)(f:Str)(run:List Pr)(hf:f∈fs)(hr:run.length+free.length<=990)(pr:Pos run)(h0:0<=v f)(x y z:Option D) :
  ∃a b j:List Pr,Ev.turn (aj T (n+1)) (.tp [(.nm 4),(.nm 5)]) tS (dQ Θ (f,run)) [Γ r0,Γ (.lst o1 (free.map pr2)),Γ (dF Θ fs v),Γ (.lst Δ (K.map (dQ Θ))),x,y,z] =
   .ok (.nx [Γ r0,Γ (.lst Δ (j.map pr2)),Γ (dF Θ fs v),Γ (.lst Δ ((K++[(f,a)]).map (dQ Θ))),Γ (.str f),Γ (.lst Θ (run.map pr2)),Γ (.tup [.lst Θ (a.map pr2),.lst Θ (b.map pr2)])])/\
   cnt a=mn (v f) (cnt run)/\cnt a+cnt j=cnt run+cnt free/\Pos a/\(Pos free->Pos j/\∀x,mc x a+mc x j=mc x run+mc x free)/\a.length+j.length<=run.length+free.length+1/\a=(fC run [] [] (mn (v f) (cnt run))).1/\j=dU (fC run [] [] (mn (v f) (cnt run))).2 free:=by
 have hc:=jZ pr;have e1:=kq n run (by omega);obtain⟨a,b,e2,ca,cb,pa,pb,la,lb,lab,mab,xa,xb⟩:=rF n run (if cnt run < v f then cnt run else v f) (by omega) pr (by split<;>omega);obtain⟨j,e3,cj,pj,lj,xj⟩:=rG n b free (by omega) (by omega);refine⟨a,b,j,?_,?_,?_,pa,fun h=>⟨(pj pb h).1,fun x=>by rw[(pj pb h).2 x,<- mab x];omega⟩,by omega,xa,by rw[xj,xb];rfl⟩
 ·have g:=lD Θ v hf;have de:=rK Θ fs v;have p1:=fD run;have p2:=fD a;have p3:=fD b;have p4:=fD free;have lm:(K.map (dQ Θ)).length=K.length:=f_ _;rw[rP,show dQ Θ (f,run)=.tup [.str f,.lst Θ (run.map pr2)] from rfl];have x0:∀(P Q:D),gx (.tup [P,Q]) (.int 0)=.ok P:=fun _ _=>rfl;have x1:∀(P Q:D),gx (.tup [P,Q]) (.int 1)=.ok Q:=fun _ _=>rfl;have vd:vars ((IR.v 2).dget (IR.v 4))=[2,4]:=rfl;have oa:=fG (gD a);have ob:=fG (gD b);have oj:=fG (gD j);show Ev.turn (aj T (n+1)) (.tp [(.nm 4),(.nm 5)]) tS (.tup [.str f,.lst Θ (run.map pr2)]) _=.ok (.nx [_,_,_,Γ (.lst Δ (K.map (dQ Θ)++[.tup [.str f,.lst Θ (a.map pr2)]])),_,_,_]);generalize dF Θ fs v=W,K.map (dQ Θ)=KK,run.map pr2=RR,free.map pr2=FF,a.map pr2=AA,b.map pr2=BB,j.map pr2=JJ,cnt run=cr at *;unfold tS;simp![Ev.e9,vd,g,e1,e2,e3,de,p1,p2,p3,p4,x0,x1,lm,oa,ob,oj]
 ·rw[ca];unfold mn;split<;>split<;>omega
 ·rw[cj,cb,ca];omega
noncomputable def hW (v:Str->Int):List Rw->List Pr->List Rw×List Pr
 |[],free=>([],free)
 |p::rows,free=>((p.1,(fC p.2 [] [] (mn (v p.1) (cnt p.2))).1)::(hW v rows (dU (fC p.2 [] [] (mn (v p.1) (cnt p.2))).2 free)).1,(hW v rows (dU (fC p.2 [] [] (mn (v p.1) (cnt p.2))).2 free)).2)
noncomputable def jK (v:Str->Int):List Rw->List Pr->List Rw×List Pr
 |[],free=>([],free)
 |p::rows,free=>((p.1,dU p.2 (fC free [] [] (v p.1 - cnt p.2)).1)::(jK v rows (fC free [] [] (v p.1 - cnt p.2)).2).1,(jK v rows (fC free [] [] (v p.1 - cnt p.2)).2).2)
noncomputable def tot (rows:List Rw):Int:=(rows.map fun p=>cnt p.2).sum
theorem vJ (n:Nat)(r0:D){fs:List Str}{v:Str->Int}(hv:∀f∈fs,0<=v f):∀(rows K:List Rw) (free:List Pr) (o1:Bool) (x y z:Option D),K.length+rows.length<=6->(∀p∈rows,p.1∈fs/\Pos p.2)->Pos free->lsum rows+free.length+rows.length<=980->
  ∃(K':List Rw) (free':List Pr) (o':Bool) (x' y' z':Option D),forM (Ev.turn (aj T (n+1)) (.tp [(.nm 4),(.nm 5)]) tS) (rows.map (dQ Θ)) [Γ r0,Γ (.lst o1 (free.map pr2)),Γ (dF Θ fs v),Γ (.lst Δ (K.map (dQ Θ))),x,y,z]=.ok (.nx [Γ r0,Γ (.lst o' (free'.map pr2)),Γ (dF Θ fs v),Γ (.lst Δ ((K++K').map (dQ Θ))),x',y',z'])/\
   szs K'=rows.map (fun p=>(p.1,mn (v p.1) (cnt p.2)))/\tot K' + cnt free'=tot rows+cnt free/\(∀p∈K',Pos p.2)/\Pos free'/\lsum K' + free'.length<=lsum rows+free.length+rows.length/\(∀x,rmc x K' + mc x free'=rmc x rows+mc x free)/\(K',free')=hW v rows free
 |[],K,free,o1,x,y,z,_,_,pf,hl=>⟨[],free,o1,x,y,z,by rw[D_];rfl,rfl,rfl,(fun p h=>by cases h),pf,by simp,(fun _=>rfl),rfl⟩
 | (f,run)::rows,K,free,o1,x,y,z,hk,hp,pf,hl=>by
  obtain⟨h1,h2⟩:=hp (f,run) (.head _);rw[List.length_cons]at hk hl;have hl:run.length+lsum rows+free.length+(rows.length+1)<=980:=hl;obtain⟨a,b,j,e,ca,cj,pa,pj,lj,xa,xj⟩:=BD n r0 (fs:=fs) (v:=v) K (by omega) free o1 f run h1 (by omega) h2 (hv f h1) x y z;obtain⟨K',free',o',x',y',z',i1,i2,i3,i4,i5,i6,i7,i8⟩:=vJ n r0 hv rows (K++[(f,a)]) j Δ (Γ (.str f)) (Γ (.lst Θ (run.map pr2))) (Γ (.tup [.lst Θ (a.map pr2),.lst Θ (b.map pr2)])) (by rw[t_,EH];omega) (fun p h=>hp p (q_ _ h)) (pj pf).1 (by omega);refine⟨(f,a)::K',free',o',x',y',z',?_,?_,?_,fun p h=>?_,i5,by rw[List.length_cons];show a.length+lsum K' + free'.length<=run.length+lsum rows+free.length+(rows.length+1);omega,fun w=>?_,?_⟩
  ·rw[a_,Ev.cu,e];rw[o_]at i1;exact i1
  ·show(f,cnt a)::szs K'=_;rw[i2,ca];rfl
  ·show cnt a+tot K' + cnt free'=cnt run+tot rows+cnt free;omega
  ·rcases j_.mp h with rfl|h
   ·exact pa
   ·exact i4 p h
  ·have:=i7 w;have:=(pj pf).2 w;show mc w a+rmc w K' + mc w free'=mc w run+rmc w rows+mc w free;omega
  ·unfold hW;rw[<- xj,<- i8,<- xa]
theorem sX (n:Nat){fs:List Str}{v:Str->Int}(hv:∀f∈fs,0<=v f)(rows:List Rw)(free:List Pr)(hk:rows.length<=6)(hp:∀p∈rows,p.1∈fs/\Pos p.2)(pf:Pos free)(lf:lsum rows+free.length<=970) :
  ∃(K':List Rw) (free':List Pr) (o':Bool),aj T (n+2) 30 [.lst Θ (rows.map (dQ Θ)),.lst Θ (free.map pr2),dF Θ fs v]=.ok (alt Δ Θ o' K' free')/\szs K'=rows.map (fun p=>(p.1,mn (v p.1) (cnt p.2)))/\tot K' + cnt free'=tot rows+cnt free/\(∀p∈K',Pos p.2)/\Pos free'/\lsum K' + free'.length<=lsum rows+free.length+6/\(∀x,rmc x K' + mc x free'=rmc x rows+mc x free)/\(K',free')=hW v rows free:=by
 obtain⟨K',free',o',x',y',z',i1,i2,i3,i4,i5,i6,i7,i8⟩:=vJ n (.lst Θ (rows.map (dQ Θ))) hv rows [] free Θ Ξ Ξ Ξ (by rw[List.length_nil];omega) hp pf (by omega);refine⟨K',free',o',?_,i2,i3,i4,i5,by omega,i7,i8⟩;have body:b30=[(.asg (.nm 3) (.lst [])),(.for_ (.tp [(.nm 4),(.nm 5)]) (.val (.v 0)) tS),(.ret (.tup [(.v 3),(.v 1)]))]:=rfl;rw[Ev.go (show T 30=Γ d30 from rfl) (show d30.io=Θ from rfl) (show d30.np=3 from rfl) (show d30.G.N.length=7 from rfl) (show d30.body=_ from body) rfl];rw[List.nil_append,List.map_nil]at i1;have re:=hJ Θ rows;have pe:=fD free;unfold alt;generalize dF Θ fs v=W,K'.map (dQ Θ)=KK,rows.map (dQ Θ)=RR,free.map pr2=FF,free'.map pr2=FF',tS=tb at *;simp![re,pe,i1]
theorem BE (n:Nat)(r0:D){fs:List Str}{v:Str->Int}(K:List Rw)(hK:K.length<=1000)(free:List Pr)(o1:Bool)(f:Str)(run:List Pr)(hf:f∈fs)(hr:run.length+free.length<=990)(pr:Pos run)(pf:Pos free)(h0:cnt run<=v f)(h1:v f - cnt run<=cnt free)(x y z:Option D) :
  ∃a b j:List Pr,Ev.turn (aj T (n+1)) (.tp [(.nm 4),(.nm 5)]) tG (dQ Θ (f,run)) [Γ r0,Γ (.lst o1 (free.map pr2)),Γ (dF Θ fs v),Γ (.lst Δ (K.map (dQ Δ))),x,y,z] =
   .ok (.nx [Γ r0,Γ (.lst Δ (b.map pr2)),Γ (dF Θ fs v),Γ (.lst Δ ((K++[(f,j)]).map (dQ Δ))),Γ (.str f),Γ (.lst Θ (run.map pr2)),Ξ])/\
   cnt j=v f/\cnt b=cnt free - (v f - cnt run)/\Pos j/\Pos b/\j.length+b.length<=run.length+free.length+1/\(∀x,mc x j+mc x b=mc x run+mc x free)/\j=dU run (fC free [] [] (v f - cnt run)).1/\b=(fC free [] [] (v f - cnt run)).2:=by
 have e1:=kq n run (by omega);obtain⟨a,b,e2,ca,cb,pa,pb,la,lb,lab,mab,xa,xb⟩:=rF n free (v f - cnt run) (by omega) pf (by omega);obtain⟨j,e3,cj,pj,lj,xj⟩:=rG n run a (by omega) (by omega);refine⟨a,b,j,?_,?_,?_,(pj pr pa).1,pb,by omega,(fun x=>by rw[(pj pr pa).2 x,<- mab x];omega),by rw[xj,xa],xb⟩
 ·have g:=lD Θ v hf;have de:=rK Θ fs v;have p1:=fD run;have p2:=fD a;have p3:=fD b;have p4:=fD free;have lm:(K.map (dQ Δ)).length=K.length:=f_ _;rw[rP,show dQ Θ (f,run)=.tup [.str f,.lst Θ (run.map pr2)] from rfl];have x0:∀(P Q:D),gx (.tup [P,Q]) (.int 0)=.ok P:=fun _ _=>rfl;have x1:∀(P Q:D),gx (.tup [P,Q]) (.int 1)=.ok Q:=fun _ _=>rfl;have vd:vars ((IR.v 2).dget (IR.v 4))=[2,4]:=rfl;have oa:=fG (gD a);have ob:=fG (gD b);have oj:=fG (gD j);show Ev.turn (aj T (n+1)) (.tp [(.nm 4),(.nm 5)]) tG (.tup [.str f,.lst Θ (run.map pr2)]) _=.ok (.nx [_,_,_,Γ (.lst Δ (K.map (dQ Δ)++[.tup [.str f,.lst Δ (j.map pr2)]])),_,_,_]);generalize dF Θ fs v=W,K.map (dQ Δ)=KK,run.map pr2=RR,free.map pr2=FF,a.map pr2=AA,b.map pr2=BB,j.map pr2=JJ,cnt run=cr at *;unfold tG;simp![Ev.e9,vd,g,e1,e2,e3,de,p1,p2,p3,p4,x0,x1,lm,oa,ob,oj]
 ·rw[cj,ca];split<;>omega
 ·rw[cb];split<;>omega
theorem vK (n:Nat)(r0:D){fs:List Str}{v:Str->Int}:∀(rows K:List Rw) (free:List Pr) (o1:Bool) (x y z:Option D),K.length+rows.length<=6->(∀p∈rows,p.1∈fs/\Pos p.2/\cnt p.2<=v p.1)->Pos free->lsum rows+free.length+rows.length<=980->(rows.map fun p=>v p.1).sum<=tot rows+cnt free->
  ∃(K':List Rw) (free':List Pr) (o':Bool) (x' y' z':Option D),forM (Ev.turn (aj T (n+1)) (.tp [(.nm 4),(.nm 5)]) tG) (rows.map (dQ Θ)) [Γ r0,Γ (.lst o1 (free.map pr2)),Γ (dF Θ fs v),Γ (.lst Δ (K.map (dQ Δ))),x,y,z]=.ok (.nx [Γ r0,Γ (.lst o' (free'.map pr2)),Γ (dF Θ fs v),Γ (.lst Δ ((K++K').map (dQ Δ))),x',y',z'])/\
   szs K'=rows.map (fun p=>(p.1,v p.1))/\(rows.map fun p=>v p.1).sum+cnt free'=tot rows+cnt free/\(∀p∈K',Pos p.2)/\Pos free'/\lsum K' + free'.length<=lsum rows+free.length+rows.length/\((o1=Δ∨rows≠[])->o'=Δ)/\(∀x,rmc x K' + mc x free'=rmc x rows+mc x free)/\(K',free')=jK v rows free
 |[],K,free,o1,x,y,z,_,_,pf,hl,_=>⟨[],free,o1,x,y,z,by rw[D_];rfl,rfl,rfl,(fun p h=>by cases h),pf,by simp,(fun h=>h.elim id fun z=>absurd rfl z),(fun _=>rfl),rfl⟩
 | (f,run)::rows,K,free,o1,x,y,z,hk,hp,pf,hl,hs=>by
  obtain⟨h1,h2,h4⟩:=hp (f,run) (.head _);rw[List.length_cons]at hk hl;have hl:run.length+lsum rows+free.length+(rows.length+1)<=980:=hl;have h4:cnt run<=v f:=h4;have hs:v f+(rows.map fun p=>v p.1).sum<=cnt run+tot rows+cnt free:=hs;have hrest:tot rows<=(rows.map fun p=>v p.1).sum:=by
   have key:∀rs:List Rw,(∀p∈rs,cnt p.2<=v p.1)->tot rs<=(rs.map fun p=>v p.1).sum:=by
    intro rs
    induction rs with
    |nil=>intro _;exact Int.le_refl _
    |cons q rs ih=>intro h;have a1:=h q (.head _);have a2:=ih fun p hp=>h p (q_ _ hp);show cnt q.2+tot rs<=v q.1+(rs.map fun p=>v p.1).sum;omega
   exact key rows fun p h=>(hp p (q_ _ h)).2.2
  obtain⟨a,b,j,e,ca,cj,pa,pj,la,lj,xj,xb⟩:=BE n r0 (fs:=fs) (v:=v) K (by omega) free o1 f run h1 (by omega) h2 pf h4 (by omega) x y z;obtain⟨K',free',o',x',y',z',i1,i2,i3,i4,i5,i6,i7,i8,i9⟩:=vK n r0 rows (K++[(f,j)]) b Δ (Γ (.str f)) (Γ (.lst Θ (run.map pr2))) Ξ (by rw[t_,EH];omega) (fun p h=>hp p (q_ _ h)) pj (by omega) (by omega);refine⟨(f,j)::K',free',o',x',y',z',?_,?_,?_,fun p h=>?_,i5,by rw[List.length_cons];show j.length+lsum K' + free'.length<=run.length+lsum rows+free.length+(rows.length+1);omega,fun _=>i7 (.inl rfl),fun w=>?_,?_⟩
  ·rw[a_,Ev.cu,e];rw[o_]at i1;exact i1
  ·show(f,cnt j)::szs K'=_;rw[i2,ca];rfl
  ·show v f+(rows.map fun p=>v p.1).sum+cnt free'=cnt run+tot rows+cnt free;omega
  ·rcases j_.mp h with rfl|h
   ·exact pa
   ·exact i4 p h
  ·have:=i8 w;have:=lj w;show mc w j+rmc w K' + mc w free'=mc w run+rmc w rows+mc w free;omega
  ·unfold jK;rw[<- xb,<- i9,<- xj]
theorem vL (n:Nat){fs:List Str}{v:Str->Int}(rows:List Rw)(free:List Pr)(hk:rows.length<=6)(hp:∀p∈rows,p.1∈fs/\Pos p.2/\cnt p.2<=v p.1)(pf:Pos free)(lf:lsum rows+free.length<=970)(hs:(rows.map fun p=>v p.1).sum<=tot rows+cnt free)(hne:rows≠[]) :
  ∃(K':List Rw) (free':List Pr),aj T (n+2) 31 [.lst Θ (rows.map (dQ Θ)),.lst Θ (free.map pr2),dF Θ fs v]=.ok (alt Δ Δ Δ K' free')/\szs K'=rows.map (fun p=>(p.1,v p.1))/\(rows.map fun p=>v p.1).sum+cnt free'=tot rows+cnt free/\(∀p∈K',Pos p.2)/\Pos free'/\lsum K' + free'.length<=lsum rows+free.length+6/\(∀x,rmc x K' + mc x free'=rmc x rows+mc x free)/\(K',free')=jK v rows free:=by
 obtain⟨K',free',o',x',y',z',i1,i2,i3,i4,i5,i6,i7,i8,i9⟩:=vK n (.lst Θ (rows.map (dQ Θ))) rows [] free Θ Ξ Ξ Ξ (by rw[List.length_nil];omega) hp pf (by omega) hs;have eo:=i7 (.inr hne);subst eo;refine⟨K',free',?_,i2,i3,i4,i5,by omega,i8,i9⟩;have body:b31=[(.asg (.nm 3) (.lst [])),(.for_ (.tp [(.nm 4),(.nm 5)]) (.val (.v 0)) tG),(.ret (.tup [(.v 3),(.v 1)]))]:=rfl;rw[Ev.go (show T 31=Γ d31 from rfl) (show d31.io=Θ from rfl) (show d31.np=3 from rfl) (show d31.G.N.length=7 from rfl) (show d31.body=_ from body) rfl];rw[List.nil_append,List.map_nil]at i1;have re:=hJ Θ rows;have pe:=fD free;unfold alt;generalize dF Θ fs v=W,K'.map (dQ Δ)=KK,rows.map (dQ Θ)=RR,free.map pr2=FF,free'.map pr2=FF',tG=tb at *;simp![re,pe,i1]
theorem nX (rows:List Rw)(free:List Pr):fB (alt Δ Δ Δ rows free)=Δ:=by
 have h1:fF (rows.map (dQ Δ))=Δ:=by
  induction rows with
  |nil=>rfl
  |cons p rows ih=>show(fB (.tup [.str p.1,.lst Δ (p.2.map pr2)])&&fF (rows.map (dQ Δ)))=Δ;rw[ih,Bool.and_true,Ev.ve,Ev.kb,Ev.kb,Ev.xM,Ev.sU,fG (gD _)];rfl
 unfold alt;rw[Ev.ve,Ev.kb,Ev.kb,Ev.sU,Ev.sU,h1,fG (gD _)];rfl
theorem rQ (rows:List Rw):(szs rows).map (·.1)=rows.map (·.1):=by unfold szs;rw[EB];rfl
theorem yf (rows:List Rw):(szs rows).map (·.2)=rows.map fun p=>cnt p.2:=by unfold szs;rw[EB];rfl
section
variable {fs:List Str}{c:Str->Int}{rows:List Rw}{free:List Pr}{L:Nat}
theorem Al.names (a:Al fs c rows free L):rows.map (·.1)=fs:=by rw[<- rQ,a.sz,EB];exact List.map_id' fs
theorem Al.total (a:Al fs c rows free L):Law.tot rows=(fs.map c).sum:=by unfold Law.tot;rw[<- yf,a.sz,EB];rfl
theorem Al.inn (a:Al fs c rows free L){p:Rw}(h:p∈rows):p.1∈fs/\cnt p.2=c p.1:=by have h1:(p.1,cnt p.2)∈szs rows:=List.mem_map.mpr ⟨p,h,rfl⟩;rw[a.sz]at h1;obtain⟨f,hf,e⟩:=List.mem_map.mp h1;have e1:f=p.1:=congrArg Prod.fst e;have e2:c f=cnt p.2:=congrArg Prod.snd e;rw[<- e1];exact⟨hf,e2.symm⟩
theorem Al.nn (a:Al fs c rows free L){f:Str}(h:f∈fs):0<=c f:=by rw[<- a.names]at h;obtain⟨p,hp,rfl⟩:=List.mem_map.mp h;rw[<- (a.inn hp).2];exact jZ (a.pos p hp)
theorem vM:∀(ps:List Sh) (c:Str->Int),(∀p∈ps,0<=p.2)->∀f,0<=c f->0<=ups c ps f
 |[],c,_,f,h=>h
 |p::ps,c,hp,f,h=>by
  refine vM ps (up c p.1 p.2) (fun q hq=>hp q (q_ _ hq)) f ?_;unfold up;split
  ·exact hp p (.head _)
  ·exact h
theorem zw (a b:Int):mn a b<=a:=by unfold mn;split<;>omega
theorem qj (n:Nat)(a:Al fs c rows free L)(hL:L<=900)(ps:List Sh)(hp:ps.length<=100)(hall:∀p∈ps,p.1∈fs/\0<=p.2)(nd:(ps.map (·.1)).Nodup)(hs:(fs.map (ups c ps)).sum<=10007)(hne:fs≠[]) :
  ∃rows' free',aj T (n+4) 32 [alt Θ Θ Θ rows free,.lst Θ (ps.map shD)]=.ok (alt Δ Δ Δ rows' free')/\Al fs (ups c ps) rows' free' (L+12)/\(rows',free')=jK (ups c ps) (hW (ups c ps) rows free).1 (hW (ups c ps) rows free).2:=by
 have hw:=yd n a (by omega) ps hp hall nd hs;have ae:=iO Θ Θ Θ rows free;have pe:=vD ps;have body:b32=[(.asg (.nm 2) (.call 29 [(.v 0),(.v 1)])),(.asg (.nm 3) (.call 30 [(.idx (.v 0) (.c (.int 0))),(.bi .list [(.idx (.v 0) (.c (.int 1)))]),(.v 2)])),(.ret (.call 31 [(.idx (.v 3) (.c (.int 0))),(.idx (.v 3) (.c (.int 1))),(.v 2)]))]:=rfl;rw[Ev.go (show T 32=Γ d32 from rfl) (show d32.io=Θ from rfl) (show d32.np=2 from rfl) (show d32.G.N.length=4 from rfl) (show d32.body=_ from body) rfl];have hv:∀f∈fs,0<=ups c ps f:=fun f hf=>vM ps c (fun p hp=>(hall p hp).2) f (a.nn hf);have hrl:=a.rlen;have hfew:=a.few;have hln:=a.len;obtain⟨K,f1,o1,s1,s2,s3,s4,s5,s6,s7,s8⟩:=sX (n+1) hv rows free (by omega) (fun p h=>⟨(a.inn h).1,a.pos p h⟩) a.posf (by omega);have kn:K.map (·.1)=fs:=by rw[<- rQ,s2,EB];exact a.names
 have kin:∀p∈K,p.1∈fs/\Pos p.2/\cnt p.2<=ups c ps p.1:=fun p h=>by refine⟨by rw[<- kn];exact List.mem_map.mpr ⟨p,h,rfl⟩,s4 p h,?_⟩;have h1:(p.1,cnt p.2)∈szs K:=List.mem_map.mpr ⟨p,h,rfl⟩;rw[s2]at h1;obtain⟨q,hq,e⟩:=List.mem_map.mp h1;have e1:q.1=p.1:=(Prod.mk.inj e).1;have e2:mn (ups c ps q.1) (cnt q.2)=cnt p.2:=(Prod.mk.inj e).2;rw[<- e2,<- e1];exact zw _ _
 have ksum:(K.map fun p=>ups c ps p.1).sum=(fs.map (ups c ps)).sum:=by rw[<- kn,EB];rfl
 have klen:K.length=fs.length:=by rw[<- kn,f_]
 have ht:=a.total;have htt:=a.tot;obtain⟨R,f2,g1,g2,g3,g4,g5,g6,g7,g8⟩:=vL (n+1) (fs:=fs) (v:=ups c ps) K f1 (by omega) kin s5 (by omega) (by omega) (fun z=>hne (by rw[<- kn,z];rfl));refine⟨R,f2,?_,⟨a.nod,a.few,?_,fun p h=>g4 p h,g5,by omega,by omega,fun x=>by rw[g7 x,s7 x];exact a.cov x⟩,by rw[g8,<- s8]⟩
 ·have x0:gx (alt Θ Θ Θ rows free) (.int 0)=.ok (.lst Θ (rows.map (dQ Θ))):=rfl;have x1:gx (alt Θ Θ Θ rows free) (.int 1)=.ok (.lst Θ (free.map pr2)):=rfl;have y0:gx (alt Δ Θ o1 K f1) (.int 0)=.ok (.lst Δ (K.map (dQ Θ))):=rfl;have y1:gx (alt Δ Θ o1 K f1) (.int 1)=.ok (.lst o1 (f1.map pr2)):=rfl;have l1:fB (dF Δ fs (ups c ps))=Δ:=by show(Δ&&fF (fs.map (iv (ups c ps))))=Δ;rw[fG (pv _ _)];rfl
  have l3:fB (alt Δ Δ Δ R f2)=Δ:=nX R f2;have de:=rK Δ fs (ups c ps);have df:=rK Θ fs (ups c ps);have re:=hJ Θ rows;have re2:=hJ Θ K;have p1:=fD free;have p2:=fD f1;generalize alt Θ Θ Θ rows free=A,alt Δ Θ o1 K f1=B,alt Δ Δ Δ R f2=C,dF Δ fs (ups c ps)=W,dF Θ fs (ups c ps)=W',ps.map shD=PS,rows.map (dQ Θ)=RR,K.map (dQ Θ)=KK,free.map pr2=FF,f1.map pr2=FF1 at *;cases l2:fB B<;>simp![hw,ae,pe,x0,x1,y0,y1,l1,l2,l3,de,df,re,re2,p1,p2,s1,g1]
 ·rw[g2,<- kn,EB];rfl
end
noncomputable def oth (fs:List Str)(f:Str)(u:Str->Int):List Int:=(fs.filter fun g=>!(g == f)).map u
theorem rR (cl:Nat->List D->Res D)(o:Bool){fs:List Str}(u:Str->Int)(f:Str):∀gs:List Str,(∀g∈gs,g∈fs)->fT (fN cl (.nm 2) [(.cmp .ne (.v 2) (.v 1))] (.dget (.v 0) (.v 2)) [Γ (dF o fs u),Γ (.str f),Ξ]) (gs.map .str)=.ok ((oth gs f u).map .int)
 |[],_=>rfl
 |g::gs,h=>by
  have ih:=rR cl o u f gs fun q hq=>h q (q_ _ hq);have hg:=lD o u (h g (.head _));unfold oth at *;rw[a_,List.filter_cons];show bnd (fN cl (.nm 2) [(.cmp .ne (.v 2) (.v 1))] (.dget (.v 0) (.v 2)) [Γ (dF o fs u),Γ (.str f),Ξ] (.str g)) _=_;cases e:(g == f) with
  |true=>
   have e1:fN cl (.nm 2) [(.cmp .ne (.v 2) (.v 1))] (.dget (.v 0) (.v 2)) [Γ (dF o fs u),Γ (.str f),Ξ] (.str g)=.ok Ξ:=by generalize dF o fs u=W at *;simp![hg,e]
   rw[e1];exact ih
  |false=>
   have e1:fN cl (.nm 2) [(.cmp .ne (.v 2) (.v 1))] (.dget (.v 0) (.v 2)) [Γ (dF o fs u),Γ (.str f),Ξ] (.str g)=.ok (Γ (.int (u g))):=by generalize dF o fs u=W at *;simp![hg,e]
   rw[e1];show bnd (fT _ _) _=_;rw[ih];rfl
theorem rS {f:Str}(u:Str->Int):∀ {fs:List Str},f∉fs->oth fs f u=fs.map u
 |[],_=>rfl
 |g::fs,h=>by
  have e:(g == f)=Θ:=by simpa using fun z:g=f=>h (by rw[z];exact .head _)
  unfold oth;rw[List.filter_cons,e];show u g::oth fs f u=_;rw[rS u fun z=>h (q_ _ z)];rfl
theorem nY {f:Str}(u:Str->Int):∀ {fs:List Str},f∈fs->fs.Nodup->(fs.map u).sum=u f+(oth fs f u).sum
 |g::fs,h,nd=>by
  rw[y_]at nd;by_cases e:g=f
  ·have eb:(g == f)=Δ:=by simpa using e
   have ef:oth (g::fs) f u=oth fs f u:=by unfold oth;rw[List.filter_cons,eb];rfl
   rw[ef,rS u (by rw[<- e];exact nd.1),a_,List.sum_cons,e]
  ·have eb:(g == f)=Θ:=by simpa using e
   have ef:oth (g::fs) f u=u g::oth fs f u:=by unfold oth;rw[List.filter_cons,eb];rfl
   have:=nY u ((j_.mp h).resolve_left fun z=>e z.symm) nd.2;rw[ef,a_,List.sum_cons,List.sum_cons,this];omega
theorem BG (u:Str->Int)(x:Int)(f:Str):∀fs:List Str,oth fs f (up u f x)=oth fs f u:=fun fs=>by unfold oth;refine E0 fun g hg=>?_;have:(!(g == f))=Δ:=(List.mem_filter.mp hg).2;unfold up;rw[b_ (by simpa using this)]
theorem vN:∀ns:List Int,(∀x∈ns,0<=x)->0<=ns.sum
 |[],_=>Int.le_refl _
 |n::ns,h=>by have a1:=h n (.head _);have a2:=vN ns fun x hx=>h x (q_ _ hx);rw[List.sum_cons];omega
theorem vO (ps:List Sh)(f:Str)(x:Int):(ps++[(f,x)]).map shD=ps.map shD++[.tup [.str f,.int x]]:=by rw[A_];rfl
noncomputable def tT:List IS:=[(.asg (.nm 6) (.idx (.v 1) (.bin .mod (.bin .add (.v 5) (.idx (.v 3) (.c (.int 0)))) (.bi .len [(.v 1)])))),(.asg (.nm 7) (.bin .sub (.c (.int 10007)) (.bi .sum [(.comp {N:=["_law_due","_law_face","_law_own"],kd:=[.cell,.cell,.local],gl:=[],df:=Θ} [2,6] (.nm 2) (.val (.v 1)) [(.cmp .ne (.v 2) (.v 1))] (.dget (.v 0) (.v 2)))]))),(.if_ (.cmp .gt (.bin .mod (.idx (.v 3) (.bin .add (.bin .mul (.c (.int 3)) (.v 5)) (.c (.int 2)))) (.c (.int 3))) (.c (.int 0))) [(.asg (.nm 8) (.bi .max2 [(.c (.int 0)),(.bin .sub (.dget (.v 2) (.v 6)) (.bin .mod (.idx (.v 3) (.bin .add (.bin .mul (.c (.int 3)) (.v 5)) (.c (.int 4)))) (.c (.int 5))))])),(.asg (.nm 9) (.idx (.lst [(.bin .mod (.idx (.v 3) (.bin .add (.bin .mul (.c (.int 3)) (.v 5)) (.c (.int 3)))) (.bin .add (.v 7) (.c (.int 1)))),(.v 7),(.c (.int 0)),(.v 8)]) (.bin .mod (.bin .fdiv (.idx (.v 3) (.bin .add (.bin .mul (.c (.int 3)) (.v 5)) (.c (.int 4)))) (.c (.int 8))) (.c (.int 4))))),(.if_ (.cmp .eq (.bin .mod (.bin .fdiv (.idx (.v 3) (.bin .add (.bin .mul (.c (.int 3)) (.v 5)) (.c (.int 4)))) (.c (.int 32))) (.c (.int 3))) (.c (.int 0))) [(.asg (.nm 9) (.bi .min2 [(.v 7),(.bin .add (.dget (.v 2) (.v 6)) (.bin .mod (.idx (.v 3) (.bin .add (.bin .mul (.c (.int 3)) (.v 5)) (.c (.int 3)))) (.c (.int 7))))]))] []),(.dset 2 (.v 6) (.v 9)),(.app 4 (.tup [(.v 6),(.v 9)]))] [])]
theorem DC (a r l i:Int)(h0:0<=i)(h1:i < 4)(ha:0<=a/\a<=r)(hr:0<=r)(hl:0<=l/\l<=r):∃p,gx (.lst Δ [.int a,.int r,.int 0,.int l]) (.int i)=.ok (.int p)/\0<=p/\p<=r:=by
 have:i=0∨i=1∨i=2∨i=3:=by omega
 rcases this with rfl|rfl|rfl|rfl
 ·exact⟨a,rfl,ha⟩
 ·exact⟨r,rfl,hr,Int.le_refl _⟩
 ·exact⟨0,rfl,Int.le_refl _,hr⟩
 ·exact⟨l,rfl,hl⟩
theorem BH (o:Bool)(fs:List Str){i:Int}(h0:0<=i)(h1:i < fs.length):gx (.lst o (fs.map .str)) (.int i)=.ok (.str (fs.getD i.toNat Str.empty)):=by
 rw[Ev.x_l,Ev.nR .non h0 (by rw[f_];exact h1)];have hlt:i.toNat < fs.length:=by omega
 simp[hlt]
theorem BI (cl:Nat->List D->Res D)(cell:Int){fs:List Str}(nd:fs.Nodup)(hn:fs.length<=6)(u:Str->Int)(hu:∀f∈fs,0<=u f)(hs:(fs.map u).sum<=10007)(xs:List Int)(lx:xs.length=3*fs.length+2)(px:∀x∈xs,0<=x)(ps:List Sh)(hp:ps.length<=100)(k:Nat)(hk:k < fs.length)(x5 x6 x7 x8 x9:Option D) :
  ∃q6 q7 q8 q9,(Ev.turn cl (.nm 5) tT (.int (0+(k:Nat))) [Γ (.int cell),Γ (.lst Θ (fs.map .str)),Γ (dF Δ fs u),Γ (.lst Δ (xs.map .int)),Γ (.lst Δ (ps.map shD)),x5,x6,x7,x8,x9]=.ok (.nx [Γ (.int cell),Γ (.lst Θ (fs.map .str)),Γ (dF Δ fs u),Γ (.lst Δ (xs.map .int)),Γ (.lst Δ (ps.map shD)),Γ (.int (0+(k:Nat))),q6,q7,q8,q9]))∨
   ∃x,0<=x/\x<=10007 - (oth fs (fs.getD (((k:Int)+xs.getD 0 0) % fs.length).toNat Str.empty) u).sum/\Ev.turn cl (.nm 5) tT (.int (0+(k:Nat))) [Γ (.int cell),Γ (.lst Θ (fs.map .str)),Γ (dF Δ fs u),Γ (.lst Δ (xs.map .int)),Γ (.lst Δ (ps.map shD)),x5,x6,x7,x8,x9]=.ok (.nx [Γ (.int cell),Γ (.lst Θ (fs.map .str)),Γ (dF Δ fs (up u (fs.getD (((k:Int)+xs.getD 0 0) % fs.length).toNat Str.empty) x)),Γ (.lst Δ (xs.map .int)),Γ (.lst Δ ((ps++[(fs.getD (((k:Int)+xs.getD 0 0) % fs.length).toNat Str.empty,x)]).map shD)),Γ (.int (0+(k:Nat))),q6,q7,q8,q9]):=by
 have m0:=Int.emod_nonneg ((k:Int)+xs.getD 0 0) (show(fs.length:Int)≠0 by omega);have m1:=Int.emod_lt_of_pos ((k:Int)+xs.getD 0 0) (show(0:Int) < fs.length by omega);have fi:=BH Θ fs m0 m1;have hf:fs.getD (((k:Int)+xs.getD 0 0) % fs.length).toNat Str.empty∈fs:=by rw[EO,EK (by omega)];exact List.getElem_mem _
 generalize fs.getD (((k:Int)+xs.getD 0 0) % fs.length).toNat Str.empty=f at *;have g:=lD Δ u hf;have e1:=rR cl Δ u f fs fun g h=>h;have hsum:=nY u hf nd;have huf:=hu f hf;have hln:(oth fs f u).length<=1000:=by unfold oth;rw[f_];exact EN (List.length_filter_le _ _) (by omega)
 have ho:0<=(oth fs f u).sum:=vN _ fun x hx=>by unfold oth at hx;obtain⟨g,hg,rfl⟩:=List.mem_map.mp hx;exact hu g (List.mem_filter.mp hg).1
 have e2:∀o,ip .sum [.lst o ((oth fs f u).map .int)]=.ok (.int (oth fs f u).sum):=fun o=>Ev.vg (by omega);have lm:(fs.map D.str).length=fs.length:=f_ _;have lp:(ps.map shD).length=ps.length:=f_ _;have y2:=Ev.x_i (o:=Δ) (xs:=xs) (i:=3*(0+(k:Int))+2) (by omega) (by omega);have y3:=Ev.x_i (o:=Δ) (xs:=xs) (i:=3*(0+(k:Int))+3) (by omega) (by omega);have y4:=Ev.x_i (o:=Δ) (xs:=xs) (i:=3*(0+(k:Int))+4) (by omega) (by omega);have y0:=Ev.x_i (o:=Δ) (xs:=xs) (i:=0) (by omega) (by omega)
 have z3:0<=xs.getD (3*(0+(k:Int))+3).toNat 0:=px _ (by
  rw[EO,EK (by omega)]
  exact List.getElem_mem _)
 have z4:0<=xs.getD (3*(0+(k:Int))+4).toNat 0:=px _ (by
  rw[EO,EK (by omega)]
  exact List.getElem_mem _)
 rw[show(0:Int).toNat=0 from rfl]at y0;have fi':gx (.lst Θ (fs.map .str)) (.int ((0+(k:Int)+xs.getD 0 0) % (fs.length:Int)))=.ok (.str f):=by rw[Int.zero_add];exact fi
 have hr:0<=10007 - (oth fs f u).sum:=by omega
 have hur:u f<=10007 - (oth fs f u).sum:=by omega
 have nz:(0:Int) < (fs.length:Int):=by omega
 generalize(oth fs f u).sum=S,xs.getD (3*(0+(k:Int))+2).toNat 0=w2,xs.getD (3*(0+(k:Int))+3).toNat 0=w3,xs.getD (3*(0+(k:Int))+4).toNat 0=w4 at *;by_cases c1:0 < w2 % 3
 ·have d1:decide (0 < w2 % 3)=Δ:=s_ c1;have a0:=Int.emod_nonneg w3 (show(10007 - S+1:Int)≠0 by omega);have a1:=Int.emod_lt_of_pos w3 (show(0:Int) < 10007 - S+1 by omega);have b0:=Int.emod_nonneg (w4 / 8) (show(4:Int)≠0 by decide);have b1:=Int.emod_lt_of_pos (w4 / 8) (show(0:Int) < 4 by decide);have c0:=Int.emod_nonneg w4 (show(5:Int)≠0 by decide);have g0:=Int.emod_nonneg w3 (show(7:Int)≠0 by decide);obtain⟨p,ep,p0,p1⟩:=DC (w3 % (10007 - S+1)) (10007 - S) (if u f - w4 % 5 > 0 then u f - w4 % 5 else 0) (w4 / 8 % 4) b0 b1 ⟨a0,by omega⟩ hr (by split<;>exact⟨by omega,by omega⟩);have nr:(0:Int) < 10007 - S+1:=by omega
  have stt:∀(v:Int),Ev.jh cl 2 (.v 6) [Γ (.int cell),Γ (.lst Θ (fs.map .str)),Γ (dF Δ fs u),Γ (.lst Δ (xs.map .int)),Γ (.lst Δ (ps.map shD)),Γ (.int (0+(k:Nat))),Γ (.str f),Γ (.int (10007 - S)),Γ (.int (if u f - w4 % 5 > 0 then u f - w4 % 5 else 0)),Γ (.int v)] (.int v) (Γ (dF Δ fs u))=.ok (.nx [Γ (.int cell),Γ (.lst Θ (fs.map .str)),Γ (dF Δ fs (up u f v)),Γ (.lst Δ (xs.map .int)),Γ (.lst Δ (ps.map shD)),Γ (.int (0+(k:Nat))),Γ (.str f),Γ (.int (10007 - S)),Γ (.int (if u f - w4 % 5 > 0 then u f - w4 % 5 else 0)),Γ (.int v)]):=fun v=>yb cl 2 (.v 6) _ rfl hf (by omega);cases c2:(w4 / 32 % 3 == 0) with
  |true=>refine⟨Γ (.str f),Γ (.int (10007 - S)),Γ (.int (if u f - w4 % 5 > 0 then u f - w4 % 5 else 0)),Γ (.int (if u f+w3 % 7 < 10007 - S then u f+w3 % 7 else 10007 - S)),.inr ⟨if u f+w3 % 7 < 10007 - S then u f+w3 % 7 else 10007 - S,by split<;>omega,by split<;>omega,?_⟩⟩;rw[vO];have st:=stt (if u f+w3 % 7 < 10007 - S then u f+w3 % 7 else 10007 - S);clear stt;generalize hv:(if u f+w3 % 7 < 10007 - S then u f+w3 % 7 else 10007 - S)=v,dF Δ fs u=W at *;generalize dF Δ fs (up u f v)=W',(oth fs f u).map D.int=OO,fs.map D.str=FF,xs.map D.int=XX,ps.map shD=PP at *;generalize hls:(if u f - w4 % 5 > 0 then u f - w4 % 5 else 0)=less at *;unfold tT;simp![Ev.e9,fi',g,e1,e2,lm,lp,y0,y2,y3,y4,d1,ep,c2,st,hv,hls]
  |false=>refine⟨Γ (.str f),Γ (.int (10007 - S)),Γ (.int (if u f - w4 % 5 > 0 then u f - w4 % 5 else 0)),Γ (.int p),.inr ⟨p,p0,p1,?_⟩⟩;rw[vO];have st:=stt p;clear stt;generalize p=v,dF Δ fs u=W at *;generalize dF Δ fs (up u f v)=W',(oth fs f u).map D.int=OO,fs.map D.str=FF,xs.map D.int=XX,ps.map shD=PP at *;generalize hls:(if u f - w4 % 5 > 0 then u f - w4 % 5 else 0)=less at *;unfold tT;simp![Ev.e9,fi',g,e1,e2,lm,lp,y0,y2,y3,y4,d1,ep,c2,st,hls]
 ·have d1:decide (0 < w2 % 3)=Θ:=p_ c1;refine⟨Γ (.str f),Γ (.int (10007 - S)),x8,x9,.inl ?_⟩;generalize dF Δ fs u=W,(oth fs f u).map D.int=OO,fs.map D.str=FF,xs.map D.int=XX,ps.map shD=PP at *;unfold tT;simp![Ev.e9,fi',g,e1,e2,lm,lp,y0,y2,y3,y4,d1]
theorem jL (q:Sh):∀(ps:List Sh) (c:Str->Int),ups c (ps++[q])=up (ups c ps) q.1 q.2
 |[],c=>rfl
 |p::ps,c=>jL q ps (up c p.1 p.2)
noncomputable def fc (fs:List Str)(x0:Int)(k:Nat):Str:=fs.getD (((k:Int)+x0) % fs.length).toNat Str.empty
theorem DD {fs:List Str}{x0:Int}{k:Nat}(h:k < fs.length):fc fs x0 k∈fs:=by have m0:=Int.emod_nonneg ((k:Int)+x0) (show(fs.length:Int)≠0 by omega);have m1:=Int.emod_lt_of_pos ((k:Int)+x0) (show(0:Int) < fs.length by omega);unfold fc;rw[EO,EK (by omega)];exact List.getElem_mem _
theorem DE {fs:List Str}(nd:fs.Nodup){x0:Int}{j k:Nat}(hj:j < k)(hk:k < fs.length):fc fs x0 j≠fc fs x0 k:=by
 have m0:=Int.emod_nonneg ((k:Int)+x0) (show(fs.length:Int)≠0 by omega);have m1:=Int.emod_lt_of_pos ((k:Int)+x0) (show(0:Int) < fs.length by omega);have n0:=Int.emod_nonneg ((j:Int)+x0) (show(fs.length:Int)≠0 by omega);have n1:=Int.emod_lt_of_pos ((j:Int)+x0) (show(0:Int) < fs.length by omega);have hne:(((j:Int)+x0) % fs.length).toNat≠(((k:Int)+x0) % fs.length).toNat:=by
  intro e;have e':((j:Int)+x0) % fs.length=((k:Int)+x0) % fs.length:=by omega
  have h1:((k:Int)+x0 - ((j:Int)+x0)) % fs.length=0:=by rw[Int.sub_emod,e',Int.sub_self];exact Int.zero_emod _
  have h2:((k:Int)+x0 - ((j:Int)+x0))=(k:Int) - j:=by omega
  rw[h2,Int.emod_eq_of_lt (by omega) (by omega)]at h1;omega
 unfold fc;rw[EO,EO,EK (show(((j:Int)+x0) % fs.length).toNat < fs.length by omega),EK (show(((k:Int)+x0) % fs.length).toNat < fs.length by omega)];have pw:=List.pairwise_iff_getElem.mp nd;show fs[(((j:Int)+x0) % fs.length).toNat]≠fs[(((k:Int)+x0) % fs.length).toNat];rcases Nat.lt_or_gt_of_ne hne with h|h
 ·exact pw _ _ _ _ h
 ·exact fun e=>pw _ _ (by omega) (by omega) h e.symm
theorem BJ {fs:List Str}(nd:fs.Nodup){f:Str}(hf:f∈fs)(u:Str->Int)(x:Int):(fs.map (up u f x)).sum=x+(oth fs f u).sum:=by rw[nY (up u f x) hf nd,BG];unfold up;rw[c_ rfl]
theorem yg (n:Nat)(cell:Int){fs:List Str}(nd:fs.Nodup)(hn:fs.length<=6)(c:Str->Int)(hc:∀f,0<=c f)(hs:(fs.map c).sum<=10007) :
  ∃ps:List Sh,aj T (n+2) 39 [.int cell,.lst Θ (fs.map .str),dF Δ fs c]=.ok (.tup [.lst Δ (ps.map shD),dF Θ fs (ups c ps)])/\(∀p∈ps,p.1∈fs/\0<=p.2)/\(ps.map (·.1)).Nodup/\ps.length<=6/\(fs.map (ups c ps)).sum<=10007/\∀f,0<=ups c ps f:=by
 obtain⟨xs,ex,lx,px⟩:=stream (show T 34=Γ d34 from rfl) rfl rfl rfl rfl n cell (3*(fs.length:Int)+2) (by omega) (by omega);have lx:xs.length=3*fs.length+2:=by rw[lx];omega
 obtain⟨τ',e,ps,x5,x6,x7,x8,x9,rfl,h1,h2,h3,h4,h5⟩:=Ev.nS (its:=ir 0 (fs.length:Int)) (τ:=[Γ (.int cell),Γ (.lst Θ (fs.map .str)),Γ (dF Δ fs c),Γ (.lst Δ (xs.map .int)),Γ (.lst Δ []),Ξ,Ξ,Ξ,Ξ,Ξ]) (body:=Ev.turn (aj T (n+1)) (.nm 5) tT)
  (fun i τ=>∃(ps:List Sh) (x5 x6 x7 x8 x9:Option D),τ=[Γ (.int cell),Γ (.lst Θ (fs.map .str)),Γ (dF Δ fs (ups c ps)),Γ (.lst Δ (xs.map .int)),Γ (.lst Δ (ps.map shD)),x5,x6,x7,x8,x9]/\ps.length<=i/\(∀p∈ps,p.1∈fs/\0<=p.2/\∃j,j < i/\p.1=fc fs (xs.getD 0 0) j)/\(ps.map (·.1)).Nodup/\(fs.map (ups c ps)).sum<=10007/\∀f,0<=ups c ps f)
  ⟨[],Ξ,Ξ,Ξ,Ξ,Ξ,rfl,n_ _,(fun p h=>by cases h),List.nodup_nil,hs,hc⟩ (by
   rintro i x τ hx ⟨ps,x5,x6,x7,x8,x9,rfl,h1,h2,h3,h4,h5⟩;have hi:i < fs.length:=by have:=(B_.mp hx).1;rw[iz]at this;omega
   unfold ir at hx;rw[EL,List.getElem?_range (by omega)]at hx;have hx':D.int (0+(i:Nat))=x:=EF hx;subst hx';have weak:∀p∈ps,p.1∈fs/\0<=p.2/\∃j,j < i+1/\p.1=fc fs (xs.getD 0 0) j:=fun p hp=>by obtain⟨a1,a2,j,a3,a4⟩:=h2 p hp;exact⟨a1,a2,j,by omega,a4⟩
   obtain⟨q6,q7,q8,q9,ht|⟨v,v0,v1,ht⟩⟩:=BI (aj T (n+1)) cell nd hn (ups c ps) (fun f _=>h5 f) h4 xs lx px ps (by omega) i hi x5 x6 x7 x8 x9
   ·exact⟨_,ht,ps,_,q6,q7,q8,q9,rfl,by omega,weak,h3,h4,h5⟩
   ·have hf:fc fs (xs.getD 0 0) i∈fs:=DD hi;have ht':Ev.turn (aj T (n+1)) (.nm 5) tT (.int (0+(i:Nat))) [Γ (.int cell),Γ (.lst Θ (fs.map .str)),Γ (dF Δ fs (ups c ps)),Γ (.lst Δ (xs.map .int)),Γ (.lst Δ (ps.map shD)),x5,x6,x7,x8,x9]=.ok (.nx [Γ (.int cell),Γ (.lst Θ (fs.map .str)),Γ (dF Δ fs (ups c (ps++[(fc fs (xs.getD 0 0) i,v)]))),Γ (.lst Δ (xs.map .int)),Γ (.lst Δ ((ps++[(fc fs (xs.getD 0 0) i,v)]).map shD)),Γ (.int (0+(i:Nat))),q6,q7,q8,q9]):=by rw[jL];exact ht
    refine⟨_,ht',ps++[(fc fs (xs.getD 0 0) i,v)],_,q6,q7,q8,q9,rfl,by rw[t_,EH];omega,fun p hp=>?_,?_,?_,fun f=>?_⟩
    ·rcases u_.mp hp with hp|hp
     ·exact weak p hp
     ·rw[C_.mp hp];exact⟨hf,v0,i,by omega,rfl⟩
    ·rw[A_,h_];refine⟨h3,by simp,fun a ha b hb=>?_⟩;obtain⟨p,hp,rfl⟩:=List.mem_map.mp ha;obtain⟨_,_,j,hj,e⟩:=h2 p hp;have hb:b=fc fs (xs.getD 0 0) i:=by simpa using hb
     rw[hb,e];exact DE nd hj hi
    ·rw[jL,BJ nd hf];have v1:v<=10007 - (oth fs (fc fs (xs.getD 0 0) i) (ups c ps)).sum:=v1;show v+(oth fs (fc fs (xs.getD 0 0) i) (ups c ps)).sum<=10007;omega
    ·rw[jL];unfold up;split
     ·exact v0
     ·exact h5 f)
 rw[iz]at h1 h2;refine⟨ps,?_,fun p hp=>⟨(h2 p hp).1,(h2 p hp).2.1⟩,h3,by omega,h4,h5⟩;have body:b39=[(.asg (.nm 3) (.call 34 [(.v 0),(.bin .add (.bin .mul (.c (.int 3)) (.bi .len [(.v 1)])) (.c (.int 2)))])),(.asg (.nm 4) (.lst [])),(.for_ (.nm 5) (.rng1 (.bi .len [(.v 1)])) tT),(.reti 2 (.v 4))]:=rfl;rw[Ev.goI (show T 39=Γ d39 from rfl) (show d39.io=Δ from rfl) (show d39.np=3 from rfl) (show d39.G.N.length=10 from rfl) (show d39.body=_ from body) rfl rfl];have fin:∀d:D,Ev.u9 d (Γ (dF Δ fs (ups c ps)))=.ok (.ri d (fs.map kf) (fs.map (iv (ups c ps)))):=fun d=>by show grd (fq (fs.map (iv (ups c ps)))) (.ok (Fl.ri d (fs.map kf) (fs.map (iv (ups c ps)))))=_;rw[hG (lC _ _)];rfl
 have fin2:∀d:D,Ev.ioK (.ri d (fs.map kf) (fs.map (iv (ups c ps))))=.ok (.tup [d,dF Θ fs (ups c ps)]):=fun d=>rfl;have ox:fF (xs.map D.int)=Δ:=fG (Ev.vi xs);have se:=nU fs;have lm:(fs.map D.str).length=fs.length:=f_ _;generalize dF Δ fs c=W,dF Δ fs (ups c ps)=W1,fs.map (iv (ups c ps))=VS,fs.map kf=KS,dF Θ fs (ups c ps)=W2,fs.map D.str=FF,xs.map D.int=XX,ps.map shD=PP,tT=tb at *;generalize hR:ir 0 (fs.length:Int)=R at *;simp -implicitDefEqProofs (disch:=omega) only[ev0,Nat.reduceBEq,Nat.reduceSub,Nat.reduceAdd,reduceIte,Ev.rs0,Ev.rss,Ev.dt,Ev.du,↓Ev.fzI,↓Ev.fzS,↓Ev.fzN,Ev.rfn,Ev.rct,Ev.rcn,cond_true,cond_false,a_,List.map_nil,e_,List.nil_append,Bool.true_or,Bool.false_or,Ev.eU,Ev.eV,Ev.eW,Ev.eX,Ev.dD,Ev.dE,Ev.e7,Ev.e8,Ev.b8,Ev.aJ,Ev.dH,Ev.dI,Ev.b9,Ev.cf,Ev.dG,Ev.cg,Ev.aR,Ev.cE,Ev.ak,Ev.aU,Ev.aV,Ev.aW,Ev.cG,Ev.aq,Ev.aX,Ev.aY,Ev.cI,Ev.ar,Ev.aZ,Ev.a7,Ev.a8,Ev.a9,Ev.ba,Ev.cN,Ev.au,Ev.bc,Ev.av,Ev.bg,Ev.bo,Ev.bq,Ev.aw,Ev.ax,Ev.cR,Ev.cS,Ev.az,Ev.aA,Ev.aa,Ev.af,Ev.aB,Ev.bx,Ev.cX,Ev.cY,Ev.bz,Ev.cZ,Ev.c4,Ev.bB,Ev.ah,Ev.bD,Ev.aE,Ev.bH,Ev.aG,Ev.bI,Ev.bJ,Ev.bK,Ev.aH,Ev.c5,Ev.aN,Ev.aO,Ev.bR,Ev.bS,Ev.bT,Ev.aP,Ev.c6,Ev.c7,Ev.bU,Ev.bV,Ev.aI,Ev.bX,Ev.cy,Ev.dJ,Ev.cv,Ev.cB,Ev.r_c,Ev.r_g,Ev.r_v,Ev.cC,Ev.cD,Ev.aT,Ev.cF,Ev.ao,Ev.cH,Ev.dY,Ev.cJ,Ev.cK,Ev.cL,Ev.cM,Ev.dZ,Ev.bb,Ev.d5,Ev.bf,Ev.cO,Ev.bh,Ev.bj,Ev.cP,Ev.cQ,Ev.br,Ev.d6,Ev.d7,Ev.bt,Ev.d8,Ev.d9,Ev.eh,Ev.ei,Ev.ay,Ev.ej,Ev.cT,Ev.eA,Ev.eB,Ev.t_t,Ev.o_v,Ev.o_tup,Ev.o_lst,Ev.o_call,Ev.o_c,Ev.o_g,Ev.cU,Ev.cV,Ev.eC,Ev.eD,Ev.o_dnew,Ev.bu,Ev.cW,Ev.bw,Ev.eE,Ev.eF,Ev.aC,Ev.bA,Ev.k_i,Ev.k_s,Ev.k_b,Ev.k_n,Ev.st_asg,Ev.bC,Ev.aD,Ev.st_setix,Ev.bE,Ev.bG,Ev.st_dset,Ev.st_dof,Ev.st_dupd,Ev.st_reti,Ev.bL,Ev.bM,Ev.bN,Ev.bO,Ev.bP,Ev.st_mvx,Ev.bQ,Ev.st_dsety,Ev.st_dsetp,Ev.st_clrA,Ev.cz,Ev.st_app,Ev.st_ret,Ev.st_if,Ev.st_for,Ev.eG,Ev.eI,Ev.c8,Ev.c9,Ev.da,Ev.dh,Ev.dm,Ev.cu,Ev.eJ,Ev.eK,Ev.dn,Ev.dq,Ev.dv,Ev.aQ,Ev.bW,Ev.dz,Ev.x_t,Ev.eL,Ev.eM,Ev.eN,Ev.dW,Ev.dX,Ev.eO,Ev.eP,Ev.dS,Ev.eQ,Ev.eR,Ev.eS,Ev.eT,Ev.n_n,Ev.n_s,Ev.dA,Ev.dB,Ev.bY,Ev.bZ,Ev.ai,Ev.dC,Ev.b7,Ev.eY,Ev.eZ,Ev.aK,Ev.ck,Ev.aL,Ev.cp,ex,e,se,lm,hR,fin,fin2,ox]
noncomputable def tk (w:Int)(r:List Pr):List Pr:=(fC r [] [] w).1
noncomputable def dr (w:Int)(r:List Pr):List Pr:=(fC r [] [] w).2
theorem jM:∀(r A B:List Pr) (w:Int),fC r A B w=(A++tk w r,B++dr w r)
 |[],A,B,w=>by
  show(A,B)=(A++[],B++[])
  rw[D_,D_]
 |p::r,A,B,w=>by
  have e1:fC (p::r) A B w=fC r (if p.1 < cAt p w then A++[(p.1,cAt p w)] else A) (if cAt p w < p.2 then B++[(cAt p w,p.2)] else B) (w - (cAt p w - p.1)):=rfl;have e2:fC (p::r) [] [] w=fC r (if p.1 < cAt p w then []++[(p.1,cAt p w)] else []) (if cAt p w < p.2 then []++[(cAt p w,p.2)] else []) (w - (cAt p w - p.1)):=rfl;unfold tk dr;rw[e1,e2,jM r,jM r (if p.1 < cAt p w then []++[(p.1,cAt p w)] else [])];refine Prod.ext ?_ ?_
  ·show(if p.1 < cAt p w then A++[(p.1,cAt p w)] else A)++_=A++((if p.1 < cAt p w then []++[(p.1,cAt p w)] else [])++_)
   split<;>simp
  ·show(if cAt p w < p.2 then B++[(cAt p w,p.2)] else B)++_=B++((if cAt p w < p.2 then []++[(cAt p w,p.2)] else [])++_)
   split<;>simp
theorem nZ (p:Pr)(r:List Pr)(w:Int):tk w (p::r)=(if p.1 < cAt p w then [(p.1,cAt p w)] else [])++tk (w - (cAt p w - p.1)) r:=by have e2:fC (p::r) [] [] w=fC r (if p.1 < cAt p w then []++[(p.1,cAt p w)] else []) (if cAt p w < p.2 then []++[(cAt p w,p.2)] else []) (w - (cAt p w - p.1)):=rfl;show(fC (p::r) [] [] w).1=_;rw[e2,jM];rfl
theorem n5 (p:Pr)(r:List Pr)(w:Int):dr w (p::r)=(if cAt p w < p.2 then [(cAt p w,p.2)] else [])++dr (w - (cAt p w - p.1)) r:=by have e2:fC (p::r) [] [] w=fC r (if p.1 < cAt p w then []++[(p.1,cAt p w)] else []) (if cAt p w < p.2 then []++[(cAt p w,p.2)] else []) (w - (cAt p w - p.1)):=rfl;show(fC (p::r) [] [] w).2=_;rw[e2,jM];rfl
theorem _root_.L2.Rn.Pos.tl {p:Pr}{r:List Pr}(h:Pos (p::r)):Pos r:=fun q hq=>h q (q_ _ hq)
theorem _root_.L2.Rn.Pos.hd {p:Pr}{r:List Pr}(h:Pos (p::r)):p.1 < p.2:=h p (.head _)
theorem t0:∀r:List Pr,Pos r->tk 0 r=[]/\dr 0 r=r
 |[],_=>⟨rfl,rfl⟩
 |p::r,h=>by
  have h1:=h.hd;have c:cAt p 0=p.1:=by unfold cAt;split<;>omega
  obtain⟨i1,i2⟩:=t0 r h.tl;rw[nZ,n5,c,b_ (by omega),c_ h1,show(0:Int) - (p.1 - p.1)=0 by omega,i1,i2];exact⟨rfl,rfl⟩
theorem t1 {p:Pr}{r:List Pr}(h:Pos (p::r)){w:Int}(h0:0 < w)(h1:w < p.2 - p.1):tk w (p::r)=[(p.1,p.1+w)]/\dr w (p::r)=(p.1+w,p.2)::r:=by
 have c:cAt p w=p.1+w:=by unfold cAt;split<;>omega
 obtain⟨i1,i2⟩:=t0 r h.tl;rw[nZ,n5,c,c_ (by omega),c_ (by omega),show w - (p.1+w - p.1)=0 by omega,i1,i2];exact⟨rfl,rfl⟩
theorem t2 {p:Pr}{r:List Pr}(h:Pos (p::r)){w:Int}(h1:p.2 - p.1<=w):tk w (p::r)=p::tk (w - (p.2 - p.1)) r/\dr w (p::r)=dr (w - (p.2 - p.1)) r:=by
 have hh:=h.hd;have c:cAt p w=p.2:=by unfold cAt;split<;>omega
 rw[nZ,n5,c,c_ hh,b_ (by omega)];exact⟨rfl,rfl⟩
def NF:List Pr->Prop
 |p::q::r=>p.2≠q.1/\NF (q::r)
 |_=>True
theorem NF.tl:∀ {p:Pr}{r:List Pr},NF (p::r)->NF r
 |_,[],_=>trivial
 |_,_::_,h=>h.2
def vP (x:Int):List Pr->Prop
 |[]=>True
 |q::_=>x≠q.1
theorem NF.cons {p:Pr}:∀ {r:List Pr},vP p.2 r->NF r->NF (p::r)
 |[],_,_=>trivial
 |_::_,h,n=>⟨h,n⟩
theorem NF.ne {p:Pr}:∀ {r:List Pr},NF (p::r)->vP p.2 r
 |[],_=>trivial
 |_::_,h=>h.1
theorem DF {x w:Int}(hw:0<=w):∀ {r:List Pr},Pos r->vP x r->vP x (tk w r)
 |[],_,_=>trivial
 |p::r,h,n=>by
  by_cases h0:w=0
  ·subst h0;rw[(t0 _ h).1];exact trivial
  ·by_cases h1:w < p.2 - p.1
   ·rw[(t1 h (by omega) h1).1];exact n
   ·rw[(t2 h (by omega)).1];exact n
theorem rT {w:Int}(hw:0<=w):∀ {r:List Pr} ,Pos r->NF r->NF (tk w r):=by
 intro r
 induction r generalizing w with
 |nil=>intro _ _;exact trivial
 |cons p r ih=>
  intro h n;by_cases h0:w=0
  ·subst h0;rw[(t0 _ h).1];exact trivial
  ·by_cases h1:w < p.2 - p.1
   ·rw[(t1 h (by omega) h1).1];exact trivial
   ·rw[(t2 h (by omega)).1];exact NF.cons (DF (by omega) h.tl n.ne) (ih (by omega) h.tl n.tl)
theorem pC {w:Int}(hw:0<=w):∀ {r:List Pr} ,Pos r->NF r->NF (dr w r):=by
 intro r
 induction r generalizing w with
 |nil=>intro _ _;exact trivial
 |cons p r ih=>
  intro h n;by_cases h0:w=0
  ·subst h0;rw[(t0 _ h).2];exact n
  ·by_cases h1:w < p.2 - p.1
   ·rw[(t1 h (by omega) h1).2];exact NF.cons n.ne n.tl
   ·rw[(t2 h (by omega)).2];exact ih (by omega) h.tl n.tl
theorem kr:∀ {l r:List Pr},NF l->NF r->NF (dU l r)
 |[],r,_,h=>h
 |[q],[],_,_=>trivial
 |[q],p::rs,_,h=>by
  show NF (if q.2=p.1 then(q.1,p.2)::rs else q::p::rs);split
  ·exact NF.cons h.ne h.tl
  ·exact⟨by assumption,h⟩
 |q::q'::l,r,h,n=>by
  show NF (q::dU (q'::l) r);refine NF.cons ?_ (kr h.2 n)
  match l,r with
  |[],[]=>exact h.1
  |[],p::rs=>show vP q.2 (if q'.2=p.1 then(q'.1,p.2)::rs else q'::p::rs);split<;>exact h.1
  |_::_,_=>exact h.1
theorem pD:∀ {l r:List Pr},Pos l->Pos r->Pos (dU l r)
 |[],r,_,h=>h
 |[q],[],h,_=>h
 |[q],p::rs,h,h'=>by
  have a1:=h.hd;have a2:=h'.hd;show Pos (if q.2=p.1 then(q.1,p.2)::rs else q::p::rs);split
  ·intro y hy;rcases j_.mp hy with rfl|hy
   ·show q.1 < p.2;omega
   ·exact h'.tl y hy
  ·intro y hy;rcases j_.mp hy with rfl|hy
   ·exact a1
   ·exact h' y hy
 |q::q'::l,r,h,h'=>by
  intro y hy;rcases j_.mp (show y∈q::dU (q'::l) r from hy) with rfl|hy
  ·exact h.hd
  ·exact pD h.tl h' y hy
theorem vQ {w:Int}(hw:0<=w):∀ {r:List Pr},Pos r->Pos (tk w r):=by
 intro r
 induction r generalizing w with
 |nil=>intro _ q hq;cases hq
 |cons p r ih=>
  intro h;by_cases h0:w=0
  ·subst h0;rw[(t0 _ h).1];intro q hq;cases hq
  ·by_cases h1:w < p.2 - p.1
   ·rw[(t1 h (by omega) h1).1];intro q hq;rw[C_.mp hq];show p.1 < p.1+w;omega
   ·rw[(t2 h (by omega)).1];intro q hq;rcases j_.mp hq with rfl|hq
    ·exact h.hd
    ·exact ih (by omega) h.tl q hq
theorem qm {w:Int}(hw:0<=w):∀ {r:List Pr},Pos r->Pos (dr w r):=by
 intro r
 induction r generalizing w with
 |nil=>intro _ q hq;cases hq
 |cons p r ih=>
  intro h;by_cases h0:w=0
  ·subst h0;rw[(t0 _ h).2];exact h
  ·by_cases h1:w < p.2 - p.1
   ·rw[(t1 h (by omega) h1).2];intro q hq;rcases j_.mp hq with rfl|hq
    ·show p.1+w < p.2;omega
    ·exact h.tl q hq
   ·rw[(t2 h (by omega)).2];exact ih (by omega) h.tl
theorem join_cons (q p:Pr)(l r:List Pr):dU (q::p::l) r=q::dU (p::l) r:=rfl
theorem join_1 {q p:Pr}(rs:List Pr)(h:q.2=p.1):dU [q] (p::rs)=(q.1,p.2)::rs:=c_ h
theorem vR {q p:Pr}(rs:List Pr)(h:q.2≠p.1):dU [q] (p::rs)=q::p::rs:=b_ h
theorem BK {w:Int}(hw:0<=w){r:List Pr}(h:Pos r)(hr:w<=cnt r):cnt (tk w r)=w:=by have:=(qg r [] [] w h hw (fun _ h=>by cases h) (fun _ h=>by cases h)).1;show cnt (fC r [] [] w).1=w;rw[this];show 0+(if w < cnt r then w else cnt r)=w;split<;>omega
theorem DG {a b:Int}(ha:0<=a)(hb:0<=b):0<=mn a b:=by unfold mn;split<;>omega
theorem BL (a b:Int):mn a b<=b:=by unfold mn;split<;>omega
theorem qo (v:Str->Int):∀(rows:List Rw) (free:List Pr),(∀p∈rows,Pos p.2/\NF p.2/\0<=v p.1)->Pos free->NF free->
  (∀p∈(hW v rows free).1,Pos p.2/\NF p.2/\cnt p.2<=v p.1)/\Pos (hW v rows free).2/\NF (hW v rows free).2
 |[],free,_,h1,h2=>⟨(fun p h=>by cases h),h1,h2⟩
 | (f,run)::rows,free,h,h1,h2=>by
  obtain⟨a1,a2,a3⟩:=h (f,run) (.head _);have a1:Pos run:=a1;have a2:NF run:=a2;have a3:0<=v f:=a3;have cn:=jZ a1;have m0:=DG a3 cn;have m1:=BL (v f) (cnt run);have m2:=zw (v f) (cnt run);obtain⟨i1,i2,i3⟩:=qo v rows (dU (dr (mn (v f) (cnt run)) run) free) (fun p hp=>h p (q_ _ hp)) (pD (qm m0 a1) h1) (kr (pC m0 a1 a2) h2);refine⟨fun p hp=>?_,i2,i3⟩;rcases j_.mp (show p∈(f,tk (mn (v f) (cnt run)) run)::(hW v rows (dU (dr (mn (v f) (cnt run)) run) free)).1 from hp) with rfl|hp
  ·refine⟨vQ m0 a1,rT m0 a1 a2,?_⟩;show cnt (tk (mn (v f) (cnt run)) run)<=v f;rw[BK m0 a1 m1];exact m2
  ·exact i1 p hp
theorem vS (v:Str->Int):∀(rows:List Rw) (free:List Pr),(∀p∈rows,Pos p.2/\NF p.2/\cnt p.2<=v p.1)->Pos free->NF free->
  (∀p∈(jK v rows free).1,NF p.2)/\NF (jK v rows free).2
 |[],free,_,h1,h2=>⟨(fun p h=>by cases h),h2⟩
 | (f,run)::rows,free,h,h1,h2=>by
  obtain⟨a1,a2,a3⟩:=h (f,run) (.head _);have a1:Pos run:=a1;have a2:NF run:=a2;have a3:cnt run<=v f:=a3;have m0:0<=v f - cnt run:=by omega
  obtain⟨i1,i2⟩:=vS v rows (dr (v f - cnt run) free) (fun p hp=>h p (q_ _ hp)) (qm m0 h1) (pC m0 h1 h2);refine⟨fun p hp=>?_,i2⟩;rcases j_.mp (show p∈(f,dU run (tk (v f - cnt run) free))::(jK v rows (dr (v f - cnt run) free)).1 from hp) with rfl|hp
  ·exact kr a2 (rT m0 h1 h2)
  ·exact i1 p hp
structure ANF (rows:List Rw)(free:List Pr):Prop where
 r:∀p∈rows,NF p.2
 f:NF free
theorem BM {fs:List Str}{c:Str->Int}{rows:List Rw}{free:List Pr}{L:Nat}(a:Al fs c rows free L)(n:ANF rows free){v:Str->Int}(hv:∀f,0<=v f){rows':List Rw}{free':List Pr}(e:(rows',free')=jK v (hW v rows free).1 (hW v rows free).2):ANF rows' free':=by obtain⟨i1,i2,i3⟩:=qo v rows free (fun p hp=>⟨a.pos p hp,n.r p hp,hv _⟩) a.posf n.f;obtain⟨j1,j2⟩:=vS v _ _ i1 i2 i3;rw[<- e]at j1 j2;exact⟨j1,j2⟩
noncomputable def tLc:List IS:=[(.asg (.nm 6) (.bi .min2 [(.v 5),(.bin .add (.v 4) (.v 1))])),(.asg (.nm 1) (.bin .sub (.v 1) (.bin .sub (.v 6) (.v 4)))),(.if_ (.cmp .lt (.v 4) (.v 6)) [(.app 2 (.tup [(.v 4),(.v 6)]))] []),(.if_ (.cmp .lt (.v 6) (.v 5)) [(.app 3 (.tup [(.v 6),(.v 5)]))] [])]
theorem yh (cl:Nat->List D->Res D)(r0:D)(A B:List Pr)(hA:A.length<=1000)(hB:B.length<=1000)(w:Int)(p:Pr)(x y z:Option D) :
  Ev.turn cl (.tp [(.nm 4),(.nm 5)]) tLc (pr2 p) [Γ r0,Γ (.int w),Γ (.lst Δ (A.map pr2)),Γ (.lst Δ (B.map pr2)),x,y,z]=.ok (.nx [Γ r0,Γ (.int (w - (cAt p w - p.1))),Γ (.lst Δ ((if p.1 < cAt p w then A++[(p.1,cAt p w)] else A).map pr2)),Γ (.lst Δ ((if cAt p w < p.2 then B++[(cAt p w,p.2)] else B).map pr2)),Γ (.int p.1),Γ (.int p.2),Γ (.int (cAt p w))]):=by
 have hc:=Bz p w;rw[show pr2 p=.tup [.int p.1,.int p.2] from rfl];generalize cAt p w=c at *;by_cases c1:p.1 < c<;>by_cases c2:c < p.2
 ·have d1:decide (p.1 < c)=Δ:=s_ c1;have d2:decide (c < p.2)=Δ:=s_ c2;rw[c_ c1,c_ c2,iu,iu];unfold tLc;simp![Ev.e9,hc,d1,d2,f_]
 ·have d1:decide (p.1 < c)=Δ:=s_ c1;have d2:decide (c < p.2)=Θ:=p_ c2;rw[c_ c1,b_ c2,iu];unfold tLc;simp![Ev.e9,hc,d1,d2,f_]
 ·have d1:decide (p.1 < c)=Θ:=p_ c1;have d2:decide (c < p.2)=Δ:=s_ c2;rw[b_ c1,c_ c2,iu];unfold tLc;simp![Ev.e9,hc,d1,d2,f_]
 ·have d1:decide (p.1 < c)=Θ:=p_ c1;have d2:decide (c < p.2)=Θ:=p_ c2;rw[b_ c1,b_ c2];unfold tLc;simp![Ev.e9,hc,d1,d2,f_]
theorem rV (cl:Nat->List D->Res D)(r0:D):∀(run A B:List Pr) (w:Int) (x y z:Option D),A.length+run.length<=1000->B.length+run.length<=1000->
  ∃v x' y' z',forM (Ev.turn cl (.tp [(.nm 4),(.nm 5)]) tLc) (run.map pr2) [Γ r0,Γ (.int w),Γ (.lst Δ (A.map pr2)),Γ (.lst Δ (B.map pr2)),x,y,z]=.ok (.nx [Γ r0,v,Γ (.lst Δ ((fC run A B w).1.map pr2)),Γ (.lst Δ ((fC run A B w).2.map pr2)),x',y',z'])
 |[],A,B,w,x,y,z,_,_=>⟨_,_,_,_,rfl⟩
 |p::r,A,B,w,x,y,z,h1,h2=>by
  rw[List.length_cons]at h1 h2;rw[a_,Ev.cu,yh cl r0 A B (by omega) (by omega)];have a1:(if p.1 < cAt p w then A++[(p.1,cAt p w)] else A).length<=A.length+1:=by split<;>simp
  have a2:(if cAt p w < p.2 then B++[(cAt p w,p.2)] else B).length<=B.length+1:=by split<;>simp
  exact rV cl r0 r _ _ _ _ _ _ (by omega) (by omega)
theorem zx (n:Nat)(run:List Pr)(hl:run.length<=1000)(w:Int):aj T (n+1) 37 [.lst Θ (run.map pr2),.int w]=.ok (.tup [.lst Δ ((tk w run).map pr2),.lst Δ ((dr w run).map pr2)]):=by have body:b37=[(.asg (.nm 2) (.lst [])),(.asg (.nm 3) (.lst [])),(.for_ (.tp [(.nm 4),(.nm 5)]) (.val (.v 0)) tLc),(.ret (.tup [(.v 2),(.v 3)]))]:=rfl;rw[Ev.go (show T 37=Γ d37 from rfl) (show d37.io=Θ from rfl) (show d37.np=2 from rfl) (show d37.G.N.length=7 from rfl) (show d37.body=_ from body) rfl];have pe:=fD run;obtain⟨v,x',y',z',e⟩:=rV (aj T n) (.lst Θ (run.map pr2)) run [] [] w Ξ Ξ Ξ (by simpa using hl) (by simpa using hl);unfold tk dr;generalize tLc=tb at *;rw[List.map_nil]at e;simp![pe,e]
noncomputable def z0:Str->Int:=fun _=>0
theorem Ey (f:Str):up z0 f 0=z0:=by funext g;unfold up z0;split<;>rfl
theorem yi (fs:List Str):fnd fs=alt Δ Δ Δ (fs.map fun f=>(f,[])) [(0,10007)]:=by unfold fnd alt;rw[EB];rfl
theorem DH:∀l:List Str,(l.map z0).sum=0
 |[]=>rfl
 |f::l=>by rw[a_,List.sum_cons,DH l];rfl
theorem Ez {fs:List Str}(nd:fs.Nodup)(hl:fs.length<=6):Al fs z0 (fs.map fun f=>(f,[])) [(0,10007)] 1:=by
 refine⟨nd,hl,?_,fun p h=>?_,fun p h=>?_,?_,?_,fun x=>?_⟩
 ·unfold szs;rw[EB];rfl
 ·obtain⟨f,_,rfl⟩:=List.mem_map.mp h;intro q hq;cases hq
 ·rw[C_.mp h];decide
 ·have:∀l:List Str,lsum (l.map fun f=>((f,[]):Rw))=0:=by
   intro l
   induction l with
   |nil=>rfl
   |cons f l ih=>show 0+lsum (l.map fun f=>((f,[]):Rw))=0;rw[ih]
  rw[this];simp
 ·rw[DH];rfl
 ·have:∀l:List Str,rmc x (l.map fun f=>((f,[]):Rw))=0:=by
   intro l
   induction l with
   |nil=>rfl
   |cons f l ih=>show 0+rmc x (l.map fun f=>((f,[]):Rw))=0;rw[ih];rfl
  rw[this];show 0+(mI x 0 10007+0)=_;omega
theorem DI (fs:List Str):ANF (fs.map fun f=>((f,[]):Rw)) [(0,10007)]:=by refine⟨fun p hp=>?_,trivial⟩;obtain⟨f,_,rfl⟩:=List.mem_map.mp hp;exact trivial
theorem vT (n:Nat)(run:List Pr)(hl:run.length<=1000):aj T (n+1) 38 [.lst Θ (run.map pr2)]=.ok (.int (cnt run)):=by
 have h1:=kq n run hl;have e1:aj T (n+1) 38 [.lst Θ (run.map pr2)]=aj T (n+1) 22 [.lst Θ (run.map pr2)]:=by rw[Ev.go (show T 38=Γ d38 from rfl) (show d38.io=Θ from rfl) (show d38.np=1 from rfl) (show d38.G.N.length=1 from rfl) (show d38.body=b38 from rfl) rfl,Ev.go (show T 22=Γ d22 from rfl) (show d22.io=Θ from rfl) (show d22.np=1 from rfl) (show d22.G.N.length=1 from rfl) (show d22.body=b22 from rfl) rfl];rfl
 rw[e1,h1]
noncomputable def iY:List Pr->List Pr->List Pr
 |acc,[]=>acc
 |acc,p::r=>match acc.getLast? with
  |some q=>if q.2=p.1 then iY (acc.dropLast++[(q.1,p.2)]) r else iY (acc++[p]) r
  |none=>iY [p] r
theorem rW (A:List Pr)(q p:Pr)(r:List Pr):iY (A++[q]) (p::r)=if q.2=p.1 then iY (A++[(q.1,p.2)]) r else iY ((A++[q])++[p]) r:=by rw[iY,List.getLast?_append,List.getLast?_singleton,List.dropLast_concat];rfl
theorem yj:∀(r:List Pr) (A:List Pr) (q:Pr),NF (q::r)->iY (A++[q]) r=A++q::r
 |[],A,q,_=>rfl
 |p::r,A,q,h=>by rw[rW,b_ h.1,yj r (A++[q]) p h.2,o_];rfl
theorem DJ (r:List Pr)(hr:NF r):∀(l A:List Pr) (q:Pr),NF (q::l)->iY (A++[q]) (l++r)=A++dU (q::l) r
 |[],A,q,_=>by
  cases r with
  |nil=>rfl
  |cons p rs=>
   rw[List.nil_append,rW];by_cases e:q.2=p.1
   ·rw[c_ e,join_1 rs e];exact yj rs A (q.1,p.2) (NF.cons (p:=(q.1,p.2)) hr.ne hr.tl)
   ·rw[b_ e,vR rs e,yj rs (A++[q]) p hr,o_];rfl
 |p::l,A,q,h=>by rw[e_,rW,b_ h.1,DJ r hr l (A++[q]) p h.2,join_cons,o_];rfl
theorem pE {l r:List Pr}(hl:NF l)(hr:NF r):iY [] (l++r)=dU l r:=by
 cases l with
 |nil=>
  cases r with
  |nil=>rfl
  |cons p r=>show iY [] (p::r)=p::r;rw[iY];exact yj r [] p hr
 |cons q l=>show iY [] (q::(l++r))=_;rw[iY];exact DJ r hr l [] q hl
noncomputable def tN:List IS:=[(.if_ (.and_ (.cmp .ne (.v 1) (.lst [])) (.cmp .eq (.idx (.idx (.v 1) (.neg (.c (.int 1)))) (.c (.int 1))) (.v 2))) [(.setix 1 (.neg (.c (.int 1))) (.tup [(.idx (.idx (.v 1) (.neg (.c (.int 1)))) (.c (.int 0))),(.v 3)]))] [(.app 1 (.tup [(.v 2),(.v 3)]))])]
theorem yk (cl:Nat->List D->Res D)(r0:D)(p:Pr)(x y:Option D) :
  Ev.turn cl (.tp [(.nm 2),(.nm 3)]) tN (pr2 p) [Γ r0,Γ (.lst Δ []),x,y]=.ok (.nx [Γ r0,Γ (.lst Δ [pr2 p]),Γ (.int p.1),Γ (.int p.2)]):=by
 have es:gp (eqN 39) [] []=.ok Δ:=rfl;rw[show pr2 p=.tup [.int p.1,.int p.2] from rfl];unfold tN;simp![Ev.e9,es]
theorem yl (cl:Nat->List D->Res D)(r0:D)(A:List Pr)(hA:A.length<=5000)(q p:Pr)(x y:Option D) :
  Ev.turn cl (.tp [(.nm 2),(.nm 3)]) tN (pr2 p) [Γ r0,Γ (.lst Δ ((A++[q]).map pr2)),x,y]=.ok (.nx [Γ r0,Γ (.lst Δ ((if q.2=p.1 then A++[(q.1,p.2)] else(A++[q])++[p]).map pr2)),Γ (.int p.1),Γ (.int p.2)]):=by
 have es:=rD (A.map pr2) (pr2 q);have ix:gx (.lst Δ (A.map pr2++[pr2 q])) (.int (-1))=.ok (pr2 q):=by rw[Ev.x_l,tM]
 have i0:gx (pr2 q) (.int 0)=.ok (.int q.1):=rfl;have i1:gx (pr2 q) (.int 1)=.ok (.int q.2):=rfl;have ixn:ixN (A.map pr2++[pr2 q]).length (-1)=Γ A.length:=by rw[t_,f_,EH];unfold ixN;rw[b_ (by decide),c_ (by omega)];congr 1;omega
 have st:∀d:D,(A.map pr2++[pr2 q]).set A.length d=A.map pr2++[d]:=fun d=>by rw[List.set_append_right _ _ (by rw[f_];exact n_ _),f_,Nat.sub_self];rfl
 have lm:(A.map pr2).length=A.length:=f_ _;rw[A_,a_,List.map_nil];by_cases e:q.2=p.1
 ·have eb:(q.2 == p.1)=Δ:=beq_iff_eq.mpr e;rw[c_ e,A_];rw[show pr2 p=.tup [.int p.1,.int p.2] from rfl];show Ev.turn cl _ tN _ _=.ok (.nx [_,Γ (.lst Δ (A.map pr2++[.tup [.int q.1,.int p.2]])),_,_]);generalize A.map pr2=AA,pr2 q=Q at *;unfold tN;simp![Ev.e9,es,ix,i0,i1,ixn,st,eb,lm]
 ·have eb:(q.2 == p.1)=Θ:=by simpa using e
  rw[b_ e,A_,A_];rw[show pr2 p=.tup [.int p.1,.int p.2] from rfl];show Ev.turn cl _ tN _ _=.ok (.nx [_,Γ (.lst Δ ((A.map pr2++[pr2 q])++[.tup [.int p.1,.int p.2]])),_,_]);have ll:(A.map pr2++[pr2 q]).length=A.length+1:=by rw[t_,lm];rfl
  generalize A.map pr2++[pr2 q]=AA at *;generalize pr2 q=Q at *;unfold tN;simp![Ev.e9,es,ix,i0,i1,eb,ll]
theorem n6 (cl:Nat->List D->Res D)(r0:D):∀(r A:List Pr) (x y:Option D),A.length+r.length<=5000->
  ∃x' y',forM (Ev.turn cl (.tp [(.nm 2),(.nm 3)]) tN) (r.map pr2) [Γ r0,Γ (.lst Δ (A.map pr2)),x,y]=.ok (.nx [Γ r0,Γ (.lst Δ ((iY A r).map pr2)),x',y'])
 |[],A,x,y,_=>⟨x,y,rfl⟩
 |p::r,A,x,y,h=>by
  rw[List.length_cons]at h;rw[a_,Ev.cu];rcases List.eq_nil_or_concat A with rfl|⟨A',q,rfl⟩
  ·rw[List.map_nil,yk];obtain⟨x',y',e⟩:=n6 cl r0 r [p] (Γ (.int p.1)) (Γ (.int p.2)) (by rw[List.length_nil]at h;rw[EH];omega);exact⟨x',y',e⟩
  ·rw[List.concat_eq_append]at *;rw[t_,EH]at h;rw[yl cl r0 A' (by omega) q p x y,rW];by_cases e:q.2=p.1
   ·rw[c_ e,c_ e];exact n6 cl r0 r _ _ _ (by rw[t_,EH];omega)
   ·rw[b_ e,b_ e];exact n6 cl r0 r _ _ _ (by rw[t_,t_,EH,EH];omega)
theorem mN (n:Nat)(l:List Pr)(h:l.length<=5000):aj T (n+1) 36 [.lst Θ (l.map pr2)]=.ok (.lst Δ ((iY [] l).map pr2)):=by have body:b36=[(.asg (.nm 1) (.lst [])),(.for_ (.tp [(.nm 2),(.nm 3)]) (.val (.v 0)) tN),(.ret (.v 1))]:=rfl;rw[Ev.go (show T 36=Γ d36 from rfl) (show d36.io=Θ from rfl) (show d36.np=1 from rfl) (show d36.G.N.length=4 from rfl) (show d36.body=_ from body) rfl];have pe:=fD l;obtain⟨x',y',e⟩:=n6 (aj T n) (.lst Θ (l.map pr2)) l [] Ξ Ξ (by simpa using h);rw[List.map_nil]at e;generalize tN=tb at *;simp![pe,e]
noncomputable def lv (R:Str->List Pr)(f:Str):D:=.lst Θ ((R f).map pr2)
noncomputable def dR (o:Bool)(fs:List Str)(R:Str->List Pr):D:=.dct o (fs.map kf) (fs.map (lv R))
noncomputable def upR (R:Str->List Pr)(f:Str)(r:List Pr):Str->List Pr:=fun g=>if g=f then r else R g
theorem pF (R:Str->List Pr)(f:Str)(r:List Pr):upR R f r f=r:=c_ rfl
theorem jN (R:Str->List Pr){f g:Str}(r:List Pr)(h:g≠f):upR R f r g=R g:=b_ h
theorem vU (R:Str->List Pr){f:Str}:∀ {fs:List Str},f∈fs->look (fs.map kf) (fs.map (lv R)) (kf f)=Γ (lv R f)
 |g::fs,h=>by
  show(if kf g=kf f then Γ (lv R g) else look (fs.map kf) (fs.map (lv R)) (kf f))=_;by_cases e:g=f
  ·rw[c_ (by rw[e]),e]
  ·rw[b_ (by rw[kf_eq];exact e)];exact vU R ((j_.mp h).resolve_left fun z=>e z.symm)
theorem rX (o:Bool){fs:List Str}(R:Str->List Pr){f:Str}(h:f∈fs):mf (dR o fs R) (.str f)=.ok (.lst Θ ((R f).map pr2)):=by show(match look (fs.map kf) (fs.map (lv R)) (kf f) with|some d=>(.ok d:Res D)|none=>stk)=_;rw[vU R h];rfl
theorem zC (R:Str->List Pr)(f:Str):er (lv R f)=lv R f:=by unfold lv;rw[er,fD]
theorem vV (R:Str->List Pr)(fs:List Str):ers (fs.map (lv R))=fs.map (lv R):=by rw[gP,EB];exact E0 fun f _=>zC R f
theorem zF:∀l:List Pr,fq (l.map pr2)=Δ
 |[]=>rfl
 |p::l=>by show(kM (.tup [.int p.1,.int p.2])&&fq (l.map pr2))=Δ;rw[zF l];rfl
theorem j6 (R:Str->List Pr):∀fs:List Str,fq (fs.map (lv R))=Δ
 |[]=>rfl
 |f::fs=>by show(kM (lv R f)&&fq (fs.map (lv R)))=Δ;rw[j6 R fs,Bool.and_true];show(!Θ&&fq ((R f).map pr2))=Δ;rw[zF];rfl
theorem zG (o:Bool)(fs:List Str)(R:Str->List Pr):er (dR o fs R)=dR Θ fs R:=by unfold dR;rw[er,vV]
theorem DK (R:Str->List Pr)(o:Bool)(r:List Pr){f:Str}{fs:List Str}(h:f∈fs):f9 (fs.map kf) (kf f)=fs.map kf/\ers (fL (fs.map kf) (fs.map (lv R)) (kf f) (.lst o (r.map pr2)))=fs.map (lv (upR R f r)):=by
 unfold f9 fL;rw[pq,s_ h,c_ rfl,c_ rfl];refine⟨rfl,?_⟩;clear h
 induction fs with
 |nil=>rfl
 |cons g fs ih=>
  rw[a_,a_,List.zipWith_cons_cons,a_,ers,ih];congr 1;by_cases e:g=f
  ·rw[c_ (by rw[e]),er,fD];unfold lv;rw[e,pF]
  ·rw[b_ (by rw[kf_eq];exact e),zC];unfold lv;rw[jN R r e]
theorem BN (R:Str->List Pr)(o:Bool)(r:List Pr){f:Str}{fs:List Str}(h:f∉fs):f9 (fs.map kf) (kf f)=(fs++[f]).map kf/\ers (fL (fs.map kf) (fs.map (lv R)) (kf f) (.lst o (r.map pr2)))=(fs++[f]).map (lv (upR R f r)):=by
 unfold f9 fL;rw[pq,p_ h,b_ EC,b_ EC,A_,A_];refine⟨rfl,?_⟩;rw[gP,A_,<- gP,vV];have e1:fs.map (lv R)=fs.map (lv (upR R f r)):=E0 fun g hg=>by unfold lv;rw[jN R r fun e=>h (by rw[<- e];exact hg)]
 rw[e1];congr 1;show [er (.lst o (r.map pr2))]=[lv (upR R f r) f]
 unfold lv;rw[er,fD,pF]
theorem rY (cl:Nat->List D->Res D)(i:Nat)(k:IR)(τ:Ev)(R:Str->List Pr)(o:Bool)(r:List Pr){f:Str}{fs:List Str}(hk:evR cl k τ=.ok (.str f))(h:f∈fs)(hl:fs.length<=1000):gF cl i k (.lst o (r.map pr2)) τ (Γ (dR Δ fs R))=.ok (τ.set i (Γ (dR Δ fs (upR R f r)))):=by obtain⟨h1,h2⟩:=DK R o r h;show gF cl i k (.lst o (r.map pr2)) τ (Γ (.dct Δ (fs.map kf) (fs.map (lv R))))=_;rw[Ev.aO,hk,Ev.cv,Ev.aN,j6,f_,Ev.jr (by omega)];show(.ok (τ.set i (Γ (.dct Δ (f9 (fs.map kf) (kf f)) (ers (fL (fs.map kf) (fs.map (lv R)) (kf f) (.lst o (r.map pr2))))))):Res Ev)=_;rw[h1,h2];rfl
theorem vW (cl:Nat->List D->Res D)(i:Nat)(k:IR)(τ:Ev)(R:Str->List Pr)(o:Bool)(r:List Pr){f:Str}{fs:List Str}(hk:evR cl k τ=.ok (.str f))(h:f∉fs)(hl:fs.length<=1000):gF cl i k (.lst o (r.map pr2)) τ (Γ (dR Δ fs R))=.ok (τ.set i (Γ (dR Δ (fs++[f]) (upR R f r)))):=by obtain⟨h1,h2⟩:=BN R o r h;show gF cl i k (.lst o (r.map pr2)) τ (Γ (.dct Δ (fs.map kf) (fs.map (lv R))))=_;rw[Ev.aO,hk,Ev.cv,Ev.aN,j6,f_,Ev.jr (by omega)];show(.ok (τ.set i (Γ (.dct Δ (f9 (fs.map kf) (kf f)) (ers (fL (fs.map kf) (fs.map (lv R)) (kf f) (.lst o (r.map pr2))))))):Res Ev)=_;rw[h1,h2];rfl
theorem n8:∀ {r:List Pr}{w:Int},Pos r->cnt r<=w->tk w r=r/\dr w r=[]
 |[],w,_,_=>⟨rfl,rfl⟩
 |p::r,w,h,hw=>by have hc:cnt (p::r)=(p.2 - p.1)+cnt r:=rfl;have hn:=jZ h.tl;obtain⟨a,b⟩:=t2 h (w:=w) (by omega);obtain⟨c,d⟩:=n8 (r:=r) (w:=w - (p.2 - p.1)) h.tl (by omega);rw[a,b,c,d];exact⟨rfl,rfl⟩
theorem DL {r:List Pr}{w:Int}(h:Pos r):tk (mn w (cnt r)) r=tk w r/\dr (mn w (cnt r)) r=dr w r:=by
 unfold mn;split
 ·rename_i hlt
  obtain⟨a,b⟩:=n8 h (w:=w) (by omega);obtain⟨c,d⟩:=n8 h (w:=cnt r) (Int.le_refl _);rw[a,b,c,d];exact⟨rfl,rfl⟩
 ·exact⟨rfl,rfl⟩
noncomputable def tA:List IS:=[(.dsetp 1 (.v 4) 5 (.call 37 [(.dget (.v 1) (.v 4)),(.dget (.v 3) (.v 4))])),(.asg (.nm 2) (.call 36 [(.bin .add (.v 5) (.v 2))]))]
noncomputable def tB:List IS:=[(.asg (.tp [(.nm 6),(.nm 2)]) (.call 37 [(.v 2),(.bin .sub (.dget (.v 3) (.v 4)) (.call 38 [(.dget (.v 1) (.v 4))]))])),(.dsety 1 (.v 4) (.call 36 [(.bin .add (.dget (.v 1) (.v 4)) (.v 6))]))]
theorem jt (l:List Pr):fF (l.map pr2)=Δ:=fG (gD l)
theorem qr (w:Int)(r:List Pr):(tk w r).length<=r.length:=by have:=(jI r [] [] w).1;unfold tk;simpa using this
theorem og (w:Int)(r:List Pr):(dr w r).length<=r.length:=by have:=(jI r [] [] w).2;unfold dr;simpa using this
theorem lE:∀l r:List Pr,(dU l r).length<=l.length+r.length
 |[],r=>by show r.length<=0+r.length;omega
 |[q],r=>by
  cases r with
  |nil=>exact n_ _
  |cons p rs=>
   by_cases e:q.2=p.1
   ·rw[join_1 rs e];simp
   ·rw[vR rs e];simp;omega
 |q::p::l,r=>by rw[join_cons];have:=lE (p::l) r;simp only[List.length_cons]at *;omega
theorem BO (n:Nat)(F0:D){fs:List Str}(hfs:fs.length<=6)(R:Str->List Pr)(v:Str->Int)(free:List Pr)(o2:Bool){f:Str}(hf:f∈fs)(hw:0<=v f)(pr:Pos (R f))(nr:NF (R f))(lr:(R f).length<=200)(nf:NF free)(lf:free.length<=2000)(x4 x5 x6:Option D) :
  Ev.turn (aj T (n+1)) (.nm 4) tA (.str f) [Γ F0,Γ (dR Δ fs R),Γ (.lst o2 (free.map pr2)),Γ (dF Θ fs v),x4,x5,x6] =
   .ok (.nx [Γ F0,Γ (dR Δ fs (upR R f (tk (v f) (R f)))),Γ (.lst Δ ((dU (dr (v f) (R f)) free).map pr2)),Γ (dF Θ fs v),Γ (.str f),Γ (.lst Δ ((dr (v f) (R f)).map pr2)),x6]):=by
 have g1:=rX Δ R hf;have g2:=lD Θ v hf;have e1:=zx n (R f) (by omega) (v f);have oa:=jt (tk (v f) (R f));have ob:=jt (dr (v f) (R f));have oj:=jt (dU (dr (v f) (R f)) free);have ld:=og (v f) (R f);have e2:=mN n (dr (v f) (R f)++free) (by rw[t_];omega);rw[pE (pC hw pr nr) nf]at e2;have ap:(dr (v f) (R f)).map pr2++free.map pr2=(dr (v f) (R f)++free).map pr2:=(A_ ..).symm;have l1:((dr (v f) (R f)).map pr2).length=(dr (v f) (R f)).length:=f_ ..;have l2:(free.map pr2).length=free.length:=f_ ..;have p1:=fD (R f);have p2:=fD (dr (v f) (R f)++free);have dy:gF (aj T (n+1)) 1 (.v 4) (.lst Δ ((tk (v f) (R f)).map pr2)) [Γ F0,Γ (dR Δ fs R),Γ (.lst o2 (free.map pr2)),Γ (dF Θ fs v),Γ (.str f),x5,x6] (Γ (dR Δ fs R))=.ok [Γ F0,Γ (dR Δ fs (upR R f (tk (v f) (R f)))),Γ (.lst o2 (free.map pr2)),Γ (dF Θ fs v),Γ (.str f),x5,x6]:=rY _ 1 (.v 4) _ R Δ _ rfl hf (by omega);generalize dU (dr (v f) (R f)) free=J,dR Δ fs (upR R f (tk (v f) (R f)))=DR',dR Δ fs R=DR,dF Θ fs v=W,(dr (v f) (R f)++free).map pr2=CC,(tk (v f) (R f)).map pr2=AA,(dr (v f) (R f)).map pr2=BB,(R f).map pr2=RR,free.map pr2=FF at *;generalize J.map pr2=JJ at *;unfold tA;simp![Ev.e9,g1,g2,e1,oa,ob,oj,e2,ap,l1,l2,p1,p2,dy]
theorem BP (n:Nat)(F0:D){fs:List Str}(hfs:fs.length<=6)(R:Str->List Pr)(v:Str->Int)(free:List Pr)(o2:Bool){f:Str}(hf:f∈fs)(hw:cnt (R f)<=v f)(nr:NF (R f))(lr:(R f).length<=500)(pf:Pos free)(nf:NF free)(lf:free.length<=500)(x4 x5 x6:Option D) :
  Ev.turn (aj T (n+1)) (.nm 4) tB (.str f) [Γ F0,Γ (dR Δ fs R),Γ (.lst o2 (free.map pr2)),Γ (dF Θ fs v),x4,x5,x6] =
   .ok (.nx [Γ F0,Γ (dR Δ fs (upR R f (dU (R f) (tk (v f - cnt (R f)) free)))),Γ (.lst Δ ((dr (v f - cnt (R f)) free).map pr2)),Γ (dF Θ fs v),Γ (.str f),x5,Γ (.lst Δ ((tk (v f - cnt (R f)) free).map pr2))]):=by
 have g1:=rX Δ R hf;have g2:=lD Θ v hf;have e0:=vT n (R f) (by omega);have e1:=zx n free (by omega) (v f - cnt (R f));have oa:=jt (tk (v f - cnt (R f)) free);have ob:=jt (dr (v f - cnt (R f)) free);have oj:=jt (dU (R f) (tk (v f - cnt (R f)) free));have ld:=qr (v f - cnt (R f)) free;have e2:=mN n (R f++tk (v f - cnt (R f)) free) (by rw[t_];omega);rw[pE nr (rT (by omega) pf nf)]at e2;have ap:(R f).map pr2++(tk (v f - cnt (R f)) free).map pr2=(R f++tk (v f - cnt (R f)) free).map pr2:=(A_ ..).symm;have l1:((tk (v f - cnt (R f)) free).map pr2).length=(tk (v f - cnt (R f)) free).length:=f_ ..;have l2:((R f).map pr2).length=(R f).length:=f_ ..;have p1:=fD (R f);have p0:=fD free;have p2:=fD (R f++tk (v f - cnt (R f)) free);have dy:gF (aj T (n+1)) 1 (.v 4) (.lst Δ ((dU (R f) (tk (v f - cnt (R f)) free)).map pr2)) [Γ F0,Γ (dR Δ fs R),Γ (.lst Δ ((dr (v f - cnt (R f)) free).map pr2)),Γ (dF Θ fs v),Γ (.str f),x5,Γ (.lst Δ ((tk (v f - cnt (R f)) free).map pr2))] (Γ (dR Δ fs R))=.ok [Γ F0,Γ (dR Δ fs (upR R f (dU (R f) (tk (v f - cnt (R f)) free)))),Γ (.lst Δ ((dr (v f - cnt (R f)) free).map pr2)),Γ (dF Θ fs v),Γ (.str f),x5,Γ (.lst Δ ((tk (v f - cnt (R f)) free).map pr2))]:=rY _ 1 (.v 4) _ R Δ _ rfl hf (by omega);generalize dU (R f) (tk (v f - cnt (R f)) free)=J at *;generalize dR Δ fs (upR R f J)=DR',dR Δ fs R=DR,dF Θ fs v=W,(R f++tk (v f - cnt (R f)) free).map pr2=CC,(tk (v f - cnt (R f)) free).map pr2=AA,(dr (v f - cnt (R f)) free).map pr2=BB,(R f).map pr2=RR,free.map pr2=FF,J.map pr2=JJ at *;generalize cnt (R f)=cr at *;unfold tB;simp![Ev.e9,g1,g2,e0,e1,oa,ob,oj,e2,ap,l1,l2,p0,p1,p2,dy]
noncomputable def aF (v:Str->Int):List Str->(Str->List Pr)->List Pr->(Str->List Pr)×List Pr
 |[],R,free=>(R,free)
 |f::gs,R,free=>aF v gs (upR R f (tk (v f) (R f))) (dU (dr (v f) (R f)) free)
noncomputable def bF (v:Str->Int):List Str->(Str->List Pr)->List Pr->(Str->List Pr)×List Pr
 |[],R,free=>(R,free)
 |f::gs,R,free=>bF v gs (upR R f (dU (R f) (tk (v f - cnt (R f)) free))) (dr (v f - cnt (R f)) free)
noncomputable def rws (fs:List Str)(R:Str->List Pr):List Rw:=fs.map fun f=>(f,R f)
theorem mO {gs:List Str}{R R':Str->List Pr}(h:∀f∈gs,R f=R' f):rws gs R=rws gs R':=E0 fun f hf=>by rw[h f hf]
theorem vX (v:Str->Int):∀(gs:List Str) (R:Str->List Pr) (free:List Pr),gs.Nodup->(∀f∈gs,Pos (R f))->
  (rws gs (aF v gs R free).1,(aF v gs R free).2)=hW v (rws gs R) free/\∀f,f∉gs->(aF v gs R free).1 f=R f
 |[],R,free,_,_=>⟨rfl,fun _ _=>rfl⟩
 |f::gs,R,free,nd,hp=>by
  obtain⟨n1,n2⟩:=y_.mp nd;have ne:∀g∈gs,g≠f:=fun g hg e=>n1 (e ▸ hg);obtain⟨i1,i2⟩:=vX v gs (upR R f (tk (v f) (R f))) (dU (dr (v f) (R f)) free) n2 fun g hg=>by rw[jN R _ (ne g hg)];exact hp g (.tail _ hg)
  have e0:rws gs (upR R f (tk (v f) (R f)))=rws gs R:=mO fun g hg=>jN R _ (ne g hg);rw[e0]at i1;obtain⟨t1,t2⟩:=DL (w:=v f) (hp f (.head _));refine⟨?_,fun g hg=>?_⟩
  ·show((f,(aF v gs (upR R f (tk (v f) (R f))) (dU (dr (v f) (R f)) free)).1 f)::rws gs (aF v gs (upR R f (tk (v f) (R f))) (dU (dr (v f) (R f)) free)).1,(aF v gs (upR R f (tk (v f) (R f))) (dU (dr (v f) (R f)) free)).2)=((f,tk (mn (v f) (cnt (R f))) (R f))::(hW v (rws gs R) (dU (dr (mn (v f) (cnt (R f))) (R f)) free)).1,(hW v (rws gs R) (dU (dr (mn (v f) (cnt (R f))) (R f)) free)).2)
   rw[t1,t2,i2 f n1,pF,<- i1]
  ·show(aF v gs (upR R f (tk (v f) (R f))) (dU (dr (v f) (R f)) free)).1 g=R g;have h1:g≠f:=fun e=>hg (e ▸ .head _);rw[i2 g fun z=>hg (.tail _ z),jN R _ h1]
theorem vY (v:Str->Int):∀(gs:List Str) (R:Str->List Pr) (free:List Pr),gs.Nodup->
  (rws gs (bF v gs R free).1,(bF v gs R free).2)=jK v (rws gs R) free/\∀f,f∉gs->(bF v gs R free).1 f=R f
 |[],R,free,_=>⟨rfl,fun _ _=>rfl⟩
 |f::gs,R,free,nd=>by
  obtain⟨n1,n2⟩:=y_.mp nd;have ne:∀g∈gs,g≠f:=fun g hg e=>n1 (e ▸ hg);obtain⟨i1,i2⟩:=vY v gs (upR R f (dU (R f) (tk (v f - cnt (R f)) free))) (dr (v f - cnt (R f)) free) n2;have e0:rws gs (upR R f (dU (R f) (tk (v f - cnt (R f)) free)))=rws gs R:=mO fun g hg=>jN R _ (ne g hg);rw[e0]at i1;refine⟨?_,fun g hg=>?_⟩
  ·show((f,(bF v gs (upR R f (dU (R f) (tk (v f - cnt (R f)) free))) (dr (v f - cnt (R f)) free)).1 f)::rws gs (bF v gs (upR R f (dU (R f) (tk (v f - cnt (R f)) free))) (dr (v f - cnt (R f)) free)).1,(bF v gs (upR R f (dU (R f) (tk (v f - cnt (R f)) free))) (dr (v f - cnt (R f)) free)).2)=((f,dU (R f) (tk (v f - cnt (R f)) free))::(jK v (rws gs R) (dr (v f - cnt (R f)) free)).1,(jK v (rws gs R) (dr (v f - cnt (R f)) free)).2)
   rw[i2 f n1,pF,<- i1]
  ·show(bF v gs (upR R f (dU (R f) (tk (v f - cnt (R f)) free))) (dr (v f - cnt (R f)) free)).1 g=R g;have h1:g≠f:=fun e=>hg (e ▸ .head _);rw[i2 g fun z=>hg (.tail _ z),jN R _ h1]
theorem vZ (n:Nat)(F0:D){fs:List Str}(hfs:fs.length<=6)(v:Str->Int)(hv:∀f∈fs,0<=v f):∀(gs:List Str) (R:Str->List Pr) (free:List Pr) (o2:Bool) (x4 x5 x6:Option D),(∀f∈gs,f∈fs)->(∀f∈fs,Pos (R f)/\NF (R f)/\(R f).length<=200)->NF free->free.length+200*gs.length<=2000->
  ∃o2' x4' x5',forM (Ev.turn (aj T (n+1)) (.nm 4) tA) (gs.map .str) [Γ F0,Γ (dR Δ fs R),Γ (.lst o2 (free.map pr2)),Γ (dF Θ fs v),x4,x5,x6]=.ok (.nx [Γ F0,Γ (dR Δ fs (aF v gs R free).1),Γ (.lst o2' ((aF v gs R free).2.map pr2)),Γ (dF Θ fs v),x4',x5',x6])
 |[],R,free,o2,x4,x5,x6,_,_,_,_=>⟨o2,x4,x5,rfl⟩
 |f::gs,R,free,o2,x4,x5,x6,hg,hR,nf,lf=>by
  have hf:=hg f (.head _);obtain⟨p1,p2,p3⟩:=hR f hf;rw[List.length_cons]at lf;have ld:=og (v f) (R f);have lj:=lE (dr (v f) (R f)) free;rw[a_,Ev.cu,BO n F0 hfs R v free o2 hf (hv f hf) p1 p2 p3 nf (by omega) x4 x5 x6];refine vZ n F0 hfs v hv gs (upR R f (tk (v f) (R f))) (dU (dr (v f) (R f)) free) Δ _ _ _ (fun g h=>hg g (.tail _ h)) (fun g h=>?_) (kr (pC (hv f hf) p1 p2) nf) (by omega);by_cases e:g=f
  ·subst e;rw[pF];exact⟨vQ (hv g hf) p1,rT (hv g hf) p1 p2,EN (qr _ _) p3⟩
  ·rw[jN R _ e];exact hR g h
theorem v3 (n:Nat)(F0:D){fs:List Str}(hfs:fs.length<=6)(v:Str->Int):∀(gs:List Str) (R:Str->List Pr) (free:List Pr) (o2:Bool) (x4 x5 x6:Option D),gs.Nodup->(∀f∈gs,f∈fs)->(∀f∈gs,NF (R f)/\(R f).length<=500/\cnt (R f)<=v f)->Pos free->NF free->free.length<=500->(o2=Δ∨gs≠[])->
  ∃x4' x5' x6',forM (Ev.turn (aj T (n+1)) (.nm 4) tB) (gs.map .str) [Γ F0,Γ (dR Δ fs R),Γ (.lst o2 (free.map pr2)),Γ (dF Θ fs v),x4,x5,x6]=.ok (.nx [Γ F0,Γ (dR Δ fs (bF v gs R free).1),Γ (.lst Δ ((bF v gs R free).2.map pr2)),Γ (dF Θ fs v),x4',x5',x6'])
 |[],R,free,o2,x4,x5,x6,_,_,_,_,_,_,ho=>by have:o2=Δ:=ho.elim id fun z=>absurd rfl z;subst this;exact⟨x4,x5,x6,rfl⟩
 |f::gs,R,free,o2,x4,x5,x6,nd,hg,hR,pf,nf,lf,_=>by have hf:=hg f (.head _);obtain⟨p1,p2,p3⟩:=hR f (.head _);obtain⟨n1,n2⟩:=y_.mp nd;have ld:=og (v f - cnt (R f)) free;rw[a_,Ev.cu,BP n F0 hfs R v free o2 hf p3 p1 p2 pf nf lf x4 x5 x6];refine v3 n F0 hfs v gs (upR R f (dU (R f) (tk (v f - cnt (R f)) free))) (dr (v f - cnt (R f)) free) Δ _ _ _ n2 (fun g h=>hg g (.tail _ h)) (fun g h=>?_) (qm (by omega) pf) (pC (by omega) pf nf) (by omega) (.inl rfl);have e:g≠f:=fun e=>n1 (e ▸ h);rw[jN R _ e];exact hR g (.tail _ h)
theorem rZ (v:Str->Int):∀(rows:List Rw) (free:List Pr),lsum (hW v rows free).1<=lsum rows/\(hW v rows free).2.length<=lsum rows+free.length
 |[],free=>⟨n_ _,by show free.length<=0+free.length;omega⟩
 |p::rows,free=>by
  obtain⟨i1,i2⟩:=rZ v rows (dU (dr (mn (v p.1) (cnt p.2)) p.2) free);have h1:=qr (mn (v p.1) (cnt p.2)) p.2;have h2:=og (mn (v p.1) (cnt p.2)) p.2;have h3:=lE (dr (mn (v p.1) (cnt p.2)) p.2) free;refine⟨?_,?_⟩
  ·show(tk (mn (v p.1) (cnt p.2)) p.2).length+lsum (hW v rows (dU (dr (mn (v p.1) (cnt p.2)) p.2) free)).1<=p.2.length+lsum rows;omega
  ·show(hW v rows (dU (dr (mn (v p.1) (cnt p.2)) p.2) free)).2.length<=p.2.length+lsum rows+free.length;omega
theorem ym (n:Nat){fs:List Str}{c:Str->Int}{R:Str->List Pr}{free:List Pr}{L:Nat}(a:Al fs c (rws fs R) free L)(an:ANF (rws fs R) free)(hL:L<=180)(hne:fs≠[])(v:Str->Int)(hv:∀f,0<=v f)(o:Bool) :
  ∃R' free',aj T (n+2) 40 [.lst Θ (fs.map .str),dR Δ fs R,.lst Θ (free.map pr2),dF Θ fs v]=.ok (.tup [.lst Δ (free'.map pr2),dR Θ fs R'])/\(rws fs R',free')=jK v (hW v (rws fs R) free).1 (hW v (rws fs R) free).2:=by
 have hfs:=a.few;have hln:=a.len;have hin:∀f∈fs,(f,R f)∈rws fs R:=fun f hf=>List.mem_map.mpr ⟨f,hf,rfl⟩;have hpos:∀f∈fs,Pos (R f):=fun f hf=>a.pos _ (hin f hf);have hnf:∀f∈fs,NF (R f):=fun f hf=>an.r _ (hin f hf);have hlen:∀f∈fs,(R f).length<=180:=fun f hf=>by have:=jJ (hin f hf);have h2:(R f).length<=lsum (rws fs R):=this;omega
 obtain⟨o1,x4,x5,e1⟩:=vZ n (.lst Θ (fs.map .str)) hfs v (fun f _=>hv f) fs R free Θ Ξ Ξ Ξ (fun _ h=>h) (fun f hf=>⟨hpos f hf,hnf f hf,by have:=hlen f hf;omega⟩) an.f (by omega);obtain⟨s1,_⟩:=vX v fs R free a.nod hpos
 obtain⟨q1,q2,q3⟩:=qo v (rws fs R) free (fun p hp=>by
  obtain⟨f,hf,rfl⟩:=List.mem_map.mp hp
  exact⟨hpos f hf,hnf f hf,hv f⟩) a.posf an.f
 have sl:=rZ v (rws fs R) free;rw[<- s1]at q1 q2 q3 sl;dsimp only at q1 q2 q3 sl;have hin2:∀f∈fs,(f,(aF v fs R free).1 f)∈rws fs (aF v fs R free).1:=fun f hf=>List.mem_map.mpr ⟨f,hf,rfl⟩;have hlr:(rws fs R).length=fs.length:=f_ ..;obtain⟨y4,y5,y6,e2⟩:=v3 n (.lst Θ (fs.map .str)) hfs v fs (aF v fs R free).1 (aF v fs R free).2 o1 x4 x5 Ξ a.nod (fun _ h=>h) (fun f hf=>⟨(q1 _ (hin2 f hf)).2.1,by have h1:=jJ (hin2 f hf);have h2:((aF v fs R free).1 f).length<=lsum (rws fs (aF v fs R free).1):=h1;omega,(q1 _ (hin2 f hf)).2.2⟩) q2 q3 (by omega) (.inr hne);obtain⟨s2,_⟩:=vY v fs (aF v fs R free).1 (aF v fs R free).2 a.nod;refine⟨(bF v fs (aF v fs R free).1 (aF v fs R free).2).1,(bF v fs (aF v fs R free).1 (aF v fs R free).2).2,?_,by rw[<- s1];exact s2⟩;have body:b40=[(.for_ (.nm 4) (.val (.v 0)) tA),(.for_ (.nm 4) (.val (.v 0)) tB),(.reti 1 (.v 2))]:=rfl;rw[Ev.goI (show T 40=Γ d40 from rfl) (show d40.io=Δ from rfl) (show d40.np=4 from rfl) (show d40.G.N.length=7 from rfl) (show d40.body=_ from body) rfl rfl];generalize bF v fs (aF v fs R free).1 (aF v fs R free).2=BF at *;have fin:∀d:D,Ev.u9 d (Γ (dR Δ fs BF.1))=.ok (.ri d (fs.map kf) (fs.map (lv BF.1))):=fun d=>by show grd (fq (fs.map (lv BF.1))) (.ok (Fl.ri d (fs.map kf) (fs.map (lv BF.1))))=_;rw[j6];rfl
 have fin2:∀d:D,Ev.ioK (.ri d (fs.map kf) (fs.map (lv BF.1)))=.ok (.tup [d,dR Θ fs BF.1]):=fun d=>rfl;have se:=nU fs;generalize dR Δ fs R=W,dR Δ fs (aF v fs R free).1=W1,(aF v fs R free).2.map pr2=FA,dR Δ fs BF.1=W2,dR Θ fs BF.1=W3,fs.map (lv BF.1)=VS,fs.map kf=KS,BF.2.map pr2=FB,dF Θ fs v=V,fs.map D.str=SS,free.map pr2=FF,tA=ta,tB=tb at *;simp![e1,e2,se,fin,fin2]
theorem zH (x a b:Int):0<=mI x a b:=by unfold mI;split<;>omega
theorem iP (x:Int):∀r:List Pr,0<=mc x r
 |[]=>Int.le_refl _
 |p::r=>by have h1:=iP x r;have h2:=zH x p.1 p.2;show 0<=mI x p.1 p.2+mc x r;omega
noncomputable def tI:List IS:=[(.if_ (.chain .le .lt (.v 3) (.v 1) (.v 4)) [(.ret (.bin .sub (.bin .add (.v 2) (.v 1)) (.v 3)))] []),(.asg (.nm 2) (.bin .sub (.bin .add (.v 2) (.v 4)) (.v 3)))]
theorem BQ (cl:Nat->List D->Res D)(r0:D)(x a:Int)(p:Pr)(y z:Option D) :
  Ev.turn cl (.tp [(.nm 3),(.nm 4)]) tI (pr2 p) [Γ r0,Γ (.int x),Γ (.int a),y,z]=if p.1<=x/\x < p.2 then .ok (.rt (.int (a+x - p.1))) else .ok (.nx [Γ r0,Γ (.int x),Γ (.int (a+p.2 - p.1)),Γ (.int p.1),Γ (.int p.2)]):=by
 rw[show pr2 p=.tup [.int p.1,.int p.2] from rfl];unfold tI;by_cases h1:p.1<=x
 ·have d1:decide (p.1<=x)=Δ:=s_ h1;by_cases h2:x < p.2
  ·have d2:decide (x < p.2)=Δ:=s_ h2;rw[c_ ⟨h1,h2⟩];simp![Ev.e9,d1,d2]
  ·have d2:decide (x < p.2)=Θ:=p_ h2;rw[b_ (fun z=>h2 z.2)];simp![Ev.e9,d1,d2]
 ·have d1:decide (p.1<=x)=Θ:=p_ h1;rw[b_ (fun z=>h1 z.1)];simp![Ev.e9,d1]
theorem v5 (cl:Nat->List D->Res D)(r0:D)(x:Int):∀(r:List Pr) (a:Int) (y z:Option D),
  (mc x r=0->∃a' y' z',forM (Ev.turn cl (.tp [(.nm 3),(.nm 4)]) tI) (r.map pr2) [Γ r0,Γ (.int x),Γ (.int a),y,z]=.ok (.nx [Γ r0,Γ (.int x),Γ (.int a'),y',z']))/\
  (mc x r≠0->∃k,forM (Ev.turn cl (.tp [(.nm 3),(.nm 4)]) tI) (r.map pr2) [Γ r0,Γ (.int x),Γ (.int a),y,z]=.ok (.rt (.int k)))
 |[],a,y,z=>⟨fun _=>⟨a,y,z,rfl⟩,fun h=>absurd rfl h⟩
 |p::r,a,y,z=>by
  have hm:mc x (p::r)=mI x p.1 p.2+mc x r:=rfl;have hn:=iP x r;rw[a_,Ev.cu,BQ];by_cases h:p.1<=x/\x < p.2
  ·have h1:mI x p.1 p.2=1:=c_ h;rw[c_ h];exact⟨fun z=>by omega,fun _=>⟨_,rfl⟩⟩
  ·have h1:mI x p.1 p.2=0:=b_ h;rw[b_ h];obtain⟨i1,i2⟩:=v5 cl r0 x r (a+p.2 - p.1) (Γ (.int p.1)) (Γ (.int p.2));exact⟨fun z=>i1 (by omega),fun z=>i2 (by omega)⟩
theorem v7 (n:Nat)(r:List Pr)(x:Int):∃d,aj T (n+1) 25 [.lst Θ (r.map pr2),.int x]=.ok d/\ja d=decide (mc x r=0):=by
 have body:b25=[(.asg (.nm 2) (.c (.int 0))),(.for_ (.tp [(.nm 3),(.nm 4)]) (.val (.v 0)) tI),(.ret (.c .non))]:=rfl;have pe:=fD r;obtain⟨i1,i2⟩:=v5 (aj T n) (.lst Θ (r.map pr2)) x r 0 Ξ Ξ;by_cases h:mc x r=0
 ·obtain⟨a',y',z',e⟩:=i1 h;refine⟨.non,?_,by rw[s_ h];rfl⟩;rw[Ev.go (show T 25=Γ d25 from rfl) (show d25.io=Θ from rfl) (show d25.np=2 from rfl) (show d25.G.N.length=5 from rfl) (show d25.body=_ from body) rfl];generalize tI=tb at *;simp![pe,e]
 ·obtain⟨k,e⟩:=i2 h;refine⟨.int k,?_,by rw[p_ h];rfl⟩;rw[Ev.go (show T 25=Γ d25 from rfl) (show d25.io=Θ from rfl) (show d25.np=2 from rfl) (show d25.G.N.length=5 from rfl) (show d25.body=_ from body) rfl];generalize tI=tb at *;simp![pe,e]
noncomputable def tFa:List IS:=[(.if_ (.cmp .isn (.call 25 [(.v 3),(.v 1)]) (.c .non)) [(.ret (.v 2))] [])]
theorem yn (n:Nat)(A0:D)(x:Int)(f:Str)(r:List Pr)(y z:Option D) :
  Ev.turn (aj T (n+1)) (.tp [(.nm 2),(.nm 3)]) tFa (dQ Θ (f,r)) [Γ A0,Γ (.int x),y,z]=if mc x r=0 then .ok (.nx [Γ A0,Γ (.int x),Γ (.str f),Γ (.lst Θ (r.map pr2))]) else .ok (.rt (.str f)):=by
 obtain⟨d,e,hd⟩:=v7 n r x;have pe:=fD r;rw[show dQ Θ (f,r)=.tup [.str f,.lst Θ (r.map pr2)] from rfl];unfold tFa;generalize r.map pr2=RR at *;by_cases h:mc x r=0
 ·rw[s_ h]at hd;rw[c_ h];simp![Ev.e9,e,hd,pe]
 ·rw[p_ h]at hd;rw[b_ h];simp![Ev.e9,e,hd,pe]
theorem oh (n:Nat)(A0:D)(x:Int)(R:Str->List Pr):∀(gs:List Str) (y z:Option D),
  ((∀g∈gs,mc x (R g)=0)->∃y' z',forM (Ev.turn (aj T (n+1)) (.tp [(.nm 2),(.nm 3)]) tFa) ((rws gs R).map (dQ Θ)) [Γ A0,Γ (.int x),y,z]=.ok (.nx [Γ A0,Γ (.int x),y',z']))/\
  (∀f∈gs,mc x (R f)≠0->(∀g∈gs,g≠f->mc x (R g)=0)->forM (Ev.turn (aj T (n+1)) (.tp [(.nm 2),(.nm 3)]) tFa) ((rws gs R).map (dQ Θ)) [Γ A0,Γ (.int x),y,z]=.ok (.rt (.str f)))
 |[],y,z=>⟨fun _=>⟨y,z,rfl⟩,fun f hf=>by cases hf⟩
 |g::gs,y,z=>by
  have e0:(rws (g::gs) R).map (dQ Θ)=dQ Θ (g,R g)::(rws gs R).map (dQ Θ):=rfl;rw[e0,Ev.cu,yn];obtain⟨i1,i2⟩:=oh n A0 x R gs (Γ (.str g)) (Γ (.lst Θ ((R g).map pr2)));refine⟨fun h=>?_,fun f hf h1 h2=>?_⟩
  ·rw[c_ (h g (.head _))];exact i1 fun k hk=>h k (.tail _ hk)
  ·by_cases e:g=f
   ·subst e;rw[b_ h1];rfl
   ·rw[c_ (h2 g (.head _) e)];exact i2 f ((j_.mp hf).resolve_left fun z=>e z.symm) h1 fun k hk=>h2 k (.tail _ hk)
theorem yo (n:Nat)(x:Int)(fs:List Str)(R:Str->List Pr)(free:List Pr)(h:∀g∈fs,mc x (R g)=0):aj T (n+2) 27 [alt Θ Θ Θ (rws fs R) free,.int x]=.ok .non:=by have body:b27=[(.for_ (.tp [(.nm 2),(.nm 3)]) (.val (.idx (.v 0) (.c (.int 0)))) tFa),(.ret (.c .non))]:=rfl;rw[Ev.go (show T 27=Γ d27 from rfl) (show d27.io=Θ from rfl) (show d27.np=2 from rfl) (show d27.G.N.length=4 from rfl) (show d27.body=_ from body) rfl];have ae:=iO Θ Θ Θ (rws fs R) free;have re:=hJ Θ (rws fs R);have x0:gx (alt Θ Θ Θ (rws fs R) free) (.int 0)=.ok (.lst Θ ((rws fs R).map (dQ Θ))):=rfl;obtain⟨i1,_⟩:=oh n (alt Θ Θ Θ (rws fs R) free) x R fs Ξ Ξ;obtain⟨y',z',e⟩:=i1 h;generalize alt Θ Θ Θ (rws fs R) free=A,(rws fs R).map (dQ Θ)=RR,tFa=tb at *;simp![ae,re,x0,e]
theorem yq (n:Nat)(x:Int){fs:List Str}(R:Str->List Pr)(free:List Pr){f:Str}(hf:f∈fs)(h1:mc x (R f)≠0)(h2:∀g∈fs,g≠f->mc x (R g)=0):aj T (n+2) 27 [alt Θ Θ Θ (rws fs R) free,.int x]=.ok (.str f):=by have body:b27=[(.for_ (.tp [(.nm 2),(.nm 3)]) (.val (.idx (.v 0) (.c (.int 0)))) tFa),(.ret (.c .non))]:=rfl;rw[Ev.go (show T 27=Γ d27 from rfl) (show d27.io=Θ from rfl) (show d27.np=2 from rfl) (show d27.G.N.length=4 from rfl) (show d27.body=_ from body) rfl];have ae:=iO Θ Θ Θ (rws fs R) free;have re:=hJ Θ (rws fs R);have x0:gx (alt Θ Θ Θ (rws fs R) free) (.int 0)=.ok (.lst Θ ((rws fs R).map (dQ Θ))):=rfl;obtain⟨_,i2⟩:=oh n (alt Θ Θ Θ (rws fs R) free) x R fs Ξ Ξ;have e:=i2 f hf h1 h2;generalize alt Θ Θ Θ (rws fs R) free=A,(rws fs R).map (dQ Θ)=RR,tFa=tb at *;simp![ae,re,x0,e]
theorem pG {x:Int}:∀ {r:List Pr}{p:Pr},p∈r->p.1<=x->x < p.2->mc x r≠0
 |q::r,p,h,h1,h2=>by
  have hm:mc x (q::r)=mI x q.1 q.2+mc x r:=rfl;have hn:=iP x r;have hq:=zH x q.1 q.2;rcases j_.mp h with rfl|h
  ·have:mI x p.1 p.2=1:=c_ ⟨h1,h2⟩;omega
  ·have:=pG h h1 h2;omega
theorem v8 (x:Int)(R:Str->List Pr)(f:Str)(fs:List Str):rmc x (rws (f::fs) R)=mc x (R f)+rmc x (rws fs R):=rfl
theorem v9 (x:Int)(R:Str->List Pr):∀fs:List Str,0<=rmc x (rws fs R)
 |[]=>Int.le_refl _
 |f::fs=>by have h1:=v9 x R fs;have h2:=iP x (R f);rw[v8];omega
theorem r6 (x:Int)(R:Str->List Pr):∀ {fs:List Str}{f:Str},f∈fs->mc x (R f)<=rmc x (rws fs R)
 |g::fs,f,h=>by
  rw[v8];have h1:=v9 x R fs;have h2:=iP x (R g);rcases j_.mp h with rfl|h
  ·omega
  ·have:=r6 x R h;omega
theorem zJ (x:Int)(R:Str->List Pr):∀ {fs:List Str}{f g:Str},fs.Nodup->f∈fs->g∈fs->g≠f->mc x (R f)+mc x (R g)<=rmc x (rws fs R)
 |k::fs,f,g,nd,hf,hg,ne=>by
  rw[v8];obtain⟨n1,n2⟩:=y_.mp nd;have h2:=iP x (R k);rcases j_.mp hf with rfl|hf'
  ·have:=r6 x R ((j_.mp hg).resolve_left ne);omega
  ·rcases j_.mp hg with rfl|hg'
   ·have:=r6 x R hf';omega
   ·have:=zJ x R n2 hf' hg' ne;omega
theorem DM (x a b:Int):mI x a b<=1:=by unfold mI;split<;>omega
noncomputable def tF3:List IS:=[(.if_ (.cmp .ne (.call 27 [(.v 0),(.v 8)]) (.v 4)) [(.ret (.c (.bl Θ)))] [])]
noncomputable def tF2:List IS:=[(.for_ (.nm 8) (.val (.tup [(.v 6),(.bin .sub (.v 7) (.c (.int 1)))])) tF3)]
noncomputable def tF1:List IS:=[(.asg (.nm 5) (.v 3)),(.if_ (.cmp .isn (.v 4) (.c .non)) [(.asg (.nm 5) (.dget (.v 2) (.v 4)))] []),(.for_ (.tp [(.nm 6),(.nm 7)]) (.val (.v 5)) tF2)]
theorem r9 (n:Nat){A d4:D}(hA:er A=A)(s1 s2 s3 s5 s6 s7 s8:Option D)(x:Int)(e:aj T (n+2) 27 [A,.int x]=.ok d4)(q:eqN 40 d4 d4=.ok Δ) :
  Ev.turn (aj T (n+2)) (.nm 8) tF3 (.int x) [Γ A,s1,s2,s3,Γ d4,s5,s6,s7,s8]=.ok (.nx [Γ A,s1,s2,s3,Γ d4,s5,s6,s7,Γ (.int x)]):=by
 unfold tF3;simp![Ev.e9,e,q,hA]
theorem yr (n:Nat){A d4:D}(hA:er A=A)(s1 s2 s3 s5 s6 s7 s8:Option D)(p:Pr)(e1:aj T (n+2) 27 [A,.int p.1]=.ok d4)(e2:aj T (n+2) 27 [A,.int (p.2 - 1)]=.ok d4)(q:eqN 40 d4 d4=.ok Δ) :
  Ev.turn (aj T (n+2)) (.tp [(.nm 6),(.nm 7)]) tF2 (pr2 p) [Γ A,s1,s2,s3,Γ d4,s5,s6,s7,s8]=.ok (.nx [Γ A,s1,s2,s3,Γ d4,s5,Γ (.int p.1),Γ (.int p.2),Γ (.int (p.2 - 1))]):=by
 have t1:=r9 n hA s1 s2 s3 s5 (Γ (.int p.1)) (Γ (.int p.2)) s8 p.1 e1 q;have t2:=r9 n hA s1 s2 s3 s5 (Γ (.int p.1)) (Γ (.int p.2)) (Γ (.int p.1)) (p.2 - 1) e2 q;rw[show pr2 p=.tup [.int p.1,.int p.2] from rfl];unfold tF2;generalize tF3=tb at *;have t1':Ev.turn (aj T (n+2)) (.nm 8) tb (.int p.1)=Ev.turn (aj T (n+2)) (.nm 8) tb (.int p.1):=rfl;have lp:forM (Ev.turn (aj T (n+2)) (.nm 8) tb) [.int p.1,.int (p.2 - 1)] [Γ A,s1,s2,s3,Γ d4,s5,Γ (.int p.1),Γ (.int p.2),s8]=.ok (.nx [Γ A,s1,s2,s3,Γ d4,s5,Γ (.int p.1),Γ (.int p.2),Γ (.int (p.2 - 1))]):=by rw[Ev.cu,t1];show forM _ _ _=_;rw[Ev.cu,t2];rfl
 simp![Ev.e9,lp]
theorem oi (n:Nat){A d4:D}(hA:er A=A)(q:eqN 40 d4 d4=.ok Δ)(s1 s2 s3 s5:Option D):∀(r:List Pr) (s6 s7 s8:Option D),(∀p∈r,aj T (n+2) 27 [A,.int p.1]=.ok d4/\aj T (n+2) 27 [A,.int (p.2 - 1)]=.ok d4)->
  ∃s6' s7' s8',forM (Ev.turn (aj T (n+2)) (.tp [(.nm 6),(.nm 7)]) tF2) (r.map pr2) [Γ A,s1,s2,s3,Γ d4,s5,s6,s7,s8]=.ok (.nx [Γ A,s1,s2,s3,Γ d4,s5,s6',s7',s8'])
 |[],s6,s7,s8,_=>⟨s6,s7,s8,rfl⟩
 |p::r,s6,s7,s8,h=>by rw[a_,Ev.cu,yr n hA s1 s2 s3 s5 s6 s7 s8 p (h p (.head _)).1 (h p (.head _)).2 q];exact oi n hA q s1 s2 s3 s5 r _ _ _ fun k hk=>h k (.tail _ hk)
theorem yt (n:Nat){A:D}(hA:er A=A){fs:List Str}(R:Str->List Pr)(free:List Pr)(s1:Option D){f:Str}(hf:f∈fs)(s4 s5 s6 s7 s8:Option D)(h:∀p∈R f,aj T (n+2) 27 [A,.int p.1]=.ok (.str f)/\aj T (n+2) 27 [A,.int (p.2 - 1)]=.ok (.str f)) :
  ∃s5' s6' s7' s8',Ev.turn (aj T (n+2)) (.nm 4) tF1 (.str f) [Γ A,s1,Γ (dR Θ fs R),Γ (.lst Θ (free.map pr2)),s4,s5,s6,s7,s8]=.ok (.nx [Γ A,s1,Γ (dR Θ fs R),Γ (.lst Θ (free.map pr2)),Γ (.str f),s5',s6',s7',s8']):=by
 have g1:=rX Θ R hf;have p1:=fD (R f);have p2:=fD free;have de:=zG Θ fs R;have vd:vars ((IR.v 2).dget (IR.v 4))=[2,4]:=rfl;have nl:fU ((IR.v 2).dget (IR.v 4))=Θ:=rfl;obtain⟨s6',s7',s8',e⟩:=oi n hA (d4:=.str f) (by rw[Ev.dX,beq_self_eq_true]) s1 (Γ (dR Θ fs R)) (Γ (.lst Θ (free.map pr2))) (Γ (.lst Θ ((R f).map pr2))) (R f) s6 s7 s8 h;refine⟨Γ (.lst Θ ((R f).map pr2)),s6',s7',s8',?_⟩;unfold tF1;generalize dR Θ fs R=DR,(R f).map pr2=RR,free.map pr2=FF,tF2=tb at *;simp![Ev.e9,g1,p1,p2,de,vd,nl,e]
theorem yu (n:Nat){A:D}(hA:er A=A)(s1 s2:Option D)(free:List Pr)(s4 s5 s6 s7 s8:Option D)(h:∀p∈free,aj T (n+2) 27 [A,.int p.1]=.ok .non/\aj T (n+2) 27 [A,.int (p.2 - 1)]=.ok .non) :
  ∃s5' s6' s7' s8',Ev.turn (aj T (n+2)) (.nm 4) tF1 .non [Γ A,s1,s2,Γ (.lst Θ (free.map pr2)),s4,s5,s6,s7,s8]=.ok (.nx [Γ A,s1,s2,Γ (.lst Θ (free.map pr2)),Γ .non,s5',s6',s7',s8']):=by
 have p2:=fD free;obtain⟨s6',s7',s8',e⟩:=oi n hA (d4:=.non) rfl s1 s2 (Γ (.lst Θ (free.map pr2))) (Γ (.lst Θ (free.map pr2))) free s6 s7 s8 h;refine⟨Γ (.lst Θ (free.map pr2)),s6',s7',s8',?_⟩;unfold tF1;generalize free.map pr2=FF,tF2=tb at *;simp![Ev.e9,p2,e]
theorem sa (n:Nat){A:D}(hA:er A=A){fs:List Str}(R:Str->List Pr)(free:List Pr)(s1:Option D):∀(gs:List Str) (s4 s5 s6 s7 s8:Option D),(∀f∈gs,f∈fs/\∀p∈R f,aj T (n+2) 27 [A,.int p.1]=.ok (.str f)/\aj T (n+2) 27 [A,.int (p.2 - 1)]=.ok (.str f))->(∀p∈free,aj T (n+2) 27 [A,.int p.1]=.ok .non/\aj T (n+2) 27 [A,.int (p.2 - 1)]=.ok .non)->
  ∃s4' s5' s6' s7' s8',forM (Ev.turn (aj T (n+2)) (.nm 4) tF1) (gs.map .str++[.non]) [Γ A,s1,Γ (dR Θ fs R),Γ (.lst Θ (free.map pr2)),s4,s5,s6,s7,s8]=.ok (.nx [Γ A,s1,Γ (dR Θ fs R),Γ (.lst Θ (free.map pr2)),s4',s5',s6',s7',s8'])
 |[],s4,s5,s6,s7,s8,_,h0=>by obtain⟨s5',s6',s7',s8',e⟩:=yu n hA s1 (Γ (dR Θ fs R)) free s4 s5 s6 s7 s8 h0;refine⟨Γ .non,s5',s6',s7',s8',?_⟩;rw[List.map_nil,List.nil_append,Ev.cu,e];rfl
 |f::gs,s4,s5,s6,s7,s8,h,h0=>by obtain⟨s5',s6',s7',s8',e⟩:=yt n hA R free s1 (h f (.head _)).1 s4 s5 s6 s7 s8 (h f (.head _)).2;rw[a_,e_,Ev.cu,e];exact sa n hA R free s1 gs _ _ _ _ _ (fun g hg=>h g (.tail _ hg)) h0
theorem wa (n:Nat){fs:List Str}{c:Str->Int}{R:Str->List Pr}{free:List Pr}{L:Nat}(a:Al fs c (rws fs R) free L):aj T (n+3) 41 [alt Θ Θ Θ (rws fs R) free,.lst Θ (fs.map .str),dR Θ fs R,.lst Θ (free.map pr2)]=.ok (.bl Δ):=by
 have hA:=iO Θ Θ Θ (rws fs R) free;have tot:∀x,rmc x (rws fs R)+mc x free<=1:=fun x=>by rw[a.cov x];exact DM ..
 have hfew:=a.few;have face:∀f∈fs,∀x,mc x (R f)≠0->aj T (n+2) 27 [alt Θ Θ Θ (rws fs R) free,.int x]=.ok (.str f):=fun f hf x hx=>by refine yq n x R free hf hx fun g hg ne=>?_;have h1:=zJ x R a.nod hf hg ne;have h2:=tot x;have h3:=iP x (R f);have h4:=iP x (R g);have h5:=iP x free;omega
 have nonx:∀x,mc x free≠0->aj T (n+2) 27 [alt Θ Θ Θ (rws fs R) free,.int x]=.ok .non:=fun x hx=>by refine yo n x fs R free fun g hg=>?_;have h1:=r6 x R hg;have h2:=tot x;have h4:=iP x (R g);have h5:=iP x free;omega
 have pos:∀f∈fs,Pos (R f):=fun f hf=>a.pos (f,R f) (List.mem_map.mpr ⟨f,hf,rfl⟩)
 obtain⟨s4',s5',s6',s7',s8',e⟩:=sa n hA R free (Γ (.lst Θ (fs.map .str))) (fs:=fs) fs Ξ Ξ Ξ Ξ Ξ (fun f hf=>⟨hf,fun p hp=>by
  have h1:=pos f hf p hp
  exact⟨face f hf _ (pG hp (Int.le_refl _) h1),face f hf _ (pG hp (by omega) (by omega))⟩⟩) (fun p hp=>by
  have h1:=a.posf p hp
  exact⟨nonx _ (pG hp (Int.le_refl _) h1),nonx _ (pG hp (by omega) (by omega))⟩)
 have body:b41=[(.for_ (.nm 4) (.val (.bin .add (.v 1) (.lst [(.c .non)]))) tF1),(.ret (.c (.bl Δ)))]:=rfl;rw[Ev.go (show T 41=Γ d41 from rfl) (show d41.io=Θ from rfl) (show d41.np=4 from rfl) (show d41.G.N.length=9 from rfl) (show d41.body=_ from body) rfl];have lm:(fs.map D.str).length=fs.length:=f_ ..;have se:ers (fs.map D.str++[D.non])=fs.map D.str++[D.non]:=gm (by rw[fO,List.all_append,<- fO,nV];rfl);have s0:=nU fs;generalize alt Θ Θ Θ (rws fs R) free=A,dR Θ fs R=DR,free.map pr2=FF,fs.map D.str=SS,tF1=tb at *;simp![lm,se,s0,e]
theorem qt (k:Nat):∀l:List Pr,gp (eqN (k+2)) (l.map pr2) (l.map pr2)=.ok Δ
 |[]=>rfl
 |p::l=>by
  rw[a_,Ev.dS];have:eqN (k+2) (pr2 p) (pr2 p)=.ok Δ:=by show gp (eqN (k+1)) [.int p.1,.int p.2] [.int p.1,.int p.2]=_;rw[Ev.dS,Ev.dW,beq_self_eq_true,Ev.cv,Ev.cy,Ev.dS,Ev.dW,beq_self_eq_true];rfl
  rw[this,Ev.cv,Ev.cy,qt k l];rfl
theorem sd (k:Nat)(o o':Bool):∀rows:List Rw,gp (eqN (k+5)) (rows.map (dQ o)) (rows.map (dQ o'))=.ok Δ
 |[]=>rfl
 |p::rows=>by
  rw[a_,a_,Ev.dS];have:eqN (k+5) (dQ o p) (dQ o' p)=.ok Δ:=by show gp (eqN (k+4)) [.str p.1,.lst o (p.2.map pr2)] [.str p.1,.lst o' (p.2.map pr2)]=_;have h2:eqN (k+4) (.lst o (p.2.map pr2)) (.lst o' (p.2.map pr2))=.ok Δ:=qt (k+1) p.2;rw[Ev.dS,Ev.dX,beq_self_eq_true,Ev.cv,Ev.cy,Ev.dS,h2];rfl
  rw[this,Ev.cv,Ev.cy,sd k o o' rows];rfl
theorem wb (o1 o2 o3 p1 p2 p3:Bool)(rows:List Rw)(free:List Pr):eqN 40 (alt o1 o2 o3 rows free) (alt p1 p2 p3 rows free)=.ok Δ:=by show gp (eqN 39) [.lst o1 (rows.map (dQ o2)),.lst o3 (free.map pr2)] [.lst p1 (rows.map (dQ p2)),.lst p3 (free.map pr2)]=_;have h1:eqN 39 (.lst o1 (rows.map (dQ o2))) (.lst p1 (rows.map (dQ p2)))=.ok Δ:=sd 33 o2 p2 rows;have h2:eqN 39 (.lst o3 (free.map pr2)) (.lst p3 (free.map pr2))=.ok Δ:=qt 36 free;rw[Ev.dS,h1,Ev.cv,Ev.cy,Ev.dS,h2];rfl
theorem qu (k:Nat):∀l:List Sh,gp (eqN (k+2)) (l.map shD) (l.map shD)=.ok Δ
 |[]=>rfl
 |p::l=>by
  rw[a_,Ev.dS];have:eqN (k+2) (shD p) (shD p)=.ok Δ:=by show gp (eqN (k+1)) [.str p.1,.int p.2] [.str p.1,.int p.2]=_;rw[Ev.dS,Ev.dX,beq_self_eq_true,Ev.cv,Ev.cy,Ev.dS,Ev.dW,beq_self_eq_true];rfl
  rw[this,Ev.cv,Ev.cy,qu k l];rfl
theorem yv (cl:Nat->List D->Res D)(o:Bool)(rows:List Rw):fT (fN cl (.tp [(.nm 0),(.nm 1)]) [] (.tup [(.v 0),(.bi .list [(.v 1)])]) [Ξ,Ξ]) (rows.map (dQ o))=.ok (rows.map (dQ Δ)):=by
 have:=Ev.gC (g:=fN cl (.tp [(.nm 0),(.nm 1)]) [] (.tup [(.v 0),(.bi .list [(.v 1)])]) [Ξ,Ξ]) (dQ o) (fun p:Rw=>p) (dQ Δ) rows fun p _=>by rw[show dQ o p=.tup [.str p.1,.lst o (p.2.map pr2)] from rfl,show dQ Δ p=.tup [.str p.1,.lst Δ (p.2.map pr2)] from rfl];generalize p.2.map pr2=X;simp![ev0]
 rw[this,List.map_id']
theorem DN (cl:Nat->List D->Res D)(o:Bool){fs:List Str}(R:Str->List Pr):∀gs:List Str,(∀f∈gs,f∈fs)->fT (fN cl (.nm 1) [] (.tup [(.v 1),(.dget (.v 0) (.v 1))]) [Γ (dR o fs R),Ξ]) (gs.map .str)=.ok ((rws gs R).map (dQ Θ)):=fun gs h=>by
 have:=Ev.gC (g:=fN cl (.nm 1) [] (.tup [(.v 1),(.dget (.v 0) (.v 1))]) [Γ (dR o fs R),Ξ]) D.str (fun f:Str=>f) (fun f=>dQ Θ (f,R f)) gs fun f hf=>by have g1:=rX o R (h f hf);rw[show dQ Θ (f,R f)=.tup [.str f,.lst Θ ((R f).map pr2)] from rfl];generalize dR o fs R=W,(R f).map pr2=X at *;simp![g1]
 rw[this,List.map_id'];unfold rws;rw[EB];rfl
theorem BR (cl:Nat->List D->Res D)(o:Bool){fs:List Str}(u:Str->Int):∀gs:List Str,(∀f∈gs,f∈fs)->fT (fN cl (.nm 1) [] (.tup [(.v 1),(.dget (.v 0) (.v 1))]) [Γ (dF o fs u),Ξ]) (gs.map .str)=.ok ((gs.map fun f=>((f,u f):Sh)).map shD):=fun gs h=>by
 have:=Ev.gC (g:=fN cl (.nm 1) [] (.tup [(.v 1),(.dget (.v 0) (.v 1))]) [Γ (dF o fs u),Ξ]) D.str (fun f:Str=>f) (fun f=>shD (f,u f)) gs fun f hf=>by have g1:=lD o u (h f hf);rw[show shD (f,u f)=.tup [.str f,.int (u f)] from rfl];generalize dF o fs u=W at *;simp![g1]
 rw[this,List.map_id',EB];rfl
theorem wc (rows:List Rw):(rows.map (dQ Δ)).map kg=rows.map (dQ Δ):=by rw[EB];rfl
theorem yy (rows:List Rw):(rows.map (dQ Δ)).all prD=Δ:=by rw[List.all_map,ED];intro p _;show(fE (.str p.1)&&cA (p.2.map pr2))=Δ;rw[gD];rfl
theorem yz (rows:List Rw)(free:List Pr)(h:rows.length<=1000):mh (alt Δ Δ Δ rows free)=Δ:=by show((rows.map (dQ Δ)).all (fun d=>prD d&&fB d)&&cA (free.map pr2)&&hU (rows.map (dQ Δ)).length)=Δ;rw[gD,f_,Ev.jr (by omega),Bool.and_true,Bool.and_true,List.all_map,ED];intro p _;show((fE (.str p.1)&&cA (p.2.map pr2))&&fB (.tup [.str p.1,.lst Δ (p.2.map pr2)]))=Δ;rw[gD,Ev.ve,Ev.kb,Ev.kb,Ev.xM,Ev.sU,jt];rfl
noncomputable def cpE:IR:=.comp {N:=["_law_face","_law_run"],kd:=[.local,.local],gl:=[5],df:=Θ} [] (.tp [(.nm 0),(.nm 1)]) (.val (.idx (.v 6) (.c (.int 0)))) [] (.tup [(.v 0),(.bi .list [(.v 1)])])
noncomputable def rwE:IR:=.comp {N:=["_law_rows","_law_face"],kd:=[.cell,.local],gl:=[],df:=Θ} [2] (.nm 1) (.val (.v 1)) [] (.tup [(.v 1),(.dget (.v 0) (.v 1))])
noncomputable def duE:IR:=.comp {N:=["_law_due","_law_face"],kd:=[.cell,.local],gl:=[],df:=Θ} [3] (.nm 1) (.val (.v 1)) [] (.tup [(.v 1),(.dget (.v 0) (.v 1))])
noncomputable def q1:IS:=.cio 8 39 [(.v 7),(.v 1)] 3 [] Ξ
noncomputable def q2:IS:=.cio 5 40 [(.v 1)] 2 [(.v 5),(.v 3)] (Γ 3)
noncomputable def q3:IS:=.asg (.nm 9) (.tup [cpE,(.bi .list [(.idx (.v 6) (.c (.int 1)))])])
noncomputable def q4:IS:=.asg (.nm 10) (.bi .list [(.v 8)])
noncomputable def q5:IS:=.asg (.nm 11) (.call 32 [(.v 6),(.v 10)])
noncomputable def q6:IS:=.if_ (.or_ (.not_ (.isi (.v 11) .tuple)) (.cmp .ne (.v 11) (.tup [rwE,(.v 5)]))) [(.ret (.c (.bl Θ)))] []
noncomputable def q7:IS:=.if_ (.or_ (.cmp .ne (.v 10) (.v 8)) (.or_ (.cmp .ne (.v 6) (.v 9)) (.not_ (.call 41 [(.v 11),(.v 1),(.v 2),(.v 5)])))) [(.ret (.c (.bl Θ)))] []
noncomputable def q8:IS:=.if_ (.cmp .ne (.call 28 [(.v 11)]) duE) [(.ret (.c (.bl Θ)))] []
noncomputable def q9:IS:=.clrA 4 12 6
noncomputable def q10:IS:=.if_ (.cmp .ne (.v 11) (.tup [rwE,(.v 5)])) [(.ret (.c (.bl Θ)))] []
noncomputable def q11:IS:=.mov 6 11
noncomputable def tL:List IS:=[q1,q2,q3,q4,q5,q6,q7,q8,q9,q10,q11]
theorem e1 (cl:Nat->List D->Res D){τ τ':Ev}{s:IS}{r:List IS}(h:evS cl s τ=.ok (.nx τ')):gA cl (s::r) τ=gA cl r τ':=by show bnd (evS cl s τ) _=_;rw[h];rfl
theorem BS (o:Bool)(ks:List Key)(ds:List D):er (.dct o ks ds)=.dct Θ ks (ers ds):=by rw[er]
theorem DO (cl:Nat->List D->Res D){FS VS US PS:List D}{KS:List Key}{cell:Int}(sf:ers FS=FS)(nv:fq VS=Δ)(nu:fq US=Δ)(h:cl 39 [.int cell,.lst Θ FS,.dct Δ KS VS]=.ok (.tup [.lst Δ PS,.dct Θ KS US]))(s0 s2 s4 s5 s6 s8 s9 s10 s11 s12:Option D)(o1:Bool) :
  evS cl q1 [s0,Γ (.lst o1 FS),s2,Γ (.dct Δ KS VS),s4,s5,s6,Γ (.int cell),s8,s9,s10,s11,s12]=.ok (.nx [s0,Γ (.lst Θ FS),s2,Γ (.dct Δ KS US),s4,s5,s6,Γ (.int cell),Γ (.lst Δ PS),s9,s10,s11,s12]):=by
 unfold q1;simp![sf,nv,nu,h]
theorem DP (cl:Nat->List D->Res D){FS US FF FF' LS LS':List D}{KS:List Key}(sf:ers FS=FS)(sff:ers FF=FF)(su:ers US=US)(nl:fq LS=Δ)(nl':fq LS'=Δ)(scu:gw US=Δ)(h:cl 40 [.lst Θ FS,.dct Δ KS LS,.lst Θ FF,.dct Θ KS US]=.ok (.tup [.lst Δ FF',.dct Θ KS LS']))(s0 s4 s6 s7 s8 s9 s10 s11 s12:Option D)(o5:Bool)
  (nd:fV US=Δ) (hx:ndx [s0,Γ (.lst Θ FS),Γ (.dct Δ KS LS'),Ξ,s4,Γ (.lst Δ FF'),s6,s7,s8,s9,s10,s11,s12]=Δ) :
  evS cl q2 [s0,Γ (.lst Θ FS),Γ (.dct Δ KS LS),Γ (.dct Δ KS US),s4,Γ (.lst o5 FF),s6,s7,s8,s9,s10,s11,s12]=.ok (.nx [s0,Γ (.lst Θ FS),Γ (.dct Δ KS LS'),Γ (.dct Δ KS US),s4,Γ (.lst Δ FF'),s6,s7,s8,s9,s10,s11,s12]):=by
 have erd:=BS;unfold q2;simp![sf,sff,su,nl,nl',scu,h,nd,hx,erd]
theorem DQ (cl:Nat->List D->Res D)(rows:List Rw)(free:List Pr)(s0 s1 s2 s3 s4 s5 s7 s8 s9 s10 s11 s12:Option D)(hr:rows.length<=1000) :
  evS cl q3 [s0,s1,s2,s3,s4,s5,Γ (alt Δ Δ Δ rows free),s7,s8,s9,s10,s11,s12]=.ok (.nx [s0,s1,s2,s3,s4,s5,Γ (alt Δ Δ Δ rows free),s7,s8,Γ (alt Δ Δ Δ rows free),s10,s11,s12]):=by
 have x0:gx (alt Δ Δ Δ rows free) (.int 0)=.ok (.lst Δ (rows.map (dQ Δ))):=rfl;have x1:gx (alt Δ Δ Δ rows free) (.int 1)=.ok (.lst Δ (free.map pr2)):=rfl;have fc:=yv cl Δ rows;have lf:=gD free;have lm:(rows.map (dQ Δ)).length=rows.length:=f_ ..;have ow:=wc rows;have nw:iI cpE (rows.map (dQ Δ))=Δ:=by show(Δ&&(rows.map (dQ Δ)).all prD)=Δ;rw[yy];rfl
 have nc:fU cpE=Δ:=rfl;have et:alt Δ Δ Δ rows free=.tup [.lst Δ (rows.map (dQ Δ)),.lst Δ (free.map pr2)]:=rfl;unfold cpE at nw nc;unfold q3 cpE;rw[show(Γ (alt Δ Δ Δ rows free)::s7::s8::Γ (alt Δ Δ Δ rows free)::s10::s11::[s12])=(Γ (alt Δ Δ Δ rows free)::s7::s8::Γ (.tup [.lst Δ (rows.map (dQ Δ)),.lst Δ (free.map pr2)])::s10::s11::[s12]) from rfl];generalize alt Δ Δ Δ rows free=A,rows.map (dQ Δ)=RR,free.map pr2=FF at *;cases z:cA RR<;>simp![x0,x1,fc,lf,lm,ow,nw,nc,z]
theorem DT (cl:Nat->List D->Res D){PS:List D}(lp:cA PS=Δ)(s0 s1 s2 s3 s4 s5 s6 s7 s9 s10 s11 s12:Option D) :
  evS cl q4 [s0,s1,s2,s3,s4,s5,s6,s7,Γ (.lst Δ PS),s9,s10,s11,s12]=.ok (.nx [s0,s1,s2,s3,s4,s5,s6,s7,Γ (.lst Δ PS),s9,Γ (.lst Δ PS),s11,s12]):=by
 unfold q4;simp![lp]
theorem DU (cl:Nat->List D->Res D){A B C:D}{PS:List D}(ea:er A=B)(ep:ers PS=PS)(oc:fB C=Δ)(h:cl 32 [B,.lst Θ PS]=.ok C)(s0 s1 s2 s3 s4 s5 s7 s8 s9 s11 s12:Option D) :
  evS cl q5 [s0,s1,s2,s3,s4,s5,Γ A,s7,s8,s9,Γ (.lst Δ PS),s11,s12]=.ok (.nx [s0,s1,s2,s3,s4,s5,Γ A,s7,s8,s9,Γ (.lst Δ PS),Γ C,s12]):=by
 unfold q5;simp![ea,ep,oc,h]
theorem wd (cl:Nat->List D->Res D){fs:List Str}(hfs:fs.length<=1000)(R:Str->List Pr)(free:List Pr)(s0 s3 s4 s6 s7 s8 s9 s10 s12:Option D)(o5:Bool) :
  evR cl (.cmp .ne (.v 11) (.tup [rwE,(.v 5)])) [s0,Γ (.lst Θ (fs.map .str)),Γ (dR Δ fs R),s3,s4,Γ (.lst o5 (free.map pr2)),s6,s7,s8,s9,s10,Γ (alt Δ Δ Δ (rws fs R) free),s12]=.ok (.bl Θ):=by
 have fc:=DN cl Δ R fs fun _ h=>h;have eq:=wb Δ Δ Δ Δ Θ o5 (rws fs R) free;have et:alt Δ Θ o5 (rws fs R) free=.tup [.lst Δ ((rws fs R).map (dQ Θ)),.lst o5 (free.map pr2)]:=rfl;rw[et]at eq;have lm:(fs.map D.str).length=fs.length:=f_ ..;unfold rwE;generalize alt Δ Δ Δ (rws fs R) free=A,(rws fs R).map (dQ Θ)=RR,free.map pr2=FF,dR Δ fs R=DR,fs.map D.str=SS at *;simp![fc,eq,lm]
theorem DV (cl:Nat->List D->Res D){fs:List Str}(hfs:fs.length<=1000)(R:Str->List Pr)(free:List Pr)(s0 s3 s4 s6 s7 s8 s9 s10 s12:Option D)(o5:Bool) :
  evS cl q6 [s0,Γ (.lst Θ (fs.map .str)),Γ (dR Δ fs R),s3,s4,Γ (.lst o5 (free.map pr2)),s6,s7,s8,s9,s10,Γ (alt Δ Δ Δ (rws fs R) free),s12]=.ok (.nx [s0,Γ (.lst Θ (fs.map .str)),Γ (dR Δ fs R),s3,s4,Γ (.lst o5 (free.map pr2)),s6,s7,s8,s9,s10,Γ (alt Δ Δ Δ (rws fs R) free),s12]):=by
 have c:=wd cl hfs R free s0 s3 s4 s6 s7 s8 s9 s10 s12 o5;have i1:ni .tuple (alt Δ Δ Δ (rws fs R) free)=Δ:=rfl;have i2:oJ (alt Δ Δ Δ (rws fs R) free)=Δ:=rfl;unfold q6;generalize hE:IR.cmp COp.ne (.v 11) (.tup [rwE,(.v 5)])=E,alt Δ Δ Δ (rws fs R) free=A at *;simp![c,i1,i2]
theorem BU (cl:Nat->List D->Res D){fs:List Str}(hfs:fs.length<=1000)(R:Str->List Pr)(free:List Pr)(s0 s3 s4 s6 s7 s8 s9 s10 s12:Option D)(o5:Bool) :
  evS cl q10 [s0,Γ (.lst Θ (fs.map .str)),Γ (dR Δ fs R),s3,s4,Γ (.lst o5 (free.map pr2)),s6,s7,s8,s9,s10,Γ (alt Δ Δ Δ (rws fs R) free),s12]=.ok (.nx [s0,Γ (.lst Θ (fs.map .str)),Γ (dR Δ fs R),s3,s4,Γ (.lst o5 (free.map pr2)),s6,s7,s8,s9,s10,Γ (alt Δ Δ Δ (rws fs R) free),s12]):=by
 have c:=wd cl hfs R free s0 s3 s4 s6 s7 s8 s9 s10 s12 o5;unfold q10;generalize hE:IR.cmp COp.ne (.v 11) (.tup [rwE,(.v 5)])=E,alt Δ Δ Δ (rws fs R) free=A at *;simp![c]
theorem DW (cl:Nat->List D->Res D){A A2 C C' DR DR':D}{PS FS FF:List D}(ep:gp (eqN 39) PS PS=.ok Δ)(ea:eqN 40 A A2=.ok Δ)(ec:er C=C')(ed:er DR=DR')(sf:ers FS=FS)(sff:ers FF=FF)(h:cl 41 [C',.lst Θ FS,DR',.lst Θ FF]=.ok (.bl Δ))(s0 s3 s4 s7 s12:Option D)(o5:Bool) :
  evS cl q7 [s0,Γ (.lst Θ FS),Γ DR,s3,s4,Γ (.lst o5 FF),Γ A,s7,Γ (.lst Δ PS),Γ A2,Γ (.lst Δ PS),Γ C,s12]=.ok (.nx [s0,Γ (.lst Θ FS),Γ DR,s3,s4,Γ (.lst o5 FF),Γ A,s7,Γ (.lst Δ PS),Γ A2,Γ (.lst Δ PS),Γ C,s12]):=by
 unfold q7;simp![ep,ea,ec,ed,sf,sff,h]
theorem DX (cl:Nat->List D->Res D){fs:List Str}(hfs:fs.length<=1000)(u:Str->Int){C C':D}(ec:er C=C')(h:cl 28 [C']=.ok (.lst Δ ((fs.map fun f=>((f,u f):Sh)).map shD)))(s0 s2 s4 s5 s6 s7 s8 s9 s10 s12:Option D) :
  evS cl q8 [s0,Γ (.lst Θ (fs.map .str)),s2,Γ (dF Δ fs u),s4,s5,s6,s7,s8,s9,s10,Γ C,s12]=.ok (.nx [s0,Γ (.lst Θ (fs.map .str)),s2,Γ (dF Δ fs u),s4,s5,s6,s7,s8,s9,s10,Γ C,s12]):=by
 have fc:=BR cl Δ u fs fun _ h=>h;have eq:=qu 37 (fs.map fun f=>((f,u f):Sh));have lm:(fs.map D.str).length=fs.length:=f_ ..;unfold q8 duE;generalize(fs.map fun f=>((f,u f):Sh)).map shD=QQ,dF Δ fs u=W,fs.map D.str=SS at *;simp![fc,eq,lm,ec,h]
theorem DY (cl:Nat->List D->Res D){A:D}(h:mh A=Δ)(s0 s1 s2 s3 s4 s5 s7 s8 s9 s10 s11 s12:Option D) :
  evS cl q9 [s0,s1,s2,s3,s4,s5,Γ A,s7,s8,s9,s10,s11,s12]=.ok (.nx [s0,s1,s2,s3,Ξ,s5,Ξ,s7,s8,s9,s10,s11,Ξ]):=by
 unfold q9;rw[Ev.st_clrA];show ue 4 12 6 [s0,s1,s2,s3,s4,s5,Γ A,s7,s8,s9,s10,s11,s12] (Γ A)=_;rw[Ev.aP,h];rfl
theorem BV (cl:Nat->List D->Res D)(C:D)(s0 s1 s2 s3 s4 s5 s6 s7 s8 s9 s10 s12:Option D) :
  evS cl q11 [s0,s1,s2,s3,s4,s5,s6,s7,s8,s9,s10,Γ C,s12]=.ok (.nx [s0,s1,s2,s3,s4,s5,Γ C,s7,s8,s9,s10,Ξ,s12]):=rfl
mutual
theorem yB:∀ {d:D},fE d=Δ->gL d=Δ
 |.non,_=>rfl
 |.bl _,_=>rfl
 |.int _,_=>rfl
 |.str _,_=>rfl
 |.exc _,_=>rfl
 |.tup ds,h=>gv (ds:=ds) h
 |.lst o ds,h=>nomatch h
 |.dct o ks ds,h=>nomatch h
theorem gv:∀ {ds:List D},cA ds=Δ->fV ds=Δ
 |[],_=>rfl
 |d::ds,h=>by have h':(fE d&&cA ds)=Δ:=h;rw[d_]at h';show(gL d&&fV ds)=Δ;rw[yB h'.1,gv h'.2];rfl
end
theorem we (R:Str->List Pr):∀fs:List Str,fV (fs.map (lv R))=Δ
 |[]=>rfl
 |f::fs=>by show(gL (.lst Θ ((R f).map pr2))&&fV (fs.map (lv R)))=Δ;rw[we R fs,Ev.lq,gv (gD _)];rfl
theorem sg (o:Bool):∀rows:List Rw,fV (rows.map (dQ o))=Δ
 |[]=>rfl
 |p::rows=>by show(gL (.tup [.str p.1,.lst o (p.2.map pr2)])&&fV (rows.map (dQ o)))=Δ;rw[sg o rows,Ev.xK,Ev.mH,Ev.mH,Ev.xJ,Ev.lq,gv (gD _)];rfl
theorem wg (o1 o2 o3:Bool)(rows:List Rw)(free:List Pr):gL (alt o1 o2 o3 rows free)=Δ:=by unfold alt;rw[Ev.xK,Ev.mH,Ev.mH,Ev.lq,Ev.lq,sg,gv (gD _)];rfl
def Nd (x:Option D):Prop:=∀τ,ndx (x::τ)=ndx τ
theorem jO:Nd Ξ:=fun _=>rfl
theorem gQ {d:D}(h:gL d=Δ):Nd (Γ d):=fun τ=>by rw[Ev.cz,h,Bool.true_and]
structure Jv (ns:List Int)(fs:List Str)(i:Nat)(τ:Ev):Prop where
 ex:∃(c:Str->Int) (R:Str->List Pr) (free:List Pr) (o5:Bool) (x4 x7 x8 x9 x10:Option D),
  τ=[Γ (.lst Θ (ns.map .int)),Γ (.lst Θ (fs.map .str)),Γ (dR Δ fs R),Γ (dF Δ fs c),x4,Γ (.lst o5 (free.map pr2)),Γ (alt Δ Δ Δ (rws fs R) free),x7,x8,x9,x10,Ξ,Ξ]/\
  Al fs c (rws fs R) free (1+12*i)/\ANF (rws fs R) free/\(∀f,0<=c f)/\Nd x4/\Nd x9/\Nd x10
theorem BW (ns:List Int){fs:List Str}(hne:fs≠[]){i:Nat}(hi:i<=13){τ:Ev}(j:Jv ns fs i τ)(cell:Int):∃τ',Ev.turn (aj T 16) (.nm 7) tL (.int cell) τ=.ok (.nx τ')/\Jv ns fs (i+1) τ':=by
 obtain⟨c,R,free,o5,x4,x7,x8,x9,x10,rfl,a,an,hc,n4,n9,n10⟩:=j.ex;have hsum:(fs.map c).sum<=10007:=by have h1:=a.tot;have h2:=jZ a.posf;omega
 obtain⟨ps,et,hin,nd,hl,hs,hu⟩:=yg 14 cell a.nod a.few c hc hsum;obtain⟨R',free',el,eg⟩:=ym 14 a an (by omega) hne (ups c ps) hu Δ;obtain⟨rows',free2,ec,a',eg2⟩:=qj 12 a (by omega) ps (by omega) hin nd hs hne;have er2:=eg2.trans eg.symm;injection er2 with e1' e2';subst e1' e2';have an':=BM a an hu eg2;have hr:=wa 13 a';have hfew:=a.few;have hlr:(rws fs R).length=fs.length:=f_ ..;have hlr':(rws fs R').length=fs.length:=f_ ..;have hsh:=mM 14 (rws fs R') free2 (by omega) fun p h=>by have h1:=jJ h;have h2:=a'.len;omega
 rw[a'.sz]at hsh;have sf:=nU fs;refine⟨[Γ (.lst Θ (ns.map .int)),Γ (.lst Θ (fs.map .str)),Γ (dR Δ fs R'),Γ (dF Δ fs (ups c ps)),Ξ,Γ (.lst Δ (free2.map pr2)),Γ (alt Δ Δ Δ (rws fs R') free2),Γ (.int cell),Γ (.lst Δ (ps.map shD)),Γ (alt Δ Δ Δ (rws fs R) free),Γ (.lst Δ (ps.map shD)),Ξ,Ξ],?_,⟨ups c ps,R',free2,Δ,Ξ,_,_,_,_,rfl,?_,an',hu,jO,gQ (wg ..),gQ (by rw[Ev.lq,gv (pk _)])⟩⟩
 ·show gA (aj T 16) tL [Γ (.lst Θ (ns.map .int)),Γ (.lst Θ (fs.map .str)),Γ (dR Δ fs R),Γ (dF Δ fs c),x4,Γ (.lst o5 (free.map pr2)),Γ (alt Δ Δ Δ (rws fs R) free),Γ (.int cell),x8,x9,x10,Ξ,Ξ]=_;have hx:ndx [Γ (.lst Θ (ns.map .int)),Γ (.lst Θ (fs.map .str)),Γ (.dct Δ (fs.map kf) (fs.map (lv R'))),Ξ,x4,Γ (.lst Δ (free2.map pr2)),Γ (alt Δ Δ Δ (rws fs R) free),Γ (.int cell),Γ (.lst Δ (ps.map shD)),x9,x10,Ξ,Ξ]=Δ:=by rw[gQ (by rw[Ev.lq,gv (Ev.vi ns)]),gQ (by rw[Ev.lq,gv (nV fs)]),gQ (by rw[Ev.Bt,we];rfl),jO,n4,gQ (by rw[Ev.lq,gv (gD _)]),gQ (wg ..),gQ Ev.Br,gQ (by rw[Ev.lq,gv (pk _)]),n9,n10];rfl
  unfold tL;refine(Law.e1 _ (DO (aj T 16) sf (hG (lC c fs)) (hG (lC (ups c ps) fs)) et _ _ _ _ _ _ _ _ _ _ Θ)).trans ?_;refine(Law.e1 _ (DP (aj T 16) sf (fD free) (zt (ups c ps) fs) (j6 R fs) (j6 R' fs) (lC (ups c ps) fs) el _ _ _ _ _ _ _ _ _ o5 (gv (pv _ _)) hx)).trans ?_;refine(Law.e1 _ (DQ (aj T 16) (rws fs R) free _ _ _ _ _ _ _ _ _ _ _ _ (by omega))).trans ?_;refine(Law.e1 _ (DT (aj T 16) (pk ps) _ _ _ _ _ _ _ _ _ _ _ _)).trans ?_;refine(Law.e1 _ (DU (aj T 16) (iO Δ Δ Δ (rws fs R) free) (vD ps) (nX _ _) ec _ _ _ _ _ _ _ _ _ _ _)).trans ?_;refine(Law.e1 _ (DV (aj T 16) (fs:=fs) (by omega) R' free2 _ _ _ _ _ _ _ _ _ Δ)).trans ?_;refine(Law.e1 _ (DW (aj T 16) (qu 37 ps) (wb ..) (iO Δ Δ Δ (rws fs R') free2) (zG Δ fs R') sf (fD free2) hr _ _ _ _ _ Δ)).trans ?_;refine(Law.e1 _ (DX (aj T 16) (fs:=fs) (by omega) (ups c ps) (iO Δ Δ Δ (rws fs R') free2) hsh _ _ _ _ _ _ _ _ _ _)).trans ?_;refine(Law.e1 _ (DY (aj T 16) (yz (rws fs R) free (by omega)) _ _ _ _ _ _ _ _ _ _ _ _)).trans ?_;refine(Law.e1 _ (BU (aj T 16) (fs:=fs) (by omega) R' free2 _ _ _ _ _ _ _ _ _ Δ)).trans ?_;refine(Law.e1 _ (BV (aj T 16) _ _ _ _ _ _ _ _ _ _ _ _ _)).trans ?_;rfl
 ·have:1+12*(i+1)=1+12*i+12:=by omega
  rw[this];exact a'
noncomputable def R0:Str->List Pr:=fun _=>[]
theorem DZ (f:Str):upR R0 f []=R0:=by funext g;unfold upR R0;split<;>rfl
noncomputable def tZ:List IS:=[(.dsety 2 (.v 4) (.lst [])),(.dset 3 (.v 4) (.c (.int 0)))]
theorem BX (cl:Nat->List D->Res D)(s0 s1 x4:Option D){ms:List Str}{g:Str}(nf:g∉ms)(hl:ms.length<=100) :
  Ev.turn cl (.nm 4) tZ (.str g) [s0,s1,Γ (dR Δ ms R0),Γ (dF Δ ms z0),x4,Ξ,Ξ,Ξ,Ξ,Ξ,Ξ,Ξ,Ξ]=.ok (.nx [s0,s1,Γ (dR Δ (ms++[g]) R0),Γ (dF Δ (ms++[g]) z0),Γ (.str g),Ξ,Ξ,Ξ,Ξ,Ξ,Ξ,Ξ,Ξ]):=by
 have dy:gF cl 2 (.v 4) (.lst Δ []) [s0,s1,Γ (dR Δ ms R0),Γ (dF Δ ms z0),Γ (.str g),Ξ,Ξ,Ξ,Ξ,Ξ,Ξ,Ξ,Ξ] (Γ (dR Δ ms R0))=.ok [s0,s1,Γ (dR Δ (ms++[g]) R0),Γ (dF Δ ms z0),Γ (.str g),Ξ,Ξ,Ξ,Ξ,Ξ,Ξ,Ξ,Ξ]:=by have:=vW cl 2 (.v 4) [s0,s1,Γ (dR Δ ms R0),Γ (dF Δ ms z0),Γ (.str g),Ξ,Ξ,Ξ,Ξ,Ξ,Ξ,Ξ,Ξ] R0 Δ [] rfl nf (by omega);rw[DZ]at this;exact this
 have st:Ev.jh cl 3 (.v 4) [s0,s1,Γ (dR Δ (ms++[g]) R0),Γ (dF Δ ms z0),Γ (.str g),Ξ,Ξ,Ξ,Ξ,Ξ,Ξ,Ξ,Ξ] (.int 0) (Γ (dF Δ ms z0))=.ok (.nx [s0,s1,Γ (dR Δ (ms++[g]) R0),Γ (dF Δ (ms++[g]) z0),Γ (.str g),Ξ,Ξ,Ξ,Ξ,Ξ,Ξ,Ξ,Ξ]):=by have:=rO cl 3 (.v 4) [s0,s1,Γ (dR Δ (ms++[g]) R0),Γ (dF Δ ms z0),Γ (.str g),Ξ,Ξ,Ξ,Ξ,Ξ,Ξ,Ξ,Ξ] (f:=g) (fs:=ms) (v:=z0) (x:=0) rfl nf (by omega);rw[Ey]at this;exact this
 generalize dR Δ (ms++[g]) R0=W1,dF Δ (ms++[g]) z0=V1,dR Δ ms R0=W,dF Δ ms z0=V at *;unfold tZ;simp![Ev.e9,dy,st]
theorem wj (cl:Nat->List D->Res D)(s0 s1:Option D):∀(gs ms:List Str) (x4:Option D),(ms++gs).Nodup->ms.length+gs.length<=100->Nd x4->
  ∃y4,Nd y4/\forM (Ev.turn cl (.nm 4) tZ) (gs.map .str) [s0,s1,Γ (dR Δ ms R0),Γ (dF Δ ms z0),x4,Ξ,Ξ,Ξ,Ξ,Ξ,Ξ,Ξ,Ξ]=.ok (.nx [s0,s1,Γ (dR Δ (ms++gs) R0),Γ (dF Δ (ms++gs) z0),y4,Ξ,Ξ,Ξ,Ξ,Ξ,Ξ,Ξ,Ξ])
 |[],ms,x4,_,_,h=>⟨x4,h,by rw[D_];rfl⟩
 |g::gs,ms,x4,nd,hl,h=>by rw[List.length_cons]at hl;have nf:g∉ms:=fun z=>(h_.mp nd).2.2 g z g (.head _) rfl;obtain⟨y4,hy,i⟩:=wj cl s0 s1 gs (ms++[g]) (Γ (.str g)) (by rw[o_];exact nd) (by rw[t_,EH];omega) (gQ Ev.xJ);refine⟨y4,hy,?_⟩;rw[a_,Ev.cu,BX cl s0 s1 x4 nf (by omega)];rw[o_]at i;exact i
theorem BY (ns:List Int):(ik ns (Γ 2) (Γ 14)).length<=12:=by unfold ik;have h1:HT.sIx ns.length 0 (Γ 2)=min 2 ns.length:=HT.sIx_nat _ _ 2;have h2:HT.sIx ns.length ns.length (Γ 14)=min 14 ns.length:=HT.sIx_nat _ _ 14;rw[h1,h2,EV];omega
theorem holds (ns:List Int)(h:ns.length<=63):aj T (16+1) xQ [.lst Θ (ns.map .int)]=.ok (.bl Δ):=by
 have c0:=cell (show T 33=Γ d33 from rfl) rfl rfl rfl rfl 15 ns 0 (by decide);have c1:=cell (show T 33=Γ d33 from rfl) rfl rfl rfl rfl 15 ns 1 (by decide);have m0:=Int.emod_nonneg (ns.getD 1 0) (show(6:Int)≠0 by decide);have m1:=Int.emod_lt_of_pos (ns.getD 1 0) (show(0:Int) < 6 by decide);obtain⟨fs,ef,hf⟩:=vy 14 (ns.getD 0 0) (1+ns.getD 1 0 % 6) (by omega) (by omega);have hlen:fs.length=(1+ns.getD 1 0 % 6 - 0).toNat:=hf.len;have hl6:fs.length<=6:=by omega
 have hne:fs≠[]:=fun z=>by rw[z,List.length_nil]at hlen;omega
 obtain⟨xs,ex,lx,_⟩:=stream (show T 34=Γ d34 from rfl) rfl rfl rfl rfl 15 (ns.getD 1 0) 2 (by decide) (by decide);have lx2:xs.length=2:=lx;obtain⟨y4,n4,ez⟩:=wj (aj T 16) (Γ (.lst Θ (ns.map .int))) (Γ (.lst Θ (fs.map .str))) fs [] Ξ (by simpa using hf.nod) (by rw[List.length_nil];omega) jO;rw[List.nil_append]at ez;have hd0:dF Δ [] z0=.dct Δ [] []:=rfl;have hd1:dR Δ [] R0=.dct Δ [] []:=rfl;rw[hd0,hd1]at ez;have en:=By 15 fs hf.nod (by omega);rw[yi]at en;have hrw:(fs.map fun f=>((f,[]):Rw))=rws fs R0:=rfl;rw[hrw]at en;have al:=Ez hf.nod hl6;have anf:=DI fs;rw[hrw]at al anf
 -- the cells
 have hcut:ik (ns.map D.int) (Γ 2) (Γ 14)=(ik ns (Γ 2) (Γ 14)).map .int:=Ev.vp ..;have hcl:(ik ns (Γ 2) (Γ 14)).length<=12:=BY ns;have hys:xs.map D.int++(ik ns (Γ 2) (Γ 14)).map D.int=(xs++ik ns (Γ 2) (Γ 14)).map .int:=(A_ ..).symm;have hyl:(xs++ik ns (Γ 2) (Γ 14)).length<=14:=by rw[t_];omega
 have lm1:(xs.map D.int).length=2:=by rw[f_,lx2]
 have lm2:((ik ns (Γ 2) (Γ 14)).map D.int).length<=12:=by rw[f_];exact hcl
 generalize hY:xs++ik ns (Γ 2) (Γ 14)=ys at *;obtain⟨τ',e,j⟩:=Ev.nS (its:=ys.map D.int) (τ:=[Γ (.lst Θ (ns.map .int)),Γ (.lst Θ (fs.map .str)),Γ (dR Δ fs R0),Γ (dF Δ fs z0),y4,Γ (.lst Δ [.tup [.int 0,.int 10007]]),Γ (alt Δ Δ Δ (rws fs R0) [(0,10007)]),Ξ,Ξ,Ξ,Ξ,Ξ,Ξ]) (body:=Ev.turn (aj T 16) (.nm 7) tL)
  (fun i τ=>Jv ns fs i τ) ⟨z0,R0,[(0,10007)],Δ,y4,Ξ,Ξ,Ξ,Ξ,rfl,al,anf,fun _=>Int.le_refl _,n4,jO,jO⟩ (by
   intro i x τ hx j;have hi:i < ys.length:=by
    have:=(B_.mp hx).1
    rwa [f_]at this
   obtain⟨k,hk,rfl⟩:=List.mem_map.mp (EM hx)
   exact BW ns hne (by omega) j k)
 have body:d42.body=(.asg (.nm 1) (.call 35 [(.call 33 [(.v 0),(.c (.int 0))]),(.bin .add (.c (.int 1)) (.bin .mod (.call 33 [(.v 0),(.c (.int 1))]) (.c (.int 6))))]))::(.asg (.nm 2) .dnew)::(.asg (.nm 3) .dnew)::(.for_ (.nm 4) (.val (.v 1)) tZ)::(.asg (.nm 5) (.lst [(.tup [(.c (.int 0)),(.c (.int 10007))])]))::(.asg (.nm 6) (.call 26 [(.bi .list [(.v 1)])]))::(.for_ (.nm 7) (.val (.bin .add (.call 34 [(.call 33 [(.v 0),(.c (.int 1))]),(.c (.int 2))]) (.sl (.v 0) (Γ (.c (.int 2))) (Γ (.c (.int 14)))))) tL)::[(.ret (.c (.bl Δ)))]:=rfl;rw[Ev.go (show T xQ=Γ d42 from rfl) (show d42.io=Θ from rfl) (show d42.np=1 from rfl) (show d42.G.N.length=13 from rfl) body rfl];have l5:=Ev.nP ns;have l6:=Ev.sV fs;have l7:=Ev.nQ fs;have l8:=Ev.nP ys;have oa:=nX (rws fs R0) [(0,10007)];have os:=fG (Ev.sV fs);have vs:vars ((IR.v 0).sl (Γ (IR.c (D.int 2))) (Γ (IR.c (D.int 14))))=[0]:=rfl;have t0:Int.toNat 0=0:=rfl;have t1:Int.toNat 1=1:=rfl;rw[t0]at c0;rw[t1]at c1;generalize ns.getD 0 0=k0,ns.getD 1 0=k1,(ik ns (Γ 2) (Γ 14)).map D.int=CC,xs.map D.int=XX,ys.map D.int=YY,fs.map D.str=FS,ns.map D.int=NS,alt Δ Δ Δ (rws fs R0) [(0,10007)]=A,dR Δ fs R0=W,dF Δ fs z0=V,tZ=tz,tL=tl at *;simp -implicitDefEqProofs (disch:=omega) only[ev0,Nat.reduceBEq,Nat.reduceSub,Nat.reduceAdd,reduceIte,Ev.rs0,Ev.rss,Ev.dt,Ev.du,↓Ev.fzI,↓Ev.fzS,↓Ev.fzN,Ev.rfn,Ev.rct,Ev.rcn,cond_true,cond_false,a_,List.map_nil,e_,List.nil_append,Bool.true_or,Bool.false_or,Ev.eU,Ev.eV,Ev.eW,Ev.eX,Ev.dD,Ev.dE,Ev.e7,Ev.e8,Ev.b8,Ev.aJ,Ev.dH,Ev.dI,Ev.b9,Ev.cf,Ev.dG,Ev.cg,Ev.aR,Ev.cE,Ev.ak,Ev.aU,Ev.aV,Ev.aW,Ev.cG,Ev.aq,Ev.aX,Ev.aY,Ev.cI,Ev.ar,Ev.aZ,Ev.a7,Ev.a8,Ev.a9,Ev.ba,Ev.cN,Ev.au,Ev.bc,Ev.av,Ev.bg,Ev.bo,Ev.bq,Ev.aw,Ev.ax,Ev.cR,Ev.cS,Ev.az,Ev.aA,Ev.aa,Ev.af,Ev.aB,Ev.bx,Ev.cX,Ev.cY,Ev.bz,Ev.cZ,Ev.c4,Ev.bB,Ev.ah,Ev.bD,Ev.aE,Ev.bH,Ev.aG,Ev.bI,Ev.bJ,Ev.bK,Ev.aH,Ev.c5,Ev.aN,Ev.aO,Ev.bR,Ev.bS,Ev.bT,Ev.aP,Ev.c6,Ev.c7,Ev.bU,Ev.bV,Ev.aI,Ev.bX,Ev.cy,Ev.dJ,Ev.cv,Ev.cB,Ev.r_c,Ev.r_g,Ev.r_v,Ev.cC,Ev.cD,Ev.aT,Ev.cF,Ev.ao,Ev.cH,Ev.dY,Ev.cJ,Ev.cK,Ev.cL,Ev.cM,Ev.dZ,Ev.bb,Ev.d5,Ev.bf,Ev.cO,Ev.bh,Ev.bj,Ev.cP,Ev.cQ,Ev.br,Ev.d6,Ev.d7,Ev.bt,Ev.d8,Ev.d9,Ev.eh,Ev.ei,Ev.ay,Ev.ej,Ev.cT,Ev.eA,Ev.eB,Ev.t_t,Ev.o_v,Ev.o_tup,Ev.o_lst,Ev.o_call,Ev.o_c,Ev.o_g,Ev.cU,Ev.cV,Ev.eC,Ev.eD,Ev.o_dnew,Ev.bu,Ev.cW,Ev.bw,Ev.eE,Ev.eF,Ev.aC,Ev.bA,Ev.k_i,Ev.k_s,Ev.k_b,Ev.k_n,Ev.st_asg,Ev.bC,Ev.aD,Ev.st_setix,Ev.bE,Ev.bG,Ev.st_dset,Ev.st_dof,Ev.st_dupd,Ev.st_reti,Ev.bL,Ev.bM,Ev.bN,Ev.bO,Ev.bP,Ev.st_mvx,Ev.bQ,Ev.st_dsety,Ev.st_dsetp,Ev.st_clrA,Ev.cz,Ev.st_app,Ev.st_ret,Ev.st_if,Ev.st_for,Ev.eG,Ev.eI,Ev.c8,Ev.c9,Ev.da,Ev.dh,Ev.dm,Ev.cu,Ev.eJ,Ev.eK,Ev.dn,Ev.dq,Ev.dv,Ev.aQ,Ev.bW,Ev.dz,Ev.x_t,Ev.eL,Ev.eM,Ev.eN,Ev.dW,Ev.dX,Ev.eO,Ev.eP,Ev.dS,Ev.eQ,Ev.eR,Ev.eS,Ev.eT,Ev.n_n,Ev.n_s,Ev.dA,Ev.dB,Ev.bY,Ev.bZ,Ev.ai,Ev.dC,Ev.b7,Ev.eY,Ev.eZ,Ev.aK,Ev.ck,Ev.aL,Ev.cp,c0,c1,ef,ez,en,ex,e,hcut,hys,lm1,l5,l6,l7,l8,oa,os,vs]
end Law
namespace PySem.W.Fast
theorem tw6232165746796975605:True:=⟨⟩
theorem tw11525921502178387472:True:=⟨⟩
theorem tw15042246889409795556:True:=⟨⟩
theorem tw12215283297879978512:True:=⟨⟩
theorem tw15641658738936990486:True:=⟨⟩
theorem tw4814088979571666260:True:=⟨⟩
theorem tw6866409906784273178:True:=⟨⟩
theorem tw9723244690952457568:True:=⟨⟩
theorem tw17814348284026866150:True:=⟨⟩
theorem tw16079816483149770803:True:=⟨⟩
theorem tw14816422269436013152:True:=⟨⟩
theorem tw4081717145863263512:True:=⟨⟩
theorem tw1661414638741717370:True:=⟨⟩
theorem tw15100897318612692257:True:=⟨⟩
theorem tw2343151276435298157:True:=⟨⟩
theorem tw4805900272704187520:True:=⟨⟩
theorem tw12856007284766372339:True:=⟨⟩
theorem tw3046764809723432910:True:=⟨⟩
theorem tw3250866931633113046:True:=⟨⟩
theorem tw7094118688693083662:True:=⟨⟩
theorem tw5936245267764221847:True:=⟨⟩
theorem tw2045969788843102354:True:=⟨⟩
theorem tw9112445660339048308:True:=⟨⟩
theorem tw6851883745849781600:True:=⟨⟩
theorem tw18372634696291881943:True:=⟨⟩
theorem tw2350717102853391490:True:=⟨⟩
theorem tw17632912197415258001:True:=⟨⟩
theorem tw10987290935767928503:True:=⟨⟩
theorem tw3689381561761628581:True:=⟨⟩
theorem tw15835103944123897022:True:=⟨⟩
theorem tw7525314029753996059:True:=⟨⟩
theorem tw6929107648222756980:True:=⟨⟩
theorem tw3616191556411649984:True:=⟨⟩
theorem tw17692685118832868357:True:=⟨⟩
theorem tw9512674452371454387:True:=⟨⟩
theorem tw16387789871558044698:True:=⟨⟩
theorem tw14091567594393420825:True:=⟨⟩
theorem tw1078423413757394823:True:=⟨⟩
theorem tw5351740337225168190:True:=⟨⟩
theorem tw16183606053887410056:True:=⟨⟩
theorem tw261924841244396333:True:=⟨⟩
theorem tw13011975567030171221:True:=⟨⟩
theorem tw10324065801197370664:True:=⟨⟩
theorem tw7099416991602268142:True:=⟨⟩
theorem tw9958978382147648294:True:=⟨⟩
theorem tw3062742281886745000:True:=⟨⟩
theorem tw10804366820530855022:True:=⟨⟩
theorem tw17622572094588236077:True:=⟨⟩
theorem tw15570823027687352039:True:=⟨⟩
theorem tw17443596620886527946:True:=⟨⟩
theorem tw2677476143203706028:True:=⟨⟩
theorem tw12788681528934015803:True:=⟨⟩
theorem tw17766441345854449986:True:=⟨⟩
theorem tw9354637896888091853:True:=⟨⟩
theorem tw1608952928752323587:True:=⟨⟩
theorem tw12651260244569505305:True:=⟨⟩
theorem tw9588880398039677776:True:=⟨⟩
theorem tw12169742190298211822:True:=⟨⟩
theorem tw7117619412682132017:True:=⟨⟩
theorem tw504292670689414557:True:=⟨⟩
theorem tw6189178653843412136:True:=⟨⟩
theorem tw6663864898696136874:True:=⟨⟩
theorem tw15924465262255943900:True:=⟨⟩
theorem tw1141831308528398625:True:=⟨⟩
theorem tw5062829028428145762:True:=⟨⟩
theorem tw18313541643698750713:True:=⟨⟩
theorem tw10728608847648818985:True:=⟨⟩
theorem tw12070897481739321526:True:=⟨⟩
theorem tw13288198790393444178:True:=⟨⟩
theorem tw5016752131688144472:True:=⟨⟩
theorem tw15498415445516130097:True:=⟨⟩
theorem tw4667283502559711168:True:=⟨⟩
theorem tw13828179605390781893:True:=⟨⟩
theorem tw11665219766111587745:True:=⟨⟩
theorem tw10315456394053003263:True:=⟨⟩
theorem tw7505230470220155081:True:=⟨⟩
theorem tw2703068799396551428:True:=⟨⟩
theorem tw17032287513843886379:True:=⟨⟩
theorem tw12902367336460505160:True:=⟨⟩
theorem tw16919749516994072541:True:=⟨⟩
theorem tw16063184907311494245:True:=⟨⟩
theorem tw5039622984902596446:True:=⟨⟩
theorem tw10940569400920214363:True:=⟨⟩
theorem tw17308703676615262291:True:=⟨⟩
theorem tw7915070770864373356:True:=⟨⟩
theorem tw8719536600798759025:True:=⟨⟩
theorem tw384389822422007710:True:=⟨⟩
theorem tw307970921840989616:True:=⟨⟩
theorem tw9325871094972011246:True:=⟨⟩
theorem tw7602354199982451630:True:=⟨⟩
theorem tw15521172197301341489:True:=⟨⟩
theorem tw16327817187290428965:True:=⟨⟩
theorem tw9217635708656939256:True:=⟨⟩
theorem tw16710571190724879440:True:=⟨⟩
theorem tw12953175347650574874:True:=⟨⟩
theorem tw3199630320921428955:True:=⟨⟩
theorem tw1324418301788455347:True:=⟨⟩
theorem tw12262910238700096026:True:=⟨⟩
theorem tw14780914996570360511:True:=⟨⟩
theorem tw5866531204206160045:True:=⟨⟩
theorem tw5408557802301416372:True:=⟨⟩
theorem tw7832901973717169851:True:=⟨⟩
theorem tw3187114806420636626:True:=⟨⟩
theorem tw17818950140277806327:True:=⟨⟩
theorem tw10457182827167675515:True:=⟨⟩
theorem tw9917458479930280532:True:=⟨⟩
theorem tw7217490241462679037:True:=⟨⟩
theorem tw6767067891844909137:True:=⟨⟩
theorem tw3198537616762995791:True:=⟨⟩
theorem tw17725720393781488743:True:=⟨⟩
theorem tw11231676591406280985:True:=⟨⟩
theorem tw8390031332922910818:True:=⟨⟩
theorem tw7195429005757258302:True:=⟨⟩
theorem tw6253973535169226714:True:=⟨⟩
theorem tw2008491576015754120:True:=⟨⟩
theorem tw17901226221168789560:True:=⟨⟩
theorem tw15771064108021076154:True:=⟨⟩
theorem tw12299851632991131970:True:=⟨⟩
theorem tw942958201143810113:True:=⟨⟩
theorem tw69424274462406726:True:=⟨⟩
theorem tw4051327805761096657:True:=⟨⟩
theorem tw17950364663472100552:True:=⟨⟩
theorem tw16526867657722218494:True:=⟨⟩
theorem tw15735542561302347848:True:=⟨⟩
theorem tw14930555161918252215:True:=⟨⟩
theorem tw11349303716327123319:True:=⟨⟩
theorem tw8326782090720146536:True:=⟨⟩
theorem tw15718213819631112637:True:=⟨⟩
theorem tw15048090109442274153:True:=⟨⟩
theorem tw17580136976138837813:True:=⟨⟩
end PySem.W.Fast
open PySem PySem.W PyProof.Rows
set_option maxRecDepth 100000 in
set_option maxHeartbeats 0 in
theorem PySem.Challenge.cw_flagroll_k08_shares_changed_holds : PySem.Challenge.rw_flagroll_k08_shares_changed.Holds := by
  w_on; o_law; k_head; (case hw =>w_witness2)
  k_fill
  refine L2.uZ (l :=PySem.Challenge.rw_flagroll_k08_shares_changed) (T :=Law.T) (n :=16) (f :=Law.xQ) (x :=Law.xR) rfl rfl ⟨fun _ =>rfl,by decide,by decide⟩ (fun w h Y =>PySem.W.kIn_of Y) ?F Law.holds
  case F =>
    intro w mg fa h KX G hmg
    refine' Law.all_mk KX G hmg (Law.dfo Law.c22 rfl (fun _ _ _ _ _ _ =>Law.ln1 fun _ =>rfl) KX G ?a22 ?l22 ?e22 ?k22) (Law.dfo Law.c23 rfl (fun _ _ _ _ _ _ =>Law.ln2 fun _ _ =>rfl) KX G ?a23 ?l23 ?e23 ?k23) (Law.dfo Law.c24 rfl (fun _ _ _ _ _ _ =>Law.ln2 fun _ _ =>rfl) KX G ?a24 ?l24 ?e24 ?k24) (Law.dfo Law.c25 rfl (fun _ _ _ _ _ _ =>Law.ln2 fun _ _ =>rfl) KX G ?a25 ?l25 ?e25 ?k25) (Law.dfo Law.c26 rfl (fun _ _ _ _ _ _ =>Law.ln1 fun _ =>rfl) KX G ?a26 ?l26 ?e26 ?k26) (Law.dfo Law.c27 rfl (fun _ _ _ _ _ _ =>Law.ln2 fun _ _ =>rfl) KX G ?a27 ?l27 ?e27 ?k27) (Law.dfo Law.c28 rfl (fun _ _ _ _ _ _ =>Law.ln1 fun _ =>rfl) KX G ?a28 ?l28 ?e28 ?k28) (Law.dfo Law.c29 rfl (fun _ _ _ _ _ _ =>Law.ln2 fun _ _ =>rfl) KX G ?a29 ?l29 ?e29 ?k29) (Law.dfo Law.c30 rfl (fun _ _ _ _ _ _ =>Law.ln3 fun _ _ _ =>rfl) KX G ?a30 ?l30 ?e30 ?k30) (Law.dfo Law.c31 rfl (fun _ _ _ _ _ _ =>Law.ln3 fun _ _ _ =>rfl) KX G ?a31 ?l31 ?e31 ?k31) (Law.dfo Law.c32 rfl (fun _ _ _ _ _ _ =>Law.ln2 fun _ _ =>rfl) KX G ?a32 ?l32 ?e32 ?k32) (Law.dfo Law.c33 rfl (fun _ _ _ _ _ _ =>Law.ln2 fun _ _ =>rfl) KX G ?a33 ?l33 ?e33 ?k33) (Law.dfo Law.c34 rfl (fun _ _ _ _ _ _ =>Law.ln2 fun _ _ =>rfl) KX G ?a34 ?l34 ?e34 ?k34) (Law.dfo Law.c35 rfl (fun _ _ _ _ _ _ =>Law.ln2 fun _ _ =>rfl) KX G ?a35 ?l35 ?e35 ?k35) (Law.dfo Law.c36 rfl (fun _ _ _ _ _ _ =>Law.ln1 fun _ =>rfl) KX G ?a36 ?l36 ?e36 ?k36) (Law.dfo Law.c37 rfl (fun _ _ _ _ _ _ =>Law.ln2 fun _ _ =>rfl) KX G ?a37 ?l37 ?e37 ?k37) (Law.dfo Law.c38 rfl (fun _ _ _ _ _ _ =>Law.ln1 fun _ =>rfl) KX G ?a38 ?l38 ?e38 ?k38) (Law.Dt Law.c39 rfl (fun _ _ _ _ _ _ =>Law.ln3 fun _ _ _ =>rfl) KX G ?a39 ?l39 ?e39 ?k39) (Law.Dt Law.c40 rfl (fun _ _ _ _ _ _ =>Law.ln4 fun _ _ _ _ =>rfl) KX G ?a40 ?l40 ?e40 ?k40) (Law.dfo Law.c41 rfl (fun _ _ _ _ _ _ =>Law.ln4 fun _ _ _ _ =>rfl) KX G ?a41 ?l41 ?e41 ?k41) ?a42 ?l42 ?e42 ?k42 ?q21 ?z0 ?z1 ?z2 ?z3 ?z4 ?z5 ?z6 ?z7 ?z8 ?z9 ?z10 ?z11 ?z12 ?z13 ?z14 ?z15 ?z16 ?z17 ?z18 ?z19 ?z20
    (case a22|l22|e22|k22|a23|l23|e23|k23|a24|l24|e24|k24|a25|l25|e25|k25|a26|l26|e26|k26|a27|l27|e27|k27|a28|l28|e28|k28|a29|l29|e29|k29|a30|l30|e30|k30|a31|l31|e31|k31|a32|l32|e32|k32|a33|l33|e33|k33|a34|l34|e34|k34|a35|l35|e35|k35|a36|l36|e36|k36|a37|l37|e37|k37|a38|l38|e38|k38|a39|l39|e39|k39|a40|l40|e40|k40|a41|l41|e41|k41|a42|l42|e42|k42|q21|z0|z1|z2|z3|z4|z5|z6|z7|z8|z9|z10|z11|z12|z13|z14|z15|z16|z17|z18|z19|z20=>k_is)
#print axioms PySem.Challenge.cw_flagroll_k08_shares_changed_holds
