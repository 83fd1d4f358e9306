import PyProof.Rows.All
import Wide.All
import OpenK.AllK
import Wide.FinOn
import Lean
import PyProof.EqAt
import PyProof.EqKinds
import PyProof.TupleCall
import PyProof.NeKinds
import KE.KRevIter
import KE.KSortTup
import Wide.Txt2
import PySem.Challenge.RW_flagroll_k15_groups
set_option maxHeartbeats 8000000
set_option Elab.async false
set_option linter.all false
set_option maxRecDepth 100000
namespace L2
open PySem PySem.Spec PyProof.Rows
noncomputable abbrev Key := Sum Int Str
noncomputable def keyIs : Key → Value → Bool
 | .inl k, v => Value.isInt k v
 | .inr x, v => Value.isStrOf x v
noncomputable def keyH (w : World) : Key → Int
 | .inl k => hashInt k
 | .inr x => hashStr w x
theorem keyIs_shape : ∀ {k : Key} {v : Value}, keyIs k v = true → (∃ i t, k = Sum.inl i ∧ v = Value.int i t) ∨ (∃ x t, k = Sum.inr x ∧ v = Value.str x t)
 | .inl i, v, h => by
  obtain ⟨t, e⟩ := Value.isInt_shape (k := i) (v := v) h
  exact .inl ⟨i, t, rfl, e⟩
 | .inr x, v, h => by
  obtain ⟨t, e⟩ := Value.isStrOf_shape (x := x) (v := v) h
  exact .inr ⟨x, t, rfl, e⟩
theorem key_ll (a b : Int) : decide ((Sum.inl a : Key) = Sum.inl b) = (a == b) := by
 by_cases e : a = b
 ·subst e; simp
 ·have h : ¬ (Sum.inl a : Key) = Sum.inl b := fun q => e (Sum.inl.inj q)
  rw [decide_eq_false h]
  exact (beq_eq_false_iff_ne.mpr e).symm
theorem key_rr (a b : Str) : decide ((Sum.inr a : Key) = Sum.inr b) = decide (a = b) := by
 by_cases e : a = b
 ·subst e; simp
 ·have h : ¬ (Sum.inr a : Key) = Sum.inr b := fun q => e (Sum.inr.inj q)
  rw [decide_eq_false h, decide_eq_false e]
theorem key_lr (a : Int) (b : Str) : decide ((Sum.inl a : Key) = Sum.inr b) = false := decide_eq_false (fun q => nomatch q)
theorem key_rl (a : Str) (b : Int) : decide ((Sum.inr a : Key) = Sum.inl b) = false := decide_eq_false (fun q => nomatch q)
noncomputable def mixKind (prog : Program) (w : World) : PySem.KeyKind prog w Key where
 is := keyIs
 hash := keyH w
 inj := fun v a b ha hb => by
  rcases keyIs_shape ha with ⟨i, t, rfl, rfl⟩ | ⟨x, t, rfl, rfl⟩
  ·rcases keyIs_shape hb with ⟨j, u, rfl, e⟩ | ⟨y, u, rfl, e⟩
   ·injection e with e1 _; rw [e1]
   ·exact nomatch e
  ·rcases keyIs_shape hb with ⟨j, u, rfl, e⟩ | ⟨y, u, rfl, e⟩
   ·exact nomatch e
   ·injection e with e1 _; rw [e1]
 byValue := fun k v h => by
  rcases keyIs_shape h with ⟨i, t, rfl, rfl⟩ | ⟨x, t, rfl, rfl⟩ <;> rfl
 pyHash := fun hv h => by
  rcases keyIs_shape hv with ⟨i, t, rfl, rfl⟩ | ⟨x, t, rfl, rfl⟩
  ·exact wpAny_pyHash_int h
  ·exact wpAny_pyHash_str h
 eqBool := fun hu hv h => by
  rcases keyIs_shape hu with ⟨i, t, rfl, rfl⟩ | ⟨x, t, rfl, rfl⟩
  ·rcases keyIs_shape hv with ⟨j, u, rfl, rfl⟩ | ⟨y, u, rfl, rfl⟩
   ·rw [key_ll] at h; exact wpAny_eqBool_int h
   ·rw [key_lr] at h; exact SeqAt.EqAt.int_str i t y u _ _ _ _ h
  ·rcases keyIs_shape hv with ⟨j, u, rfl, rfl⟩ | ⟨y, u, rfl, rfl⟩
   ·rw [key_rl] at h; exact SeqAt.EqAt.str_int x t j u _ _ _ _ h
   ·rw [key_rr] at h; exact wpAny_eqBool_str h
 «strs» := fun k x t v h => by
  rcases keyIs_shape h with ⟨i, u, rfl, e⟩ | ⟨y, u, rfl, e⟩
  ·exact nomatch e
  ·injection e with e1 _
   subst e1
   cases v <;> rfl
end L2
namespace L2
open PySem PySem.Spec PyProof.Rows
inductive V where
 | non | bl (b : Bool) | int (i : Int) | str (x : Str) | byt (b : Array UInt8) | flt (b : UInt64) | ref (a : Addr) | ty (n : String)
 deriving DecidableEq
noncomputable def RelV : V → Value → Prop
 | .non, u => u = Value.none
 | .bl b, u => u = Value.bool b
 | .int i, u => ∃ t, u = Value.int i t
 | .str x, u => ∃ t, u = Value.str x t
 | .byt b, u => ∃ t, u = Value.bytes b t
 | .flt b, u => ∃ t, u = Value.float b t
 | .ref a, u => u = Value.ref a
 | .ty n, u => u = Value.type n
noncomputable abbrev Vals : List V → List Value → Prop := Paired RelV
theorem Vals.length {xs : List V} {us : List Value} (r : Vals xs us) : xs.length = us.length := Paired.length r
theorem Vals.get : ∀ {xs : List V} {us : List Value} {i : Nat} {x : V}, Vals xs us → xs[i]? = some x → ∃ u, us[i]? = some u ∧ RelV x u
 | _, _, _, _, .nil, e => by simp at e
 | _, _, 0, _, .cons r _, e => by simp at e; subst e; exact ⟨_, rfl, r⟩
 | _, _, i + 1, x, .cons _ t, e => by
  obtain ⟨u, h1, h2⟩ := Vals.get (i := i) (x := x) t (by simpa using e)
  exact ⟨u, by simpa using h1, h2⟩
theorem Vals.append : ∀ {xs ys : List V} {us ws : List Value}, Vals xs us → Vals ys ws → Vals (xs ++ ys) (us ++ ws)
 | _, _, _, _, .nil, s => s
 | _, _, _, _, .cons r t, s => .cons r (Vals.append t s)
theorem Vals.take : ∀ {xs : List V} {us : List Value} (n : Nat), Vals xs us → Vals (xs.take n) (us.take n)
 | _, _, 0, _ => .nil
 | _, _, _ + 1, .nil => .nil
 | _, _, n + 1, .cons r t => .cons r (Vals.take n t)
theorem Vals.drop : ∀ {xs : List V} {us : List Value} (n : Nat), Vals xs us → Vals (xs.drop n) (us.drop n)
 | _, _, 0, r => r
 | _, _, _ + 1, .nil => .nil
 | _, _, n + 1, .cons _ t => Vals.drop n t
noncomputable def RelO : Option V → Option Value → Prop
 | some v, some u => RelV v u
 | none, none => True
 | _, _ => False
noncomputable def KV {κ : Type} : List (κ × V) → List (κ × Value) → Prop := Paired fun (p : κ × V) (q : κ × Value) => p.1 = q.1 ∧ RelV p.2 q.2
noncomputable def kV : Key → V
 | .inl i => .int i
 | .inr x => .str x
inductive HO where
  | lst (xs : List V)
  | tup (xs : List V)
  | dK (kvs : List (Key × V)) | dT (kvs : List (List Key × V))
  | set (S : Int → Bool) (n : Nat)
  | ins (C dx : Addr) (fs : List (Str × V))
  | own (x : Addr)
  | xd (fs : List (Str × V))
  | met (f x : Addr)
  | rng (lo hi : Int)
  | frz (o : Obj) (u : HO)
  | tbl (ps : Array Value)
  | ext (φ : Heap → Prop)
noncomputable abbrev Hp := Addr → Option HO
noncomputable def upd (H : Hp) (a : Addr) (o : HO) : Hp := fun b => if b = a then some o else H b
theorem upd_same {H : Hp} {a : Addr} {o : HO} : upd H a o a = some o := by unfold upd; rw [if_pos rfl]
theorem upd_ne {H : Hp} {a b : Addr} {o : HO} (h : b ≠ a) : upd H a o b = H b := by unfold upd; rw [if_neg h]
theorem ne_of_none {H : Hp} {a b : Addr} {o : HO} (h : H a = some o) (h' : H b = none) : a ≠ b := by
 intro e; subst e; rw [h] at h'; cases h'
section
variable (P : Program) (w : World)
noncomputable def ObjOk (H : Hp) (h : Heap) (a : Addr) : HO → Prop
 | .lst xs => xs.length ≤ sizeLine ∧ ∃ (its : List Value) (n : Nat), Vals xs its ∧ h.get? a = some { cls := .type "list", data := .seq its.toArray n }
 | .tup xs => xs.length ≤ sizeLine ∧ ∃ its : List Value, Vals xs its ∧ IsTup h a its.toArray
 | .dK kvs => kvs.length ≤ sizeLine ∧ (a == sysModules) = false ∧ ∃ vs, KV kvs vs ∧ h.DictOf (mixKind P w) a vs
 | .dT kvs => kvs.length ≤ sizeLine ∧ (a == sysModules) = false ∧ ∃ xs : List (List Key × Addr × Value),
   Paired (fun (p : List Key × V) (q : List Key × Addr × Value) => p.1 = q.1 ∧ H q.2.1 = some (.tup (p.1.map kV)) ∧ RelV p.2 q.2.2) kvs xs ∧
   ∃ o es ep, h.get? a = some o ∧ o.ExactDict ∧ o.data = .dict es ep ∧ es.toList = xs.map (entryOfKey (tupleKind (mixKind P w))) ∧ (xs.map (·.1)).Nodup
 | .set S n => h.SetOf (intKind P w) a S n
 | .ins C dx fs => H dx = some (.own a) ∧ fs.length ≤ 1000 ∧ dx ≠ a ∧ h.get? a = some (PySem.W.instObj C dx) ∧
   ∃ mA, h.Ns1 dx mA ∧ (∀ f, RelO (fs.lookup f) (mA f)) ∧ PySem.Within mA (fs.map (·.1))
 | .own _ => ∃ o, h.get? a = some o
 | .xd fs => ∃ mA, h.Ns1 a mA ∧ ∀ f, RelO (fs.lookup f) (mA f)
 | .rng lo hi => ∃ t u v, h.get? a = some { cls := .type "range", data := .fields #[.int lo t, .int hi u, .int 1 v] }
 | .frz o u => h.get? a = some o ∧ ObjOk H h a u
 | .tbl ps => h.get? a = some { cls := .none, data := .fields ps }
 | .met f x => h.get? a = some (PySem.W.methodObj (.ref f) (.ref x))
 | .ext φ => φ h ∧ (∃ o, h.get? a = some o) ∧ ∀ h1 h2 : Heap, φ h1 → (∀ o, h1.get? a = some o → h2.get? a = some o) → φ h2
noncomputable def HOk (H : Hp) (h : Heap) : Prop := ∀ a o, H a = some o → ObjOk P w H h a o
end
section
variable {P : Program} {w : World} {H H' : Hp} {h h' : Heap} {a : Addr} {o : HO}
theorem ObjOk.lt (x : ObjOk P w H h a o) : a < h.objs.size := by
 cases o with
 | lst xs => obtain ⟨_, _, _, _, e⟩ := x; exact Heap.lt_size e
 | tup xs => obtain ⟨_, _, _, p⟩ := x; exact p.lt
 | dK kvs => obtain ⟨_, _, _, _, o, _, _, e, _⟩ := x; exact Heap.lt_size e
 | dT kvs => obtain ⟨_, _, _, _, o, _, _, e, _⟩ := x; exact Heap.lt_size e
 | set S n => obtain ⟨o, _, _, _, e, _⟩ := x; exact Heap.lt_size e
 | ins C dx fs => obtain ⟨_, _, _, e, _⟩ := x; exact Heap.lt_size e
 | own y => obtain ⟨_, e⟩ := x; exact Heap.lt_size e
 | xd fs => obtain ⟨_, ⟨_, _, _, e, _⟩, _⟩ := x; exact Heap.lt_size e
 | rng lo hi => obtain ⟨_, _, _, e⟩ := x; exact Heap.lt_size e
 | frz ob u => obtain ⟨e, _⟩ := x; exact Heap.lt_size e
 | tbl ps => exact Heap.lt_size (show h.get? a = some _ from x)
 | met f y => exact Heap.lt_size (show h.get? a = some _ from x)
 | ext φ => obtain ⟨_, ⟨_, e⟩, _⟩ := x; exact Heap.lt_size e
theorem Paired.mapP {α β : Type} {F G : α → β → Prop} : ∀ {l₁ : List α} {l₂ : List β}, Paired F l₁ l₂ → (∀ a b, F a b → G a b) → Paired G l₁ l₂
 | _, _, .nil, _ => .nil
 | _, _, .cons r t, f => .cons (f _ _ r) (Paired.mapP t f)
theorem ObjOk.stay (x : ObjOk P w H h a o) (k : ∀ b u, (b = a ∨ H b = some (.own a)) → h.get? b = some u → h'.get? b = some u)
  (ho : ∀ b, H b = some (.own a) → H' b = some (.own a)) (ht : ∀ b xs, H b = some (.tup xs) → H' b = some (.tup xs)) : ObjOk P w H' h' a o := by
 induction o with
 | lst xs => obtain ⟨z, its, n, r, e⟩ := x; exact ⟨z, its, n, r, k _ _ (.inl rfl) e⟩
 | tup xs => obtain ⟨z, its, r, ob, e, c⟩ := x; exact ⟨z, its, r, ob, k _ _ (.inl rfl) e, c⟩
 | dK kvs => obtain ⟨z, y, vs, r, ob, es, ep, e, c⟩ := x; exact ⟨z, y, vs, r, ob, es, ep, k _ _ (.inl rfl) e, c⟩
 | dT kvs =>
  obtain ⟨z, y, xs, r, ob, es, ep, e, c⟩ := x
  exact ⟨z, y, xs, Paired.mapP r fun p q z => ⟨z.1, ht _ _ z.2.1, z.2.2⟩, ob, es, ep, k _ _ (.inl rfl) e, c⟩
 | set S n => obtain ⟨ob, es, ep, t, e, c⟩ := x; exact ⟨ob, es, ep, t, k _ _ (.inl rfl) e, c⟩
 | ins C dx fs =>
  obtain ⟨d, z, ne, e, mA, ⟨od, es, ep, e2, c⟩, r⟩ := x
  exact ⟨ho _ d, z, ne, k _ _ (.inl rfl) e, mA, ⟨od, es, ep, k _ _ (.inr d) e2, c⟩, r⟩
 | own y => obtain ⟨ob, e⟩ := x; exact ⟨ob, k _ _ (.inl rfl) e⟩
 | xd fs => obtain ⟨mA, ⟨od, es, ep, e, c⟩, r⟩ := x; exact ⟨mA, ⟨od, es, ep, k _ _ (.inl rfl) e, c⟩, r⟩
 | rng lo hi => obtain ⟨t, u, v, e⟩ := x; exact ⟨t, u, v, k _ _ (.inl rfl) e⟩
 | frz ob u ih => obtain ⟨e, q⟩ := x; exact ⟨k _ _ (.inl rfl) e, ih q⟩
 | tbl ps =>
  have e : h.get? a = some { cls := .none, data := .fields ps } := x
  show h'.get? a = some { cls := .none, data := .fields ps }
  exact k a _ (.inl rfl) e
 | met f y =>
  have e : h.get? a = some (PySem.W.methodObj (.ref f) (.ref y)) := x
  show h'.get? a = some (PySem.W.methodObj (.ref f) (.ref y))
  exact k a _ (.inl rfl) e
 | ext φ => obtain ⟨p, ⟨o, e⟩, st⟩ := x; exact ⟨st _ _ p fun o q => k _ _ (.inl rfl) q, ⟨o, k _ _ (.inl rfl) e⟩, st⟩
theorem HOk.lt (x : HOk P w H h) (e : H a = some o) : a < h.objs.size := (x a o e).lt
theorem HOk.fresh (x : HOk P w H h) (e : h.objs.size ≤ a) : H a = none := by
 cases q : H a with
 | none => rfl
 | some u => exact absurd (Nat.lt_of_lt_of_le (x.lt q) e) (Nat.lt_irrefl _)
theorem HOk.kept (x : HOk P w H h) (k : ∀ b u, h.get? b = some u → h'.get? b = some u) : HOk P w H h' := fun a o e =>
 (x a o e).stay (fun b u _ q => k b u q) (fun _ q => q) fun _ _ q => q
theorem HOk.laid (x : HOk P w H h) (k : ∀ b u, h.get? b = some u → h'.get? b = some u) (hp : h.objs.size ≤ a) (new : ObjOk P w (upd H a o) h' a o) : HOk P w (upd H a o) h' := fun b u e => by
 have hn := x.fresh hp
 by_cases hb : b = a
 ·subst hb; rw [upd_same] at e; cases e; exact new
 ·rw [upd_ne hb] at e
  exact (x b u e).stay (fun c v _ q => k c v q) (fun c q => by rw [upd_ne (ne_of_none q hn)]; exact q) fun c xs q => by rw [upd_ne (ne_of_none q hn)]; exact q
end
noncomputable def Rd (H : Hp) (a : Addr) (u : HO) : Prop := H a = some u ∨ ∃ o, H a = some (.frz o u)
theorem Rd.ok {P : Program} {w : World} {H : Hp} {h : Heap} {a : Addr} {u : HO} (r : Rd H a u) (x : HOk P w H h) : ObjOk P w H h a u := by
 rcases r with r | ⟨o, r⟩
 ·exact x a u r
 ·obtain ⟨_, q⟩ := x a _ r
  exact q
noncomputable def Mut : Option HO → Prop
 | some (.lst _) => True
 | some (.dK _) => True
 | some (.dT _) => True
 | some (.set _ _) => True
 | some (.ins _ _ _) => True
 | some (.ext _) => True
 | _ => False
section
variable {P : Program} {w : World} {H : Hp} {h h' : Heap} {x e : Addr} {o' : HO}
theorem HOk.write (ok : HOk P w H h) (mu : Mut (H x)) (he : e = x ∨ H e = some (.own x)) (k : ∀ b u, b ≠ e → h.get? b = some u → h'.get? b = some u) (heo : ∃ u, h'.get? e = some u)
  (new : ObjOk P w (upd H x o') h' x o') : HOk P w (upd H x o') h' := fun b u q => by
 have nown : ∀ c y, H c = some (.own y) → c ≠ x := fun c y r z => by subst z; rw [r] at mu; exact mu
 have ntup : ∀ c xs, H c = some (.tup xs) → c ≠ x := fun c xs r z => by subst z; rw [r] at mu; exact mu
 by_cases hb : b = x
 ·subst hb; rw [upd_same] at q; cases q; exact new
 ·rw [upd_ne hb] at q
  by_cases hbe : b = e
  ·have q' : H b = some (.own x) := by
    rcases he with z | z
    ·exact absurd (hbe.trans z) hb
    ·rw [hbe]; exact z
   rw [q] at q'; cases q'
   obtain ⟨v, hv⟩ := heo
   exact ⟨v, by rw [hbe]; exact hv⟩
  ·refine (ok b u q).stay (fun c v hc r => k c v ?_ r) (fun c r => by rw [upd_ne (nown c b r)]; exact r) fun c xs r => by rw [upd_ne (ntup c xs r)]; exact r
   rcases hc with rfl | hc
   ·exact hbe
   ·rintro rfl
    rcases he with z | z
    ·exact nown c b hc z
    ·rw [hc] at z; cases z; exact hb rfl
end
structure Un (fs ex : List Addr) (H H' : Hp) (h h' : Heap) : Prop where
 keep : ∀ b o, h.get? b = some o → H b = none → b ∉ fs → b ∉ ex → h'.get? b = some o
 slot : ∀ b o, h.get? b = some o → H b = none → b ∈ fs → b ∉ ex → ∃ sl, h'.get? b = some { o with slots := sl }
 free : ∀ b o, h.get? b = some o → H b = none → b ∉ ex → H' b = none
 there : ∀ b o, h.get? b = some o → b ∉ ex → ∃ o', h'.get? b = some o'
 tups : ∀ b xs, H b = some (.tup xs) → H' b = some (.tup xs)
 frzs : ∀ b o u, H b = some (.frz o u) → H' b = some (.frz o u)
 tbls : ∀ b ps, H b = some (.tbl ps) → ∃ more, H' b = some (.tbl (ps ++ more))
section
variable {fs fs' ex ex' : List Addr} {H H1 H2 : Hp} {h h1 h2 h' : Heap} {a x e : Addr} {o : HO}
theorem Un.any (u : Un fs ex H H1 h h1) {b : Addr} {ob : Obj} (q : h.get? b = some ob) (n : H b = none) (hx : b ∉ ex) : ∃ sl, h1.get? b = some { ob with slots := sl } := by
 by_cases hb : b ∈ fs
 ·exact u.slot b ob q n hb hx
 ·exact ⟨ob.slots, u.keep b ob q n hb hx⟩
theorem Un.kept (k : ∀ b u, h.get? b = some u → h'.get? b = some u) : Un fs ex H H h h' :=
 ⟨fun b ob q _ _ _ => k b ob q, fun b ob q _ _ _ => ⟨ob.slots, k b ob q⟩, fun _ _ _ n _ => n, fun b ob q _ => ⟨ob, k b ob q⟩, fun _ _ q => q, fun _ _ _ q => q, fun _ ps q => ⟨#[], by rw [q]; simp⟩⟩
theorem Un.refl : Un fs ex H H h h := Un.kept fun _ _ q => q
theorem Un.laid (k : ∀ b u, h.get? b = some u → h'.get? b = some u) (hp : h.objs.size ≤ a) (hn : H a = none) : Un fs ex H (upd H a o) h h' where
 keep := fun b u q _ _ _ => k b u q
 slot := fun b u q _ _ _ => ⟨u.slots, k b u q⟩
 free := fun b u q n _ => by rw [upd_ne (Nat.ne_of_lt (Nat.lt_of_lt_of_le (Heap.lt_size q) hp))]; exact n
 there := fun b u q _ => ⟨u, k b u q⟩
 tups := fun b xs q => by rw [upd_ne (ne_of_none q hn)]; exact q
 frzs := fun b u xs q => by rw [upd_ne (ne_of_none q hn)]; exact q
 tbls := fun b ps q => ⟨#[], by rw [upd_ne (ne_of_none q hn), q]; simp⟩
theorem Un.write (mu : Mut (H x)) (he : e = x ∨ H e = some (.own x)) (k : ∀ b u, b ≠ e → h.get? b = some u → h'.get? b = some u) (heo : ∃ u, h'.get? e = some u) : Un fs ex H (upd H x o) h h' := by
 have hx : ∀ b, H b = none → b ≠ x := fun b n z => by subst z; rw [n] at mu; exact mu
 have hb : ∀ b, H b = none → b ≠ e := fun b n z => by
  subst z
  rcases he with r | r
  ·exact hx b n r
  ·rw [n] at r; cases r
 have hm : ∀ b u, H b = some u → ¬ Mut (some u) → b ≠ x := fun b u q nm z => by subst z; rw [q] at mu; exact nm mu
 refine ⟨fun b u q n _ _ => k b u (hb b n) q, fun b u q n _ _ => ⟨u.slots, k b u (hb b n) q⟩, fun b u q n _ => by rw [upd_ne (hx b n)]; exact n, fun b u q _ => ?_,
  fun b xs q => by rw [upd_ne (hm b _ q fun z => z)]; exact q, fun b u xs q => by rw [upd_ne (hm b _ q fun z => z)]; exact q, fun b ps q => ⟨#[], by rw [upd_ne (hm b _ q fun z => z), q]; simp⟩⟩
 by_cases hbe : b = e
 ·subst hbe; exact heo
 ·exact ⟨u, k b u hbe q⟩
end
noncomputable def trk (h : Heap) (H : Hp) : List Addr := (List.range h.objs.size).filter fun a => (H a).isSome
noncomputable def hidT (h : Heap) (H : Hp) : Heap := PySem.W.hideAll h (trk h H)
theorem hidT_size (h : Heap) (H : Hp) : (hidT h H).objs.size = h.objs.size := PySem.W.hideAll_size _ _
theorem hidT_get {h : Heap} {H : Hp} {b : Addr} {o : Obj} (e : h.get? b = some o) (n : H b = none) : (hidT h H).get? b = some o :=
 PySem.W.hideAll_get _ e fun hm => by
  have q : (H b).isSome = true := (List.mem_filter.mp hm).2
  rw [n] at q; simp at q
theorem of_hidT {h : Heap} {H : Hp} {b : Addr} {o : Obj} (e : (hidT h H).get? b = some o) : h.get? b = some o ∧ H b = none := by
 have e' : h.get? b = some o := PySem.W.of_hideAll (trk h H) e
 refine ⟨e', ?_⟩
 cases q : H b with
 | none => rfl
 | some x =>
  have hm : b ∈ trk h H := List.mem_filter.mpr ⟨List.mem_range.mpr (Heap.lt_size e'), by simp [q]⟩
  have z : (hidT h H).get? b = none := PySem.W.hideAll_none (trk h H) hm
  rw [z] at e; cases e
end L2
namespace L2
open PySem PySem.Spec PyProof.Rows
structure Mod (K : PySem.W.Frag) (mg : Str → Option Value) (base : Heap) : Prop where
 kin : K.In base
 glob : base.Ns mainGlobals mg
 blt : ∃ mb, base.Ns builtinsNs mb ∧ ∀ x : Str, x ≠ "__name__" → mb x = bootBuiltins x
 nolimit : base.NoLimit
structure Cx where
 prog : Program
 w : World
 K : PySem.W.Frag
 mg : Str → Option Value
 base : Heap
 A : Around
 N : List Str
 s₀ : Shared
 H₀ : Hp
 env : Env
 outer : List Env
 stack : List Env
 ex : List Addr
 fn : Str → Bool
 calm : Bool
 pn : List (Addr × Obj)
 xe : Value → Shared → Prop
noncomputable def frs (l : List Env) : List Addr := l.filterMap (·.frame)
noncomputable abbrev Cx.fs (X : Cx) : List Addr := frs X.outer
noncomputable def Vis (sc : Scope) (x : Str) : Prop := sc.names.lookup x = some .local ∨ sc.names.lookup x = some .cell ∨ sc.names.lookup x = some .free
noncomputable def Loc (sc : Scope) (x : Str) : Prop := sc.names.lookup x = some .local ∨ sc.names.lookup x = some .cell
noncomputable def Look (env : Env) (h : Heap) (m : Str → Option Value) (x : Str) (u : Value) : Prop :=
 (env.kindOf x = some .local ∧ m x = some u) ∨ ((env.kindOf x = some .cell ∨ env.kindOf x = some .free) ∧ ∃ c, env.cells.lookup x = some c ∧ h.IsCell c (some u))
structure Cx.Ok (X : Cx) : Prop where
 mod : Mod X.K X.mg X.base
 kind : X.env.scope.kind = .function
 glob : X.env.globals = mainGlobals
 blt : X.env.builtins = builtinsNs
 above : X.s₀.heap.objs.size ≤ X.env.locals
 inj : ∀ x y c, X.env.cells.lookup x = some c → X.env.cells.lookup y = some c → x = y
 has : ∀ x, (X.env.kindOf x = some .cell ∨ X.env.kindOf x = some .free) → ∃ c, X.env.cells.lookup x = some c
 cab : ∀ x c, X.fn x = true → X.env.cells.lookup x = some c → X.s₀.heap.objs.size ≤ c
 hd : X.calm = true → X.A.handled = none
 frames : X.A.frames = some X.stack
 stk : X.stack = X.outer ∨ (X.stack = X.env :: X.outer ∧ X.env.frame = some X.env.locals)
 exf : ∀ b ∈ X.ex, b ≠ X.env.locals ∧ ∀ x c, X.env.cells.lookup x = some c → c ≠ b
 bs : ∀ b o, X.base.get? b = some o → X.s₀.heap.get? b = some o ∧ X.H₀ b = none
 bsz : X.base.objs.size ≤ X.s₀.heap.objs.size
 noex : ∀ b o, X.base.get? b = some o → b ∉ X.ex
 exfs : ∀ b ∈ X.ex, b ∉ X.fs
 funs : X.s₀.heap.FunFrames X.base X.outer
 frf : ∀ b ∈ X.fs, X.H₀ b = none
structure Inv (X : Cx) (pins : List (Addr × Obj)) (σ : List (Option V)) (H : Hp) (s : Shared) : Prop where
 ok : X.Ok
 os : s.os = X.s₀.os
 bare : AllBare s.gens
 base : Un X.fs X.ex X.H₀ H X.s₀.heap s.heap
 loc : ∃ m, s.heap.Ns X.env.locals m ∧ ∀ (i : Nat) (x : Str) (v : V), X.N[i]? = some x → σ[i]? = some (some v) → Vis X.env.scope x → ∃ u, RelV v u ∧ Look X.env s.heap m x u
 cell : ∀ x c, X.env.cells.lookup x = some c → ∃ v, s.heap.IsCell c v
 free : H X.env.locals = none
 freeC : ∀ x c, X.env.cells.lookup x = some c → H c = none
 pin : ∀ p ∈ X.pn ++ pins, s.heap.get? p.1 = some p.2 ∧ H p.1 = none ∧ p.1 ≠ X.env.locals ∧ p.1 ∉ X.fs ∧ ∀ v, p.2.data ≠ .cell v
 hok : HOk X.prog X.w H s.heap
 len : σ.length = X.N.length
section
variable {X : Cx} {pins : List (Addr × Obj)} {σ : List (Option V)} {H H' : Hp} {s : Shared} {h' : Heap}
theorem Cx.Ok.nofr (ok : X.Ok) {b : Addr} {o : Obj} (e : X.base.get? b = some o) : b ∉ X.fs := fun hb => by
 have := (ok.funs.mem hb).1
 rw [e] at this; cases this
theorem Inv.bs (I : Inv X pins σ H s) : ∀ b o, X.base.get? b = some o → s.heap.get? b = some o ∧ H b = none := fun b o e =>
 ⟨I.base.keep b o (I.ok.bs b o e).1 (I.ok.bs b o e).2 (I.ok.nofr e) (I.ok.noex b o e), I.base.free b o (I.ok.bs b o e).1 (I.ok.bs b o e).2 (I.ok.noex b o e)⟩
theorem Inv.bk (I : Inv X pins σ H s) : ∀ b o, X.base.get? b = some o → s.heap.get? b = some o := fun b o e => (I.bs b o e).1
theorem Inv.mod (I : Inv X pins σ H s) : Mod X.K X.mg X.base := I.ok.mod
theorem Inv.kIn (I : Inv X pins σ H s) : X.K.In s.heap := I.ok.mod.kin.keeps I.bk
theorem Inv.lt (I : Inv X pins σ H s) : X.env.locals < s.heap.objs.size := let ⟨_, hn, _⟩ := I.loc; hn.lt
theorem Inv.sz (I : Inv X pins σ H s) : X.s₀.heap.objs.size ≤ s.heap.objs.size := Nat.le_trans I.ok.above (Nat.le_of_lt I.lt)
theorem Inv.nofs (I : Inv X pins σ H s) {a : Addr} (h : s.heap.objs.size ≤ a) : a ∉ X.fs := fun hb => by
 obtain ⟨_, o, ho, _⟩ := I.ok.funs.mem hb
 exact absurd (Nat.lt_of_lt_of_le (Heap.lt_size ho) (Nat.le_trans I.sz h)) (Nat.lt_irrefl _)
theorem Inv.cne (I : Inv X pins σ H s) : ∀ x c, X.env.cells.lookup x = some c → c ≠ X.env.locals := fun x c e z => by
 obtain ⟨v, o, ho, hd⟩ := I.cell x c e
 obtain ⟨m, ⟨o', es, ep, ho', hd', _⟩, _⟩ := I.loc
 rw [z, ho'] at ho; cases ho; rw [hd'] at hd; cases hd
theorem Inv.funs (I : Inv X pins σ H s) : s.heap.FunFrames X.base X.outer := by
 have all : ∀ (l : List Env), (∀ b ∈ frs l, b ∈ X.fs) → X.s₀.heap.FunFrames X.base l → s.heap.FunFrames X.base l := by
  intro l
  induction l with
  | nil => intro _ _; trivial
  | cons env r ih =>
   intro hs hl
   obtain ⟨hk, ⟨L, o, hf, hn, ho, hd⟩, hr⟩ := hl
   have hL : L ∈ X.fs := hs L (by unfold frs; rw [List.filterMap_cons, hf]; exact List.mem_cons_self)
   obtain ⟨sl, e⟩ := I.base.slot L o ho (I.ok.frf L hL) hL fun z => I.ok.exfs L z hL
   exact ⟨hk, ⟨L, _, hf, hn, e, hd⟩, ih (fun b hb => hs b (by unfold frs; rw [List.filterMap_cons, hf]; exact List.mem_cons_of_mem _ hb)) hr⟩
 exact all X.outer (fun _ hb => hb) I.ok.funs
theorem Inv.stack (I : Inv X pins σ H s) : s.heap.FunFrames X.base X.stack := by
 rcases I.ok.stk with e | ⟨e, hf⟩
 ·rw [e]; exact I.funs
 ·rw [e]
  obtain ⟨m, hn, _⟩ := I.loc
  refine .cons (by rw [I.ok.kind]; decide) hf hn ?_ I.funs
  exact Heap.get?_none_of_le (Nat.le_trans I.ok.bsz I.ok.above)
theorem Inv.stkSub (I : Inv X pins σ H s) : ∀ b ∈ frs X.stack, b ∈ X.env.locals :: X.fs := fun b hb => by
 rcases I.ok.stk with e | ⟨e, hf⟩
 ·rw [e] at hb; exact List.mem_cons_of_mem _ hb
 ·rw [e] at hb
  unfold frs at hb
  rw [List.filterMap_cons, hf] at hb
  exact hb
theorem Inv.stkFree (I : Inv X pins σ H s) : ∀ b ∈ frs X.stack, H b = none := fun b hb => by
 rcases List.mem_cons.mp (I.stkSub b hb) with e | hb
 ·rw [e]; exact I.free
 ·obtain ⟨_, o, ho, _⟩ := I.ok.funs.mem hb
  exact I.base.free b o ho (I.ok.frf b hb) fun z => I.ok.exfs b z hb
theorem Inv.step {g' : Array GenState} {t' : Nat} {d' : Drawn} {ch : List Addr} (I : Inv X pins σ H s)
  (hch : ∀ b ∈ ch, (b ∈ X.ex ∨ X.s₀.heap.objs.size ≤ b) ∧ b ≠ X.env.locals ∧ (∀ x c, X.env.cells.lookup x = some c → c ≠ b) ∧ ∀ p ∈ X.pn ++ pins, p.1 ≠ b)
  (keep : ∀ b o, b ≠ X.env.locals → b ∉ X.fs → b ∉ ch → s.heap.get? b = some o → H b = none → h'.get? b = some o)
  (slot : ∀ b o, b ≠ X.env.locals → b ∈ X.fs → b ∉ ch → s.heap.get? b = some o → H b = none → ∃ sl, h'.get? b = some { o with slots := sl }) (free : ∀ b o, b ∉ ch → s.heap.get? b = some o → H b = none → H' b = none)
  (there : ∀ b o, b ∉ ch → s.heap.get? b = some o → ∃ o', h'.get? b = some o')
  (tups : ∀ b xs, H b = some (.tup xs) → H' b = some (.tup xs)) (frzs : ∀ b o u, H b = some (.frz o u) → H' b = some (.frz o u)) (tbls : ∀ b ps, H b = some (.tbl ps) → ∃ more, H' b = some (.tbl (ps ++ more)))
  (ns : ∀ m, s.heap.Ns X.env.locals m → h'.Ns X.env.locals m) (hok : HOk X.prog X.w H' h') (hg : AllBare g') :
  Inv X pins σ H' { s with heap := h', gens := g', drawn := d', toks := t' } := by
 have neL : ∀ b o, X.s₀.heap.get? b = some o → b ≠ X.env.locals := fun b o e => Nat.ne_of_lt (Nat.lt_of_lt_of_le (Heap.lt_size e) I.ok.above)
 have neC : ∀ b o, X.s₀.heap.get? b = some o → b ∉ X.ex → b ∉ ch := fun b o e hx hb => by
  rcases (hch b hb).1 with z | z
  ·exact hx z
  ·exact absurd (Nat.lt_of_lt_of_le (Heap.lt_size e) z) (Nat.lt_irrefl _)
 have cellK : ∀ x c, X.env.cells.lookup x = some c → ∀ v, s.heap.IsCell c v → h'.IsCell c v := fun x c e v ⟨o, ho, hd⟩ => by
  have nch : c ∉ ch := fun z => (hch c z).2.2.1 x c e rfl
  by_cases hc : c ∈ X.fs
  ·obtain ⟨sl, q⟩ := slot c o (I.cne x c e) hc nch ho (I.freeC x c e)
   exact ⟨_, q, hd⟩
  ·exact ⟨o, keep c o (I.cne x c e) hc nch ho (I.freeC x c e), hd⟩
 refine ⟨I.ok, I.os, hg, ⟨fun b o e n hb hx => ?_, fun b o e n hb hx => ?_, fun b o e n hx => ?_, fun b o e hx => ?_, fun b xs e => tups b xs (I.base.tups b xs e), fun b o xs e => frzs b o xs (I.base.frzs b o xs e), fun b ps e => ?_⟩, ?_, fun x c e => ?_, ?_, fun x c e => ?_, fun p hp => ?_, hok, I.len⟩
 ·exact keep b o (neL b o e) hb (neC b o e hx) (I.base.keep b o e n hb hx) (I.base.free b o e n hx)
 ·obtain ⟨sl, e1⟩ := I.base.slot b o e n hb hx
  obtain ⟨sl', e2⟩ := slot b _ (neL b o e) hb (neC b o e hx) e1 (I.base.free b o e n hx)
  exact ⟨sl', e2⟩
 ·obtain ⟨o', e1⟩ := I.base.there b o e hx
  exact free b o' (neC b o e hx) e1 (I.base.free b o e n hx)
 ·obtain ⟨o', e1⟩ := I.base.there b o e hx
  exact there b o' (neC b o e hx) e1
 ·obtain ⟨m1, e1⟩ := I.base.tbls b ps e
  obtain ⟨m2, e2⟩ := tbls b _ e1
  exact ⟨m1 ++ m2, by rw [e2, Array.append_assoc]⟩
 ·obtain ⟨m, hn, hl⟩ := I.loc
  refine ⟨m, ns m hn, fun i x v e1 e2 e3 => ?_⟩
  obtain ⟨u, r, l⟩ := hl i x v e1 e2 e3
  refine ⟨u, r, ?_⟩
  rcases l with l | ⟨k, c, e, z⟩
  ·exact .inl l
  ·exact .inr ⟨k, c, e, cellK x c e _ z⟩
 ·obtain ⟨v, z⟩ := I.cell x c e
  exact ⟨v, cellK x c e v z⟩
 ·obtain ⟨m, ⟨o, _, _, ho, _⟩, _⟩ := I.loc
  exact free _ o (fun z => (hch _ z).2.1 rfl) ho I.free
 ·obtain ⟨v, o, ho, hd⟩ := I.cell x c e
  exact free c o (fun z => (hch c z).2.2.1 x c e rfl) ho (I.freeC x c e)
 ·obtain ⟨e, n, ne, nf, d⟩ := I.pin p hp
  have nch : p.1 ∉ ch := fun z => (hch p.1 z).2.2.2 p hp rfl
  exact ⟨keep p.1 p.2 ne nf nch e n, free p.1 p.2 nch e n, ne, nf, d⟩
theorem Inv.un {t' : Nat} (I : Inv X pins σ H s) (u : Un X.fs [] H H' s.heap h') (hok : HOk X.prog X.w H' h') : Inv X pins σ H' { s with heap := h', toks := t' } := by
 obtain ⟨m, ⟨o, es, ep, ho, r⟩, _⟩ := id I.loc
 obtain ⟨sl, hL⟩ := u.any ho I.free (by simp)
 exact I.step (g' := s.gens) (d' := s.drawn) (ch := []) (fun _ z => nomatch z) (fun b o _ hb _ e n => u.keep b o e n hb (by simp)) (fun b o _ hb _ e n => u.slot b o e n hb (by simp)) (fun b o _ e n => u.free b o e n (by simp)) (fun b o _ e => u.there b o e (by simp)) u.tups u.frzs u.tbls (fun m' hm => by
  obtain ⟨o', es', ep', ho', r'⟩ := hm
  rw [ho] at ho'; cases ho'
  exact ⟨_, es', ep', hL, r'⟩) hok I.bare
theorem Inv.call {g' : Array GenState} {t' : Nat} {d' : Drawn} {ch : List Addr} (I : Inv X pins σ H s) (u : Un (frs X.stack) ch H H' s.heap h') (hok : HOk X.prog X.w H' h') (hg : AllBare g')
  (hch : ∀ b ∈ ch, (b ∈ X.ex ∨ X.s₀.heap.objs.size ≤ b) ∧ b ≠ X.env.locals ∧ (∀ x c, X.env.cells.lookup x = some c → c ≠ b) ∧ ∀ p ∈ X.pn ++ pins, p.1 ≠ b) :
  Inv X pins σ H' { s with heap := h', gens := g', drawn := d', toks := t' } := by
 obtain ⟨m, ⟨o, es, ep, ho, r⟩, _⟩ := id I.loc
 obtain ⟨sl, hL⟩ := u.any ho I.free fun z => (hch _ z).2.1 rfl
 exact I.step (ch := ch) hch (fun b o hL hb hc e n => u.keep b o e n (fun z => (List.mem_cons.mp (I.stkSub b z)).elim hL hb) hc) (fun b o _ _ hc e n => u.any e n hc) (fun b o hc e n => u.free b o e n hc) (fun b o hc e => u.there b o e hc) u.tups u.frzs u.tbls (fun m' hm => by
  obtain ⟨o', es', ep', ho', r'⟩ := hm
  rw [ho] at ho'; cases ho'
  exact ⟨_, es', ep', hL, r'⟩) hok hg
theorem Inv.turned {t' : Nat} {it : Addr} (I : Inv X pins σ H s) (k : ∀ b o, b ≠ it → s.heap.get? b = some o → h'.get? b = some o) (hn : H it = none) (hL : it ≠ X.env.locals)
  (h1 : it ∈ X.ex ∨ X.s₀.heap.objs.size ≤ it) (h2 : ∀ x c, X.env.cells.lookup x = some c → c ≠ it) (h3 : ∀ p ∈ X.pn ++ pins, p.1 ≠ it) : Inv X pins σ H { s with heap := h', toks := t' } := by
 have nit : ∀ b u, H b = some u → b ≠ it := fun b u e z => by rw [z, hn] at e; cases e
 refine I.step (g' := s.gens) (d' := s.drawn) (ch := [it]) (fun b hb => ?_) (fun b o _ _ hc e _ => k b o (fun z => hc (by simp [z])) e) (fun b o _ _ hc e _ => ⟨o.slots, k b o (fun z => hc (by simp [z])) e⟩) (fun _ _ _ _ n => n)
  (fun b o hc e => ⟨o, k b o (fun z => hc (by simp [z])) e⟩) (fun _ _ e => e) (fun _ _ _ e => e) (fun b ps e => ⟨#[], by rw [e]; simp⟩) (fun m hm => ?_) (fun b u e => ?_) I.bare
 ·have e : b = it := by simpa using hb
  subst e
  exact ⟨h1, hL, h2, h3⟩
 ·obtain ⟨o, es, ep, ho, r⟩ := hm
  exact ⟨o, es, ep, k _ o (Ne.symm hL) ho, r⟩
 ·refine (I.hok b u e).stay (fun c v hc q => k c v ?_ q) (fun _ q => q) fun _ _ q => q
  rcases hc with z | z
  ·rw [z]; exact nit b u e
  ·exact nit c _ z
theorem Inv.tok (I : Inv X pins σ H s) (t : Nat) : Inv X pins σ H { s with toks := t } := I.un (h' := s.heap) (t' := t) Un.refl I.hok
theorem Inv.kept {t' : Nat} (I : Inv X pins σ H s) (k : ∀ b u, s.heap.get? b = some u → h'.get? b = some u) : Inv X pins σ H { s with heap := h', toks := t' } := I.un (Un.kept k) (I.hok.kept k)
theorem Inv.laid {a : Addr} {o : HO} {t' : Nat} (I : Inv X pins σ H s) (k : ∀ b u, s.heap.get? b = some u → h'.get? b = some u) (hp : s.heap.objs.size ≤ a) (new : ObjOk X.prog X.w (upd H a o) h' a o) :
  Inv X pins σ (upd H a o) { s with heap := h', toks := t' } := I.un (Un.laid k hp (I.hok.fresh hp)) (I.hok.laid k hp new)
theorem Inv.write {x e : Addr} {o : HO} {t' : Nat} (I : Inv X pins σ H s) (mu : Mut (H x)) (he : e = x ∨ H e = some (.own x)) (k : ∀ b u, b ≠ e → s.heap.get? b = some u → h'.get? b = some u) (heo : ∃ u, h'.get? e = some u)
  (new : ObjOk X.prog X.w (upd H x o) h' x o) : Inv X pins σ (upd H x o) { s with heap := h', toks := t' } := I.un (Un.write mu he k heo) (I.hok.write mu he k heo new)
theorem Inv.pins_of {pins' : List (Addr × Obj)} (I : Inv X pins σ H s) (h : ∀ p ∈ pins', s.heap.get? p.1 = some p.2 ∧ H p.1 = none ∧ p.1 ≠ X.env.locals ∧ p.1 ∉ X.fs ∧ ∀ v, p.2.data ≠ .cell v) : Inv X pins' σ H s :=
 ⟨I.ok, I.os, I.bare, I.base, I.loc, I.cell, I.free, I.freeC, fun p hp => (List.mem_append.mp hp).elim (fun z => I.pin p (List.mem_append_left _ z)) (h p), I.hok, I.len⟩
theorem nodup_ix {N : List Str} (hN : N.Nodup) {i j : Nat} {x : Str} (a : N[i]? = some x) (b : N[j]? = some x) : i = j := by
 obtain ⟨h1, e1⟩ := List.getElem?_eq_some_iff.mp a
 obtain ⟨h2, e2⟩ := List.getElem?_eq_some_iff.mp b
 exact (List.getElem_inj hN).mp (e1.trans e2.symm)
theorem store_ok2 {M : Model} {A : Around} {E : Value → Shared → Prop} {i : Nat} {x : Str} {v : V} {u : Value} {Q : Unit → Shared → Prop} (I : Inv X pins σ H s) (hN : X.N.Nodup) (hi : X.N[i]? = some x) (hx : Loc X.env.scope x) (r : RelV v u)
  (h : ∀ s', Inv X pins (σ.set i (some v)) H s' → (∃ a, Heap.SameBut a s.heap s'.heap ∧ (a = X.env.locals ∨ X.env.cells.lookup x = some a)) → Q () s') (hf : X.fn x = true ∨ X.env.scope.names.lookup x = some .local := by first | exact .inl rfl | exact .inr rfl | assumption) : wpAny M A (storeName X.env x u) Q E s := by
 obtain ⟨m, hn, hl⟩ := id I.loc
 have hcls : (X.env.scope.kind == .class || (X.env.scope.kind == .module && X.env.locals != X.env.globals)) = false := by rw [I.ok.kind]; rfl
 have hiσ : i < σ.length := by rw [I.len]; exact (List.getElem?_eq_some_iff.mp hi).1
 have cne := I.cne
 have tracked : ∀ {a : Addr} {h' : Heap}, (∃ o, s.heap.get? a = some o ∧ H a = none) → Heap.SameBut a s.heap h' → HOk X.prog X.w H h' := fun {a h'} ha hs b ob e => by
  obtain ⟨_, _, hfree⟩ := ha
  refine (I.hok b ob e).stay (fun c w' hc q => (hs.2 c ?_).trans q) (fun _ q => q) fun _ _ q => q
  rintro rfl
  rcases hc with rfl | hc
  ·rw [hfree] at e; cases e
  ·rw [hfree] at hc; cases hc
 rcases hx with hk | hk
 ·refine wpAny_storeName_local hk hn (fun h' hn' hs => ?_) hcls
  obtain ⟨oL, _, _, hoL, _⟩ := id hn
  refine h _ ⟨I.ok, I.os, I.bare, ⟨fun b o e n hb hx => ?_, fun b o e n hb hx => ?_, I.base.free, fun b o e hx => ?_, I.base.tups, I.base.frzs, I.base.tbls⟩, ⟨_, hn', fun j y v' e1 e2 e3 => ?_⟩, fun y c e => ?_, I.free, I.freeC, fun p hp => ?_, tracked ⟨oL, hoL, I.free⟩ hs, by simpa using I.len⟩ ⟨_, hs, .inl rfl⟩
  ·exact (hs.2 b (Nat.ne_of_lt (Nat.lt_of_lt_of_le (Heap.lt_size e) I.ok.above))).trans (I.base.keep b o e n hb hx)
  ·obtain ⟨sl, e1⟩ := I.base.slot b o e n hb hx
   exact ⟨sl, (hs.2 b (Nat.ne_of_lt (Nat.lt_of_lt_of_le (Heap.lt_size e) I.ok.above))).trans e1⟩
  ·obtain ⟨o', e1⟩ := I.base.there b o e hx
   exact ⟨o', (hs.2 b (Nat.ne_of_lt (Nat.lt_of_lt_of_le (Heap.lt_size e) I.ok.above))).trans e1⟩
  ·by_cases hj : j = i
   ·subst hj
    rw [hi] at e1; cases e1
    rw [List.getElem?_set_self hiσ] at e2
    cases e2
    exact ⟨u, r, .inl ⟨hk, by simp⟩⟩
   ·rw [List.getElem?_set_ne (Ne.symm hj)] at e2
    obtain ⟨u', r', q⟩ := hl j y v' e1 e2 e3
    refine ⟨u', r', ?_⟩
    rcases q with ⟨k, e⟩ | ⟨k, c, e, z⟩
    ·refine .inl ⟨k, ?_⟩
     have : y ≠ x := fun e => hj (nodup_ix hN e1 (e ▸ hi))
     simp [this, e]
    ·exact .inr ⟨k, c, e, z.sameBut hs (cne y c e)⟩
  ·obtain ⟨w', z⟩ := I.cell y c e
   exact ⟨w', z.sameBut hs (cne y c e)⟩
  ·obtain ⟨e, n, ne, nf, d⟩ := I.pin p hp
   exact ⟨(hs.2 p.1 ne).trans e, n, ne, nf, d⟩
 ·have hfn : X.fn x = true := by
   rcases hf with z | z
   ·exact z
   ·rw [z] at hk; cases hk
  obtain ⟨c, hc⟩ := I.ok.has x (.inl hk)
  obtain ⟨w', z⟩ := I.cell x c hc
  refine wpAny_storeName_cell I.ok.kind hk hc z (fun h' hc' hs => ?_)
  obtain ⟨oc, hoc, hocd⟩ := id z
  refine h { s with heap := h' } ⟨I.ok, I.os, I.bare, ⟨fun b o e n hb hx => ?_, fun b o e n hb hx => ?_, I.base.free, fun b o e hx => ?_, I.base.tups, I.base.frzs, I.base.tbls⟩, ⟨m, hn.sameBut hs (Ne.symm (cne x c hc)), fun j y v' e1 e2 e3 => ?_⟩, fun y c' e => ?_, I.free, I.freeC, fun p hp => ?_, tracked ⟨oc, hoc, I.freeC x c hc⟩ hs, by simpa using I.len⟩ ⟨c, hs, .inr hc⟩
  ·exact (hs.2 b (Nat.ne_of_lt (Nat.lt_of_lt_of_le (Heap.lt_size e) (I.ok.cab x c hfn hc)))).trans (I.base.keep b o e n hb hx)
  ·obtain ⟨sl, e1⟩ := I.base.slot b o e n hb hx
   exact ⟨sl, (hs.2 b (Nat.ne_of_lt (Nat.lt_of_lt_of_le (Heap.lt_size e) (I.ok.cab x c hfn hc)))).trans e1⟩
  ·obtain ⟨o', e1⟩ := I.base.there b o e hx
   exact ⟨o', (hs.2 b (Nat.ne_of_lt (Nat.lt_of_lt_of_le (Heap.lt_size e) (I.ok.cab x c hfn hc)))).trans e1⟩
  ·by_cases hj : j = i
   ·subst hj
    rw [hi] at e1; cases e1
    rw [List.getElem?_set_self hiσ] at e2
    cases e2
    exact ⟨u, r, .inr ⟨.inl hk, c, hc, hc'⟩⟩
   ·rw [List.getElem?_set_ne (Ne.symm hj)] at e2
    obtain ⟨u', r', q⟩ := hl j y v' e1 e2 e3
    refine ⟨u', r', ?_⟩
    rcases q with q | ⟨k, c', e, z'⟩
    ·exact .inl q
    ·refine .inr ⟨k, c', e, z'.sameBut hs ?_⟩
     rintro rfl
     exact hj (nodup_ix hN e1 (I.ok.inj _ _ _ e hc ▸ hi))
  ·by_cases hcc : c' = c
   ·subst hcc; exact ⟨_, hc'⟩
   ·obtain ⟨w2, z2⟩ := I.cell y c' e
    exact ⟨w2, z2.sameBut hs hcc⟩
  ·obtain ⟨e, n, ne, nf, d⟩ := I.pin p hp
   refine ⟨(hs.2 p.1 ?_).trans e, n, ne, nf, d⟩
   intro q
   rw [q, hoc] at e
   have q' : oc = p.2 := Option.some.inj e
   exact d w' (by rw [← q']; exact hocd)
theorem store_ok {M : Model} {A : Around} {E : Value → Shared → Prop} {i : Nat} {x : Str} {v : V} {u : Value} {Q : Unit → Shared → Prop} (I : Inv X pins σ H s) (hN : X.N.Nodup) (hi : X.N[i]? = some x) (hx : Loc X.env.scope x) (r : RelV v u)
  (h : ∀ s', Inv X pins (σ.set i (some v)) H s' → Q () s') (hf : X.fn x = true ∨ X.env.scope.names.lookup x = some .local := by first | exact .inl rfl | exact .inr rfl | assumption) : wpAny M A (storeName X.env x u) Q E s :=
 store_ok2 I hN hi hx r (fun s' I' _ => h s' I') hf
theorem Inv.call' {s' : Shared} {ch : List Addr} (I : Inv X pins σ H s) (ho : s'.os = s.os) (u : Un (frs X.stack) ch H H' s.heap s'.heap) (hok : HOk X.prog X.w H' s'.heap) (hg : AllBare s'.gens)
  (hch : ∀ b ∈ ch, (b ∈ X.ex ∨ X.s₀.heap.objs.size ≤ b) ∧ b ≠ X.env.locals ∧ (∀ x c, X.env.cells.lookup x = some c → c ≠ b) ∧ ∀ p ∈ X.pn ++ pins, p.1 ≠ b) : Inv X pins σ H' s' := by
 obtain ⟨h', g', d', t', o'⟩ := s'
 have e : o' = s.os := ho
 subst e
 exact I.call (g' := g') (t' := t') (d' := d') u hok hg hch
end
noncomputable abbrev XK := Value → Option Addr → Hp → Prop
noncomputable abbrev St := List (Option V)
noncomputable abbrev VK := V → Hp → Prop
noncomputable abbrev TE := St → Hp → VK → Prop
noncomputable abbrev TT := St → Hp → (Bool → Hp → Prop) → Prop
noncomputable abbrev TA := St → Hp → (List V → Hp → Prop) → Prop
structure Ends where
 nx : St → Hp → Prop
 rt : VK
 bk : St → Hp → Prop := fun _ _ => False
 ct : St → Hp → Prop := fun _ _ => False
noncomputable abbrev TS := Ends → St → Hp → Prop
noncomputable def EP (X : Cx) (pins : List (Addr × Obj)) (σ : St) (Q : VK) (u : Value) (s' : Shared) : Prop := ∃ v H', Inv X pins σ H' s' ∧ RelV v u ∧ Q v H'
noncomputable def TP (X : Cx) (pins : List (Addr × Obj)) (σ : St) (Q : Bool → Hp → Prop) (b : Bool) (s' : Shared) : Prop := ∃ H', Inv X pins σ H' s' ∧ Q b H'
noncomputable def AP (X : Cx) (pins : List (Addr × Obj)) (σ : St) (Q : List V → Hp → Prop) (us : List Value) (s' : Shared) : Prop := ∃ vs H', Inv X pins σ H' s' ∧ Vals vs us ∧ Q vs H'
noncomputable def SP (X : Cx) (pins : List (Addr × Obj)) (D : Ends) (f : Flow) (s' : Shared) : Prop :=
 match f with
 | .next => ∃ σ' H', Inv X pins σ' H' s' ∧ D.nx σ' H'
 | .brk => ∃ σ' H', Inv X pins σ' H' s' ∧ D.bk σ' H'
 | .cont => ∃ σ' H', Inv X pins σ' H' s' ∧ D.ct σ' H'
 | .ret u => ∃ v σ' H', Inv X pins σ' H' s' ∧ RelV v u ∧ D.rt v H'
noncomputable def PE (X : Cx) (e : Expr) (t : TE) : Prop :=
 ∀ (pins : List (Addr × Obj)) (s : Shared) (σ : St) (H : Hp) (Q : VK), Inv X pins σ H s → t σ H Q → wpAny (model X.prog X.w) X.A (eval e X.env) (EP X pins σ Q) X.xe s
noncomputable def PT (X : Cx) (e : Expr) (t : TT) : Prop :=
 ∀ (pins : List (Addr × Obj)) (s : Shared) (σ : St) (H : Hp) (Q : Bool → Hp → Prop), Inv X pins σ H s → t σ H Q → wpAny (model X.prog X.w) X.A (isTrue e X.env (eval e X.env)) (TP X pins σ Q) X.xe s
noncomputable def PW (X : Cx) (e : Expr) (t : TT) : Prop :=
 ∀ (whole : Sem Value) (pins : List (Addr × Obj)) (s : Shared) (σ : St) (H : Hp) (Q : Bool → Hp → Prop), Inv X pins σ H s → t σ H Q → wpAny (model X.prog X.w) X.A (isTrue e X.env whole) (TP X pins σ Q) X.xe s
theorem PW.pt {X : Cx} {e : Expr} {t : TT} (h : PW X e t) : PT X e t := h _
noncomputable def PA (X : Cx) (es : List Expr) (t : TA) : Prop :=
 ∀ (pos : Pos) (pins : List (Addr × Obj)) (s : Shared) (σ : St) (H : Hp) (Q : List V → Hp → Prop), Inv X pins σ H s → t σ H Q → wpAny (model X.prog X.w) X.A (spliced (backTo pos (starEach es X.env))) (AP X pins σ Q) X.xe s
noncomputable def PS (X : Cx) (st : Stmt) (t : TS) : Prop :=
 ∀ (pins : List (Addr × Obj)) (s : Shared) (σ : St) (H : Hp) (D : Ends), Inv X pins σ H s → t D σ H → wpAny (model X.prog X.w) X.A (exec st X.env) (SP X pins D) X.xe s
noncomputable def PSs (X : Cx) (st : List Stmt) (t : TS) : Prop :=
 ∀ (pins : List (Addr × Obj)) (s : Shared) (σ : St) (H : Hp) (D : Ends), Inv X pins σ H s → t D σ H → wpAny (model X.prog X.w) X.A (execs st X.env) (SP X pins D) X.xe s
theorem thn {α : Type} {t : Sem α} {Q Q' : α → Shared → Prop} {M : Model} {A : Around} {E : Value → Shared → Prop} {s : Shared} (h : wpAny M A t Q E s) (hQ : ∀ a s, Q a s → Q' a s) : wpAny M A t Q' E s := wpAny_mono h hQ fun _ _ x => x
end L2
namespace L2
open PySem PySem.Spec PyProof.Rows
section
variable {X : Cx}
noncomputable def tVar (i : Nat) : TE := fun σ H Q => ∃ v, σ[i]? = some (some v) ∧ Q v H
noncomputable def tC (v : V) : TE := fun _ H Q => Q v H
theorem pe_var {i : Nat} {x : Str} {pos : Pos} (hN : X.N[i]? = some x) (hv : Vis X.env.scope x) (hd : (x == ("__debug__" : Str)) = false := by decide) (hcd : (x == ("__classdict__" : Str)) = false := by decide) : PE X (.Name x pos) (tVar i) := by
 intro pins s σ H Q I h
 obtain ⟨v, e, h⟩ := h
 obtain ⟨m, hn, hl⟩ := I.loc
 obtain ⟨u, r, l⟩ := hl i x v hN e hv
 have fin : EP X pins σ Q u s := ⟨v, H, I, r, h⟩
 rcases l with ⟨hk, hm⟩ | ⟨hk, c, hc, hcell⟩
 ·exact wpAny_Name (wpAny_loadName_local I.ok.kind hk hn hm fin) hd
 ·rcases hk with hk | hk
  ·exact wpAny_Name (wpAny_loadName_cell I.ok.kind hk hc hcell fin) hd
  ·exact wpAny_Name (wpAny_loadName_free I.ok.kind hk hc hcell fin hcd) hd
theorem pe_int {i j pos} : PE X (.Constant (.int i) j pos) (tC (.int i)) := fun _ _ _ H _ I h => wpAny_Constant_int ⟨.int i, H, I.tok _, ⟨_, rfl⟩, h⟩
theorem pe_bl {b j pos} : PE X (.Constant (.bool b) j pos) (tC (.bl b)) := fun _ _ _ H _ I h => Constant_bool ⟨.bl b, H, I, rfl, h⟩
theorem pe_non {j pos} : PE X (.Constant .none j pos) (tC .non) := fun _ _ _ H _ I h => Constant_none ⟨.non, H, I, rfl, h⟩
theorem pe_str {x j pos} : PE X (.Constant (.str x) j pos) (tC (.str x)) := fun _ _ _ H _ I h => Calls.Constant_str ⟨.str x, H, I.tok _, ⟨_, rfl⟩, h⟩
noncomputable def Gl (X : Cx) (x : Str) : Prop := X.env.kindOf x = some .globalImplicit
theorem ld_glob {E : Value → Shared → Prop} {pins : List (Addr × Obj)} {s : Shared} {σ : St} {H : Hp} {x : Str} {u : Value} {pos : Pos} {Q : Value → Shared → Prop} (I : Inv X pins σ H s) (hg : Gl X x) (hm : X.mg x = some u) (h : Q u s)
  (hd : (x == ("__debug__" : Str)) = false := by decide) : wpAny (model X.prog X.w) X.A (eval (.Name x pos) X.env) Q E s :=
 Calls.Name_function_global I.ok.kind hg (Calls.loadGlobal_global (by rw [I.ok.glob]; exact I.mod.glob.keeps I.bk) hm h) hd
theorem ld_blt {E : Value → Shared → Prop} {pins : List (Addr × Obj)} {s : Shared} {σ : St} {H : Hp} {x : Str} {u : Value} {pos : Pos} {Q : Value → Shared → Prop} (I : Inv X pins σ H s) (hg : Gl X x) (hm : X.mg x = none) (hv : bootBuiltins x = some u) (h : Q u s)
  (hn : x ≠ "__name__" := by decide) (hd : (x == ("__debug__" : Str)) = false := by decide) : wpAny (model X.prog X.w) X.A (eval (.Name x pos) X.env) Q E s := by
 obtain ⟨mb, h1, h2⟩ := I.mod.blt
 exact Calls.Name_function_global I.ok.kind hg (Calls.loadGlobal_builtin (by rw [I.ok.glob]; exact I.mod.glob.keeps I.bk) hm (by rw [I.ok.blt]; exact h1.keeps I.bk) ((h2 x hn).trans hv) h) hd
theorem pe_glob {x : Str} {v : V} {u : Value} {pos : Pos} (hg : Gl X x) (hm : X.mg x = some u) (r : RelV v u) (hd : (x == ("__debug__" : Str)) = false := by decide) : PE X (.Name x pos) (tC v) :=
 fun _ _ _ H _ I h => ld_glob I hg hm ⟨v, H, I, r, h⟩ hd
theorem pe_bltn {x : Str} {v : V} {u : Value} {pos : Pos} (hg : Gl X x) (hm : X.mg x = none) (hv : bootBuiltins x = some u) (r : RelV v u) (hn : x ≠ "__name__" := by decide) (hd : (x == ("__debug__" : Str)) = false := by decide) : PE X (.Name x pos) (tC v) :=
 fun _ _ _ H _ I h => ld_blt I hg hm hv ⟨v, H, I, r, h⟩ hn hd
variable {a b : Expr} {ta tb : TE} {pos : Pos}
variable {tA tB' : TT} {rest : List Expr}
noncomputable def tAnd (t u : TT) : TT := fun σ H Q => t σ H fun c H1 => if c = true then u σ H1 Q else Q false H1
noncomputable def tOr (t u : TT) : TT := fun σ H Q => t σ H fun c H1 => if c = true then Q true H1 else u σ H1 Q
noncomputable def tNot (t : TT) : TT := fun σ H Q => t σ H fun c H1 => Q (!c) H1
theorem pw_and1 (ha : PT X a tA) : PW X (.BoolOp .And [a] pos) tA := by
 intro wh pins s σ H Q I h
 refine isTrue_and (thn (ha pins s σ H Q I h) fun c s1 e => ?_)
 cases c with
 | true => exact isTrue_and_nil e
 | false => exact e
theorem pw_or1 (ha : PT X a tA) : PW X (.BoolOp .Or [a] pos) tA := by
 intro wh pins s σ H Q I h
 refine isTrue_or (thn (ha pins s σ H Q I h) fun c s1 e => ?_)
 cases c with
 | false => exact isTrue_or_nil e
 | true => exact e
theorem pw_and (ha : PT X a tA) (hb : PW X (.BoolOp .And (b :: rest) pos) tB') : PW X (.BoolOp .And (a :: b :: rest) pos) (tAnd tA tB') := by
 intro wh pins s σ H Q I h
 refine isTrue_and (thn (ha pins s σ H _ I h) fun c s1 ⟨H1, I1, q1⟩ => ?_)
 cases c with
 | true => exact hb wh pins s1 σ H1 Q I1 q1
 | false => exact ⟨H1, I1, q1⟩
theorem pw_or (ha : PT X a tA) (hb : PW X (.BoolOp .Or (b :: rest) pos) tB') : PW X (.BoolOp .Or (a :: b :: rest) pos) (tOr tA tB') := by
 intro wh pins s σ H Q I h
 refine isTrue_or (thn (ha pins s σ H _ I h) fun c s1 ⟨H1, I1, q1⟩ => ?_)
 cases c with
 | true => exact ⟨H1, I1, q1⟩
 | false => exact hb wh pins s1 σ H1 Q I1 q1
theorem pt_not (ha : PT X a tA) : PT X (.UnaryOp .Not a pos) (tNot tA) := by
 intro pins s σ H Q I h
 exact isTrue_not (ha pins s σ H (fun c H1 => Q (!c) H1) I h)
theorem pe_one {op} {t : TE} (h : PE X a t) : PE X (.BoolOp op [a] pos) t := fun pins s σ H Q I hw => BoolOp_one (h pins s σ H Q I hw)
end
end L2
namespace L2
open PySem PySem.Spec PyProof.Rows
noncomputable def SqL (K : PySem.W.Frag) (H : Hp) (a : Addr) (xs : List V) : Prop :=
 Rd H a (.lst xs) ∨
  ∃ (o : Obj) (its : Array Value) (n : Nat), K.lookup a = some o ∧ o.cls = .type "list" ∧ o.dict = none ∧ o.data = .seq its n ∧ its.size ≤ sizeLine ∧ Vals xs its.toList
noncomputable def SqT (K : PySem.W.Frag) (H : Hp) (a : Addr) (xs : List V) : Prop :=
 Rd H a (.tup xs) ∨
  ∃ (o : Obj) (its : Array Value) (n : Nat), K.lookup a = some o ∧ o.cls = .type "tuple" ∧ o.data = .seq its n ∧ its.size ≤ sizeLine ∧ Vals xs its.toList
noncomputable def absV : Value → Option V
 | .none => some .non
 | .bool b => some (.bl b)
 | .int i _ => some (.int i)
 | .str x _ => some (.str x)
 | .bytes b _ => some (.byt b)
 | .float b _ => some (.flt b)
 | .ref a => some (.ref a)
 | .type n => some (.ty n)
 | _ => none
theorem RelV.abs {x : V} {u : Value} (r : RelV x u) : absV u = some x := by
 cases x with
 | non => cases r; rfl
 | bl _ => cases r; rfl
 | int _ => obtain ⟨t, rfl⟩ := r; rfl
 | str _ => obtain ⟨t, rfl⟩ := r; rfl
 | byt _ => obtain ⟨t, rfl⟩ := r; rfl
 | flt _ => obtain ⟨t, rfl⟩ := r; rfl
 | ref _ => cases r; rfl
 | ty _ => cases r; rfl
theorem RelV.inj {x y : V} {u : Value} (r : RelV x u) (q : RelV y u) : x = y := Option.some.inj (r.abs.symm.trans q.abs)
theorem Vals.inj : ∀ {xs ys : List V} {us : List Value}, Vals xs us → Vals ys us → xs = ys
 | _, _, _, .nil, .nil => rfl
 | _, _, _, .cons r t, .cons r' t' => by rw [r.inj r', Vals.inj t t']
section
variable {X : Cx} {pins : List (Addr × Obj)} {σ : St} {H : Hp} {s : Shared} {a : Addr} {xs ys : List V}
theorem Inv.list (I : Inv X pins σ H s) (h : SqL X.K H a xs) : ∃ its : List Value, Vals xs its ∧ PlainL s.heap a its.toArray ∧ xs.length ≤ sizeLine := by
 rcases h with h | ⟨o, its, n, hk, hc, hd, hs, hz, r⟩
 ·obtain ⟨z, its, n, r, e⟩ := h.ok I.hok
  exact ⟨its, r, ⟨_, n, e, rfl, rfl, rfl⟩, z⟩
 ·refine ⟨its.toList, r, ⟨o, n, I.kIn a o hk, hc, hd, by simpa using hs⟩, ?_⟩
  have e := r.length
  simp only [Array.length_toList] at e
  omega
theorem Inv.tuple (I : Inv X pins σ H s) (h : SqT X.K H a xs) : ∃ its : List Value, Vals xs its ∧ IsTup s.heap a its.toArray ∧ xs.length ≤ sizeLine := by
 rcases h with h | ⟨o, its, n, hk, hc, hs, hz, r⟩
 ·obtain ⟨z, its, r, p⟩ := h.ok I.hok
  exact ⟨its, r, p, z⟩
 ·refine ⟨its.toList, r, ⟨o, I.kIn a o hk, hc, n, by simpa using hs⟩, ?_⟩
  have e := r.length
  simp only [Array.length_toList] at e
  omega
theorem Inv.list_inj (I : Inv X pins σ H s) (h : SqL X.K H a xs) (h' : SqL X.K H a ys) : xs = ys := by
 obtain ⟨its, r, ⟨o, n, e, _, _, d⟩, _⟩ := I.list h
 obtain ⟨its', r', ⟨o', n', e', _, _, d'⟩, _⟩ := I.list h'
 rw [e] at e'; cases e'
 rw [d] at d'
 injection d' with d1 _
 have : its = its' := by simpa using congrArg Array.toList d1
 subst this
 exact r.inj r'
theorem Inv.tuple_inj (I : Inv X pins σ H s) (h : SqT X.K H a xs) (h' : SqT X.K H a ys) : xs = ys := by
 obtain ⟨its, r, ⟨o, e, _, n, d⟩, _⟩ := I.tuple h
 obtain ⟨its', r', ⟨o', e', _, n', d'⟩, _⟩ := I.tuple h'
 rw [e] at e'; cases e'
 rw [d] at d'
 injection d' with d1 _
 have : its = its' := by simpa using congrArg Array.toList d1
 subst this
 exact r.inj r'
end
noncomputable abbrev Cx.wish (X : Cx) (E : Value → Shared → Prop) : Cx := { X with xe := E }
noncomputable abbrev Cx.nox (X : Cx) : Cx := X.wish fun _ _ => False
theorem Cx.Ok.wish {X : Cx} (ok : X.Ok) (E : Value → Shared → Prop) : (X.wish E).Ok :=
 ⟨ok.mod, ok.kind, ok.glob, ok.blt, ok.above, ok.inj, ok.has, ok.cab, ok.hd, ok.frames, ok.stk, ok.exf, ok.bs, ok.bsz, ok.noex, ok.exfs, ok.funs, ok.frf⟩
theorem Cx.Ok.unwish {X : Cx} {E : Value → Shared → Prop} (ok : (X.wish E).Ok) : X.Ok :=
 ⟨ok.mod, ok.kind, ok.glob, ok.blt, ok.above, ok.inj, ok.has, ok.cab, ok.hd, ok.frames, ok.stk, ok.exf, ok.bs, ok.bsz, ok.noex, ok.exfs, ok.funs, ok.frf⟩
section
variable {X : Cx} {pins : List (Addr × Obj)} {σ : St} {H : Hp} {s : Shared} {E : Value → Shared → Prop}
theorem Inv.wish (I : Inv X pins σ H s) (E : Value → Shared → Prop) : Inv (X.wish E) pins σ H s := ⟨I.ok.wish E, I.os, I.bare, I.base, I.loc, I.cell, I.free, I.freeC, I.pin, I.hok, I.len⟩
theorem Inv.unwish (I : Inv (X.wish E) pins σ H s) : Inv X pins σ H s := ⟨I.ok.unwish, I.os, I.bare, I.base, I.loc, I.cell, I.free, I.freeC, I.pin, I.hok, I.len⟩
theorem SP.unwish {D : Ends} {f : Flow} {s' : Shared} (h : SP (X.wish E) pins D f s') : SP X pins D f s' := by
 cases f with
 | next => obtain ⟨σ', H', I, q⟩ := h; exact ⟨σ', H', I.unwish, q⟩
 | brk => obtain ⟨σ', H', I, q⟩ := h; exact ⟨σ', H', I.unwish, q⟩
 | cont => obtain ⟨σ', H', I, q⟩ := h; exact ⟨σ', H', I.unwish, q⟩
 | ret u => obtain ⟨v, σ', H', I, r, q⟩ := h; exact ⟨v, σ', H', I.unwish, r, q⟩
theorem PSs.nox {st : List Stmt} {t : TS} (h : PSs X.nox st t) : PSs X st t := fun pins s σ H D I hw =>
 wpAny_mono (h pins s σ H D (I.wish _) hw) (fun _ _ q => q.unwish) fun _ _ z => False.elim z
end
section
variable {X : Cx} {st : Stmt} {rest : List Stmt} {t u : TS} {e : Expr} {te : TE} {pos : Pos}
noncomputable def tNext : TS := fun D σ H => D.nx σ H
noncomputable def tSeq (t u : TS) : TS := fun D σ H => t { D with nx := u D } σ H
theorem pss_nil : PSs X [] tNext := fun _ _ σ H _ I h => wpAny_execs_nil ⟨σ, H, I, h⟩
theorem pss_cons (h1 : PS X st t) (h2 : PSs X rest u) : PSs X (st :: rest) (tSeq t u) := by
 intro pins s σ H D I h
 refine wpAny_execs_cons (thn (h1 pins s σ H { D with nx := u D } I h) fun f s1 q => ?_)
 cases f with
 | next =>
  obtain ⟨σ', H', I', q⟩ := q
  exact h2 pins s1 σ' H' D I' q
 | ret v => exact q
 | brk => exact q
 | cont => exact q
noncomputable def tBreak : TS := fun D σ H => D.bk σ H
noncomputable def tCont : TS := fun D σ H => D.ct σ H
theorem ps_pass : PS X (.Pass pos) tNext := fun _ _ σ H _ I h => wpAny_Pass ⟨σ, H, I, h⟩
theorem ps_break : PS X (.Break pos) tBreak := fun _ _ σ H _ I h => wpAny_Break ⟨σ, H, I, h⟩
theorem ps_continue : PS X (.Continue pos) tCont := fun _ _ σ H _ I h => wpAny_Continue ⟨σ, H, I, h⟩
theorem Inv.quiet {pins : List (Addr × Obj)} {σ : St} {H : Hp} {s : Shared} (I : Inv X pins σ H s) : interactive X.env = false := by simp [interactive, I.ok.kind]
theorem ps_doc {x j pos pos'} : PS X (.Expr (.Constant (.str x) j pos) pos') tNext := fun _ s σ H _ I h => wpAny_Expr (Calls.Constant_str (show SP X _ _ .next { s with toks := s.toks + 1 } from ⟨σ, H, I.tok _, h⟩)) I.quiet
noncomputable def tDrop (te : TE) : TS := fun D σ H => te σ H fun _ H1 => D.nx σ H1
theorem ps_expr (he : PE X e te) (hs : swapsWith e none pos.line X.env = pure false := by rfl) : PS X (.Expr e pos) (tDrop te) := by
 intro pins s σ H D I h
 exact wpAny_Expr_any (thn (he pins s σ H _ I h) fun v s1 ⟨x, H1, I1, r1, q1⟩ => ⟨σ, H1, I1, q1⟩) I.quiet hs
noncomputable def tRet (te : TE) : TS := fun D σ H => te σ H D.rt
theorem ps_ret (he : PE X e te) : PS X (.Return (some e) pos) (tRet te) := by
 intro pins s σ H D I h
 exact wpAny_Return_some (thn (he pins s σ H _ I h) fun v s1 ⟨x, H1, I1, r1, q1⟩ => ⟨x, σ, H1, I1, r1, q1⟩)
noncomputable def tRetN : TS := fun D _ H => D.rt .non H
theorem ps_retN : PS X (.Return none pos) tRetN := fun _ _ σ H _ I h => wpAny_Return_none ⟨.non, σ, H, I, rfl, h⟩
noncomputable def tIfS (c : TT) (t u : TS) : TS := fun D σ H => c σ H fun b H1 => if b = true then t D σ H1 else u D σ H1
theorem ps_if {c : Expr} {a b : List Stmt} {tc : TT} (hc : PT X c tc) (ha : PSs X a t) (hb : PSs X b u) : PS X (.If c a b pos) (tIfS tc t u) := by
 intro pins s σ H D I h
 refine wpAny_If (thn (hc pins s σ H _ I h) fun d s1 ⟨H1, I1, q1⟩ => ?_)
 cases d with
 | true => exact ha pins s1 σ H1 D I1 q1
 | false => exact hb pins s1 σ H1 D I1 q1
noncomputable def tNever : TS := fun _ _ _ => False
theorem ps_never : PS X st tNever := fun _ _ _ _ _ _ h => h.elim
end
noncomputable abbrev TG := V → St → Hp → (St → Hp → Prop) → Prop
noncomputable abbrev TGs := List V → St → Hp → (St → Hp → Prop) → Prop
noncomputable def PG (X : Cx) (target : Expr) (t : TG) : Prop :=
 ∀ (pins : List (Addr × Obj)) (s : Shared) (σ : St) (H : Hp) (v : V) (u : Value) (Q : St → Hp → Prop), Inv X pins σ H s → RelV v u → t v σ H Q →
  wpAny (model X.prog X.w) X.A (assign target X.env u) (fun _ s' => ∃ σ' H', Inv X pins σ' H' s' ∧ Q σ' H') X.xe s
noncomputable def PGs (X : Cx) (ts : List Expr) (t : TGs) : Prop :=
 ∀ (pins : List (Addr × Obj)) (s : Shared) (σ : St) (H : Hp) (vs : List V) (us : List Value) (Q : St → Hp → Prop), Inv X pins σ H s → Vals vs us → t vs σ H Q →
  wpAny (model X.prog X.w) X.A (assignInOrder ((assignEach ts X.env).map (·.2)) us) (fun _ s' => ∃ σ' H', Inv X pins σ' H' s' ∧ Q σ' H') X.xe s
section
variable {X : Cx} {pos : Pos}
noncomputable def gName (i : Nat) : TG := fun v σ H Q => Q (σ.set i (some v)) H
theorem pg_name {i : Nat} {x : Str} (hN : X.N.Nodup) (hi : X.N[i]? = some x) (hx : Loc X.env.scope x) (hf : X.fn x = true ∨ X.env.scope.names.lookup x = some .local := by first | exact .inl rfl | exact .inr rfl | assumption) : PG X (.Name x pos) (gName i) := by
 intro pins s σ H v u Q I r h
 exact wpAny_assign_Name (store_ok I hN hi hx r (fun s' I' => ⟨_, H, I', h⟩) hf)
noncomputable def gNil : TGs := fun vs σ H Q => vs = [] ∧ Q σ H
noncomputable def gCons (t : TG) (u : TGs) : TGs := fun vs σ H Q => ∃ v r, vs = v :: r ∧ t v σ H fun σ' H' => u r σ' H' Q
theorem pgs_nil : PGs X [] gNil := by
 intro pins s σ H vs us Q I r h
 obtain ⟨e, h⟩ := h
 subst e
 cases r
 exact assignInOrder_nil ⟨σ, H, I, h⟩
theorem pgs_cons {e : Expr} {es : List Expr} {t : TG} {u : TGs} (h1 : PG X e t) (h2 : PGs X es u)
  (hs : (assignEach (e :: es) X.env).map (·.2) = assign e X.env :: (assignEach es X.env).map (·.2) := by rfl) : PGs X (e :: es) (gCons t u) := by
 intro pins s σ H vs us Q I r h
 obtain ⟨v, vr, e1, h⟩ := h
 subst e1
 cases r with
 | cons r rr =>
  rw [hs]
  refine assignInOrder_cons (thn (h1 pins s σ H _ _ _ I r h) fun _ s1 ⟨σ1, H1, I1, q1⟩ => ?_)
  exact h2 pins s1 σ1 H1 _ _ Q I1 rr q1
noncomputable def tAsg (te : TE) (g : TG) : TS := fun D σ H => te σ H fun x H1 => g x σ H1 D.nx
theorem ps_asg {tg e : Expr} {te : TE} {g : TG} (he : PE X e te) (hg : PG X tg g) (hs : swapsWithSole [tg] e pos.line X.env = pure false := by rfl) (hw : swappedStores [tg] e X.env = pure none := by rfl)
  (h1 : (assignEach [tg] X.env).map (·.2) = [assign tg X.env] := by rfl) : PS X (.Assign [tg] e pos) (tAsg te g) := by
 intro pins s σ H D I h
 refine wpAny_Assign_stores (thn (he pins s σ H _ I h) fun v s1 ⟨x, H1, I1, r1, q1⟩ => ?_) hs hw
 rw [h1]
 exact thn (hg pins s1 σ H1 x v _ I1 r1 q1) fun _ s2 q => q
theorem ps_set {i : Nat} {x : Str} {e : Expr} {te : TE} {pos' : Pos} (hN : X.N.Nodup) (hi : X.N[i]? = some x) (hx : Loc X.env.scope x) (he : PE X e te) (hs : swapsWith e (some (.Name x pos')) pos.line X.env = pure false := by rfl) (hf : X.fn x = true ∨ X.env.scope.names.lookup x = some .local := by first | exact .inl rfl | exact .inr rfl | assumption) :
  PS X (.Assign [.Name x pos'] e pos) (tAsg te (gName i)) := by
 intro pins s σ H D I h
 refine wpAny_Assign_Name (thn (he pins s σ H _ I h) fun v s1 ⟨y, H1, I1, r1, q1⟩ => ?_) hs
 exact store_ok I1 hN hi hx r1 (fun s2 I2 => ⟨_, H1, I2, q1⟩) hf
end
section
variable {X : Cx} {pos : Pos}
end
structure It where
 go : Nat → Hp → Prop
 yld : Nat → Hp → V → Hp → Prop
 stop : Nat → Hp → Prop
noncomputable def FpOk (X : Cx) (pins : List (Addr × Obj)) (H : Hp) (b : Addr) : Prop :=
 H b = none ∧ b ≠ X.env.locals ∧ b ∉ X.fs ∧ (b ∈ X.ex ∨ X.s₀.heap.objs.size ≤ b) ∧ (∀ x c, X.env.cells.lookup x = some c → c ≠ b) ∧ ∀ p ∈ X.pn ++ pins, p.1 ≠ b
theorem Inv.fpOk {X : Cx} {pins : List (Addr × Obj)} {σ : St} {H H' : Hp} {s : Shared} {b : Addr} (I : Inv X pins σ H s) (hb : s.heap.objs.size ≤ b) (hn : H' b = none) : FpOk X pins H' b := by
 refine ⟨hn, Nat.ne_of_gt (Nat.lt_of_lt_of_le I.lt hb), I.nofs hb, .inr (Nat.le_trans I.sz hb), fun x c e z => ?_, fun p hp z => ?_⟩
 ·obtain ⟨v, q⟩ := I.cell x c e
  exact absurd (Nat.lt_of_lt_of_le q.lt (by rw [z]; exact hb)) (Nat.lt_irrefl _)
 ·exact absurd (Nat.lt_of_lt_of_le (Heap.lt_size (I.pin p hp).1) (by rw [z]; exact hb)) (Nat.lt_irrefl _)
structure Turn (P : Program) (w : World) (K : PySem.W.Frag) (tg : Expr) (J : It) (fp : List Addr) (it : Addr) (tn : Nat → Heap → Prop) : Prop where
 mem : it ∈ fp
 obj : ∀ i h, tn i h → ∀ b ∈ fp, ∃ o, h.get? b = some o ∧ ∀ v, o.data ≠ .cell v
 keep : ∀ i h h', tn i h → (∀ b ∈ fp, ∀ o, h.get? b = some o → h'.get? b = some o) → tn i h'
 item : ∀ (X : Cx), X.prog = P → X.w = w → X.K = K → X.calm = true → ∀ (i : Nat) (pins : List (Addr × Obj)) (s : Shared) (σ : St) (H : Hp) (E : Value → Shared → Prop), Inv X pins σ H s → (∀ b ∈ fp, FpOk X pins H b) → tn i s.heap → J.go i H →
  wpAny (model P w) X.A (pyNext (.ref it)) (fun r s1 => ∃ u, r = some u ∧
   wpAny (model P w) X.A (letOwnedTupleGo tg (.ref it) u) (fun _ s2 => ∃ x H', Inv X pins σ H' s2 ∧ RelV x u ∧ J.yld i H x H' ∧ tn (i + 1) s2.heap ∧ ∀ b ∈ fp, H' b = none) E s1) E s
 done : ∀ (X : Cx), X.prog = P → X.w = w → X.K = K → X.calm = true → ∀ (i : Nat) (pins : List (Addr × Obj)) (s : Shared) (σ : St) (H : Hp) (E : Value → Shared → Prop), Inv X pins σ H s → (∀ b ∈ fp, FpOk X pins H b) → tn i s.heap → J.stop i H →
  wpAny (model P w) X.A (pyNext (.ref it)) (fun r s1 => r = none ∧ Inv X pins σ H s1) E s
 self : ∀ (A : Around) (i : Nat) (s : Shared) (Q : Value → Shared → Prop) (E : Value → Shared → Prop), tn i s.heap → Q (.ref it) s → wpAny (model P w) A (pyIter (.ref it)) Q E s
noncomputable abbrev TI := St → Hp → (It → Hp → Prop) → Prop
noncomputable def PIE (X : Cx) (pins : List (Addr × Obj)) (σ : St) (tg : Expr) (R : It → Hp → Prop) (itv : Value) (s2 : Shared) : Prop :=
 ∃ (it : Addr) (fp : List Addr) (tn : Nat → Heap → Prop) (J : It) (H' : Hp), itv = .ref it ∧ Inv X pins σ H' s2 ∧ Turn X.prog X.w X.K tg J fp it tn ∧ tn 0 s2.heap ∧ (∀ b ∈ fp, FpOk X pins H' b) ∧ R J H'
noncomputable def PI (X : Cx) (tg iter : Expr) (wi : TI) : Prop :=
 ∀ (pins : List (Addr × Obj)) (s : Shared) (σ : St) (H : Hp) (R : It → Hp → Prop), Inv X pins σ H s → wi σ H R →
  wpAny (model X.prog X.w) X.A (eval iter X.env) (fun v s1 => wpAny (model X.prog X.w) X.A (pyIter v) (PIE X pins σ tg R) X.xe s1) X.xe s
theorem go_of {M : Model} {A : Around} {E : Value → Shared → Prop} {s : Shared} {tg : Expr} {it : Addr} {u : Value} {o : Obj} {n : String} {vs : Array Value} {Q : Unit → Shared → Prop} (ho : s.heap.get? it = some o) (hc : o.cls = .type n) (hd : o.data = .fields vs)
    (hn : ["enumerate", "zip", "dict_itemiterator", "dict_reverseitemiterator", "odict_iterator", "itertools.zip_longest", "itertools.pairwise"].contains n = false) (hQ : Q () s) : wpAny M A (letOwnedTupleGo tg (.ref it) u) Q E s := by
  unfold letOwnedTupleGo
  cases tg <;> first
    | exact wpAny_pure hQ
    | (cases u <;> first
        | exact wpAny_pure hQ
        | (refine wpAny_bind (wpAny_load ho ?_)
           rw [hc, hd]
           show wpAny M A (if (["enumerate", "zip", "dict_itemiterator", "dict_reverseitemiterator", "odict_iterator", "itertools.zip_longest", "itertools.pairwise"].contains n && vs[0]? == some (rawInt _)) = true then _ else _) Q E s
           rw [if_neg (by intro h; rw [hn, Bool.false_and] at h; cases h)]
           exact wpAny_pure hQ))
noncomputable def Itl (K : PySem.W.Frag) (a : Addr) : It :=
 ⟨fun i H => ∃ xs x, SqL K H a xs ∧ xs[i]? = some x, fun i H x H' => H' = H ∧ ∀ xs, SqL K H a xs → xs[i]? = some x, fun i H => ∃ xs, SqL K H a xs ∧ xs.length ≤ i⟩
noncomputable def Itt (K : PySem.W.Frag) (a : Addr) : It :=
 ⟨fun i H => ∃ xs x, SqT K H a xs ∧ xs[i]? = some x, fun i H x H' => H' = H ∧ ∀ xs, SqT K H a xs → xs[i]? = some x, fun i H => ∃ xs, SqT K H a xs ∧ xs.length ≤ i⟩
noncomputable def Itr (lo : Int) (n : Nat) : It := ⟨fun i _ => i < n, fun i H x H' => H' = H ∧ x = .int (lo + i), fun i _ => n ≤ i⟩
theorem turn_list {P : Program} {w : World} {K : PySem.W.Frag} {tg : Expr} (a it : Addr) : Turn P w K tg (Itl K a) [it] it (fun i h => h.IsListIter it a i) where
 mem := by simp
 obj := fun i h st b hb => by
  have e : b = it := by simpa using hb
  subst e
  obtain ⟨o, e, c, d⟩ := st
  exact ⟨o, e, fun v z => by rw [d] at z; cases z⟩
 keep := fun i h h' st k => st.at fun o e => k it (by simp) o e
 item := by
  intro X hP hw hK hc i pins s σ H E I hf st hg
  subst hP hw hK
  obtain ⟨xs, x, hq, hx⟩ := hg
  obtain ⟨its, rv, p, hz⟩ := I.list hq
  obtain ⟨u, hu, ru⟩ := rv.get hx
  obtain ⟨f0, f1, f2, f3, f4, f5⟩ := hf it (by simp)
  refine wpAny_pyNext_list_item st p.isList (x := u) (by simpa using hu) fun h' st' sb => ?_
  have I1 : Inv X pins σ H { s with heap := h' } := I.turned (t' := s.toks) (fun b o hb e => (sb.2 b hb).trans e) f0 f1 f3 f4 f5
  obtain ⟨o, e, c, d⟩ := id st'
  exact ⟨u, rfl, go_of (s := { s with heap := h' }) e c d (by decide) ⟨x, H, I1, ru, ⟨rfl, fun ys hy => by rw [I.list_inj hy hq]; exact hx⟩, st', fun b hb => (hf b hb).1⟩⟩
 done := by
  intro X hP hw hK hc i pins s σ H E I hf st hg
  subst hP hw hK
  obtain ⟨xs, hq, hx⟩ := hg
  obtain ⟨its, rv, p, hz⟩ := I.list hq
  obtain ⟨f0, f1, f2, f3, f4, f5⟩ := hf it (by simp)
  have hl := rv.length
  exact wpAny_pyNext_list_end (I.ok.hd hc) st p.isList (by simp; omega) fun h' eb => ⟨rfl, I.turned (t' := s.toks) (fun b o hb e => eb b o hb e) f0 f1 f3 f4 f5⟩
 self := fun _ _ _ _ _ st h => wpAny_pyIter_listiter st h
theorem turn_tuple {P : Program} {w : World} {K : PySem.W.Frag} {tg : Expr} (a it : Addr) : Turn P w K tg (Itt K a) [it] it (fun i h => h.IsTupleIter it a i) where
 mem := by simp
 obj := fun i h st b hb => by
  have e : b = it := by simpa using hb
  subst e
  obtain ⟨o, e, c, d⟩ := st
  exact ⟨o, e, fun v z => by rw [d] at z; cases z⟩
 keep := fun i h h' st k => st.at fun o e => k it (by simp) o e
 item := by
  intro X hP hw hK hc i pins s σ H E I hf st hg
  subst hP hw hK
  obtain ⟨xs, x, hq, hx⟩ := hg
  obtain ⟨its, rv, p, hz⟩ := I.tuple hq
  obtain ⟨u, hu, ru⟩ := rv.get hx
  obtain ⟨f0, f1, f2, f3, f4, f5⟩ := hf it (by simp)
  refine wpAny_pyNext_tuple_item st (show s.heap.IsTuple a its.toArray from p) (x := u) (by simpa using hu) fun h' st' sb => ?_
  have I1 : Inv X pins σ H { s with heap := h' } := I.turned (t' := s.toks) (fun b o hb e => (sb.2 b hb).trans e) f0 f1 f3 f4 f5
  obtain ⟨o, e, c, d⟩ := id st'
  exact ⟨u, rfl, go_of (s := { s with heap := h' }) e c d (by decide) ⟨x, H, I1, ru, ⟨rfl, fun ys hy => by rw [I.tuple_inj hy hq]; exact hx⟩, st', fun b hb => (hf b hb).1⟩⟩
 done := by
  intro X hP hw hK hc i pins s σ H E I hf st hg
  subst hP hw hK
  obtain ⟨xs, hq, hx⟩ := hg
  obtain ⟨its, rv, p, hz⟩ := I.tuple hq
  obtain ⟨f0, f1, f2, f3, f4, f5⟩ := hf it (by simp)
  have hl := rv.length
  exact wpAny_pyNext_tuple_end (I.ok.hd hc) st (show s.heap.IsTuple a its.toArray from p) (by simp; omega) fun h' eb => ⟨rfl, I.turned (t' := s.toks) (fun b o hb e => eb b o hb e) f0 f1 f3 f4 f5⟩
 self := fun _ _ _ _ _ st h => wpAny_pyIter_tupleiter st h
theorem turn_range {P : Program} {w : World} {K : PySem.W.Frag} {tg : Expr} (it : Addr) (lo : Int) (n : Nat) : Turn P w K tg (Itr lo n) [it] it (fun i h => IsRangeIter h it (lo + (i : Nat) * 1) ((n : Int) - (i : Nat)) 1) where
 mem := by simp
 obj := fun i h st b hb => by
  have e : b = it := by simpa using hb
  subst e
  exact ⟨_, st, fun v z => by
   have z' : Data.fields _ = Data.cell v := z
   cases z'⟩
 keep := fun i h h' st k => k it (by simp) _ st
 item := by
  intro X hP hw hK hc i pins s σ H E I hf st hg
  subst hP hw hK
  obtain ⟨f0, f1, f2, f3, f4, f5⟩ := hf it (by simp)
  have W := Walks.range (prog := X.prog) (w := X.w) (I.ok.hd hc) it lo 1 n
  refine W.item i s _ _ hg st fun v h' tk hv st' kk => ?_
  obtain ⟨t, rfl⟩ := hv
  have I1 : Inv X pins σ H { s with heap := h', toks := tk } := I.turned (fun b o hb e => kk b o (by simpa using hb) e) f0 f1 f3 f4 f5
  refine ⟨_, rfl, go_of (s := { s with heap := h', toks := tk }) (n := "range_iterator") st' rfl rfl (by decide) ⟨.int (lo + i), H, I1, ⟨t, ?_⟩, ⟨rfl, rfl⟩, st', fun b hb => (hf b hb).1⟩⟩
  rw [Int.mul_one]
 done := by
  intro X hP hw hK hc i pins s σ H E I hf st hg
  subst hP hw hK
  obtain ⟨f0, f1, f2, f3, f4, f5⟩ := hf it (by simp)
  exact wpAny_pyNext_range_end (I.ok.hd hc) st (by have : n ≤ i := hg; omega) fun h' eb => ⟨rfl, I.turned (t' := s.toks) (fun b o hb e => eb b o hb e) f0 f1 f3 f4 f5⟩
 self := fun _ _ _ _ _ st h => wpAny_pyIter_rangeiter st h
end L2
namespace L2
open PySem PySem.Spec PyProof.Rows
section
variable {X : Cx} {tg : Expr}
theorem range_it {pins : List (Addr × Obj)} {σ : St} {H : Hp} {s : Shared} {R : It → Hp → Prop} {E : Value → Shared → Prop} {lo hi : Int} {t u v : Tok} {tk : Nat} (I : Inv X pins σ H s) (h1 : -(2 ^ 62) ≤ lo) (h2 : lo < 2 ^ 62) (h3 : -(2 ^ 62) ≤ hi) (h4 : hi < 2 ^ 62)
  (q : R (Itr lo (hi - lo).toNat) H) : wpAny (model X.prog X.w) X.A (pyIter (.ref s.heap.objs.size)) (PIE X pins σ tg R) E { s with heap := s.heap.push { cls := .type "range", data := .fields #[.int lo t, .int hi u, .int 1 v] }, toks := tk } := by
 refine wpAny_pyIter_range (IsRange.new ..) (small_one h1 h2 h3 h4) ?_
 have I1 : Inv X pins σ H { s with heap := s.heap.push { cls := .type "range", data := .fields #[.int lo t, .int hi u, .int 1 v] }, toks := tk } := I.kept fun b o e => Heap.get?_push_of_some _ e
 refine ⟨(s.heap.push { cls := .type "range", data := .fields #[.int lo t, .int hi u, .int 1 v] }).objs.size, [(s.heap.push { cls := .type "range", data := .fields #[.int lo t, .int hi u, .int 1 v] }).objs.size], _, _, H, rfl,
  I1.kept (t' := tk) fun b o e => Heap.get?_push_of_some _ e, turn_range _ lo (hi - lo).toNat, ?_, fun b hb => ?_, q⟩
 ·have e1 : lo + ((0 : Nat) : Int) * 1 = lo := by simp
  have e2 : (((hi - lo).toNat : Nat) : Int) - ((0 : Nat) : Int) = Builtin.Range.rangeSize lo hi 1 := by rw [rangeSize_one]; split <;> omega
  show IsRangeIter _ _ (lo + ((0 : Nat) : Int) * 1) ((((hi - lo).toNat : Nat) : Int) - ((0 : Nat) : Int)) 1
  rw [e1, e2]
  exact Heap.get?_push_size _ rfl
 ·have e : b = (s.heap.push { cls := .type "range", data := .fields #[.int lo t, .int hi u, .int 1 v] }).objs.size := by simpa using hb
  subst e
  exact I1.fpOk (Nat.le_refl _) (I1.hok.fresh (Nat.le_refl _))
noncomputable def iRng1 (ta : TA) : TI := fun σ H R => ta σ H fun vs H1 => ∃ j : Int, vs = [.int j] ∧ -(2 ^ 62) ≤ j ∧ j < 2 ^ 62 ∧ R (Itr 0 j.toNat) H1
noncomputable def iRng2 (ta : TA) : TI := fun σ H R => ta σ H fun vs H1 => ∃ i j : Int, vs = [.int i, .int j] ∧ (-(2 ^ 62) ≤ i ∧ i < 2 ^ 62 ∧ -(2 ^ 62) ≤ j ∧ j < 2 ^ 62) ∧ R (Itr i (j - i).toNat) H1
theorem pi_range1 {a : Expr} {ta : TA} {p pos : Pos} (hg : Gl X "range") (hm : X.mg "range" = none) (ha : PA X [a] ta) (hs : starEach [a] X.env = [(false, eval a X.env)] := by rfl) : PI X tg (.Call (.Name "range" p) [a] [] pos) (iRng1 ta) := by
 intro pins s σ H R I h
 refine Call_ (ld_blt I hg hm boot_range (PyProof.Rows.callWith_type1 (thn (ha pos pins s σ H _ I h) fun us s1 ⟨vs, H1, I1, r1, q1⟩ => ?_) hs rfl))
 obtain ⟨j, e, q1, q2, q⟩ := q1
 subst e
 cases r1 with
 | cons r rr =>
  cases rr
  obtain ⟨t, rfl⟩ := r
  exact call_range_1 (range_it I1 (by omega) (by omega) q1 q2 (by simpa using q))
theorem pi_range2 {a b : Expr} {ta : TA} {p pos : Pos} (hg : Gl X "range") (hm : X.mg "range" = none) (ha : PA X [a, b] ta) (hs : starEach [a, b] X.env = [(false, eval a X.env), (false, eval b X.env)] := by rfl) (hs2 : starEach [b] X.env = [(false, eval b X.env)] := by rfl) :
  PI X tg (.Call (.Name "range" p) [a, b] [] pos) (iRng2 ta) := by
 intro pins s σ H R I h
 refine Call_ (ld_blt I hg hm boot_range (PyProof.Rows.callWith_type1 (thn (ha pos pins s σ H _ I h) fun us s1 ⟨vs, H1, I1, r1, q1⟩ => ?_) (by rw [hs, hs2]) (by rw [hs2]; rfl)))
 obtain ⟨i, j, e, ⟨q1, q2, q3, q4⟩, q⟩ := q1
 subst e
 cases r1 with
 | cons r rr =>
  cases rr with
  | cons r' rr =>
   cases rr
   obtain ⟨t, rfl⟩ := r
   obtain ⟨t', rfl⟩ := r'
   exact call_range_2 (range_it I1 q1 q2 q3 q4 q)
noncomputable def tFor (wi : TI) (g : TG) (tb : TS) : TS := fun D σ H => wi σ H fun J H1 => ∃ W : Nat → Nat → St → Hp → Prop, (∃ m, W 0 m σ H1) ∧ ∀ i m σ H, W i m σ H →
 (J.stop i H ∧ D.nx σ H) ∨ (J.go i H ∧ ∃ N : St → Hp → Prop, (∀ σ' H', N σ' H' → ∃ m', m' < m ∧ W (i + 1) m' σ' H') ∧ ∀ x H', J.yld i H x H' → g x σ H' fun σ2 H2 => tb { D with nx := N, ct := N, bk := D.nx } σ2 H2)
noncomputable def pinsAt (fp : List Addr) (h : Heap) : List (Addr × Obj) := fp.filterMap fun b => (h.get? b).map fun o => (b, o)
theorem mem_pinsAt {fp : List Addr} {h : Heap} {b : Addr} {o : Obj} (hb : b ∈ fp) (e : h.get? b = some o) : (b, o) ∈ pinsAt fp h := List.mem_filterMap.mpr ⟨b, hb, by rw [e]; rfl⟩
theorem of_pinsAt {fp : List Addr} {h : Heap} {p : Addr × Obj} (hp : p ∈ pinsAt fp h) : p.1 ∈ fp ∧ h.get? p.1 = some p.2 := by
 obtain ⟨b, hb, e⟩ := List.mem_filterMap.mp hp
 cases q : h.get? b with
 | none => rw [q] at e; cases e
 | some o =>
  rw [q] at e
  have e' : (b, o) = p := Option.some.inj e
  subst e'
  exact ⟨hb, q⟩
theorem Inv.pinned {pins : List (Addr × Obj)} {σ : St} {H : Hp} {s : Shared} {fp : List Addr} (I : Inv X pins σ H s) (hf : ∀ b ∈ fp, FpOk X pins H b) (ho : ∀ b ∈ fp, ∃ o, s.heap.get? b = some o ∧ ∀ v, o.data ≠ .cell v) : Inv X (pins ++ pinsAt fp s.heap) σ H s :=
 I.pins_of fun p hp => (List.mem_append.mp hp).elim (fun z => I.pin p (List.mem_append_right _ z)) fun z => by
  obtain ⟨hb, e⟩ := of_pinsAt z
  obtain ⟨f0, f1, f2, _⟩ := hf p.1 hb
  obtain ⟨o, e', d⟩ := ho p.1 hb
  rw [e] at e'; cases e'
  exact ⟨e, f0, f1, f2, d⟩
theorem Inv.unpinned {pins pl : List (Addr × Obj)} {σ : St} {H : Hp} {s : Shared} (I : Inv X (pins ++ pl) σ H s) : Inv X pins σ H s := I.pins_of fun p hp => I.pin p (List.mem_append_right _ (List.mem_append_left _ hp))
theorem ps_for {iter : Expr} {body : List Stmt} {wi : TI} {g : TG} {tb : TS} {pos : Pos} (hp : PassesOwn (model X.prog X.w) X.A X.env X.xe) (hc : X.calm = true) (hi : PI X tg iter wi) (hg : PG X tg g) (hb : PSs X body tb)
  (hs : ∀ x, foldedSetIterable iter X.env x = pure x := by intro _; rfl) : PS X (.For tg iter body [] pos) (tFor wi g tb) := by
 intro pins s σ H D I h
 refine wpAny_For (thn (hi pins s σ H _ I h) fun v s1 h1 => thn h1 fun itv s2 h2 => ?_) hs
 obtain ⟨it, fp, tn, J, H2, e, I2, T, st2, f2, W, ⟨m0, w0⟩, turn⟩ := h2
 subst e
 -- what stays true of the iterator's objects through the loop
 have stat : ∀ {H' : Hp}, (∀ b ∈ fp, H' b = none) → ∀ b ∈ fp, FpOk X pins H' b := fun hn b hb => ⟨hn b hb, (f2 b hb).2⟩
 refine codeAny_forLoop_any (fun n s' => ∃ i σ' H', Inv X pins σ' H' s' ∧ tn i s'.heap ∧ (∀ b ∈ fp, H' b = none) ∧ W i n σ' H') ?_ m0 ⟨0, σ, H2, I2, st2, fun b hb => (f2 b hb).1, w0⟩
 rintro n s3 ⟨i, σ3, H3, I3, st3, fr3, w3⟩
 rcases turn i n σ3 H3 w3 with ⟨stop, qn⟩ | ⟨go, N, hN, step⟩
 ·refine wpAny_passesOwn hp (thn (T.done X rfl rfl rfl hc i pins s3 σ3 H3 X.xe I3 (stat fr3) st3 stop) fun r s4 ⟨hr, I4⟩ => ?_)
  subst hr
  exact wpAny_execs_nil ⟨σ3, H3, I4, qn⟩
 ·refine wpAny_passesOwn hp (thn (T.item X rfl rfl rfl hc i pins s3 σ3 H3 X.xe I3 (stat fr3) st3 go) fun r s4 ⟨u, hr, h4⟩ => ?_)
  subst hr
  refine wpAny_passesOwn hp (thn h4 fun _ s5 ⟨x, H5, I5, r5, y5, st5, fr5⟩ => ?_)
  have I5' := I5.pinned (stat fr5) (T.obj _ _ st5)
  refine wpAny_passesOwn hp (thn (hg _ s5 σ3 H5 x u _ I5' r5 (step x H5 y5)) fun _ s6 ⟨σ6, H6, I6, q6⟩ => ?_)
  refine wpAny_passesOwn hp (thn (hb _ s6 σ6 H6 _ I6 q6) fun f s7 q7 => ?_)
  have again : ∀ {σ7 : St} {H7 : Hp}, Inv X (pins ++ pinsAt fp s5.heap) σ7 H7 s7 → N σ7 H7 → ∃ m, m < n ∧ ∃ i σ' H', Inv X pins σ' H' s7 ∧ tn i s7.heap ∧ (∀ b ∈ fp, H' b = none) ∧ W i m σ' H' := fun {σ7 H7} I7 n7 => by
   obtain ⟨m', hm, w7⟩ := hN σ7 H7 n7
   refine ⟨m', hm, i + 1, σ7, H7, I7.unpinned, T.keep _ _ _ st5 fun b hb o e => (I7.pin (b, o) (List.mem_append_right _ (List.mem_append_right _ (mem_pinsAt hb e)))).1, fun b hb => ?_, w7⟩
   obtain ⟨o, e, d⟩ := T.obj _ _ st5 b hb
   exact (I7.pin (b, o) (List.mem_append_right _ (List.mem_append_right _ (mem_pinsAt hb e)))).2.1
  cases f with
  | next => obtain ⟨σ7, H7, I7, n7⟩ := q7; exact again I7 n7
  | cont => obtain ⟨σ7, H7, I7, n7⟩ := q7; exact again I7 n7
  | brk => obtain ⟨σ7, H7, I7, q7⟩ := q7; exact ⟨σ7, H7, I7.unpinned, q7⟩
  | ret v => obtain ⟨x7, σ7, H7, I7, r7, q7⟩ := q7; exact ⟨x7, σ7, H7, I7.unpinned, r7, q7⟩
end
end L2
namespace L2
open PySem PySem.Spec PyProof.Rows
noncomputable abbrev R2 := V → V → Hp → VK → Prop
noncomputable def OpR (X : Cx) (f : Value → Value → Sem Value) (r : R2) : Prop :=
 ∀ (pins : List (Addr × Obj)) (s : Shared) (σ : St) (H : Hp) (x y : V) (v u : Value) (Q : VK), Inv X pins σ H s → RelV x v → RelV y u → r x y H Q →
  wpAny (model X.prog X.w) X.A (f v u) (EP X pins σ Q) X.xe s
noncomputable def CallR (X : Cx) (f : Value) (r : List V → Hp → VK → Prop) : Prop :=
 ∀ (pins : List (Addr × Obj)) (s : Shared) (σ : St) (H : Hp) (xs : List V) (us : List Value) (Q : VK), Inv X pins σ H s → Vals xs us → r xs H Q →
  wpAny (model X.prog X.w) X.A (call f us) (EP X pins σ Q) X.xe s
noncomputable def TruR (X : Cx) (r : V → Hp → (Bool → Hp → Prop) → Prop) : Prop :=
 ∀ (pins : List (Addr × Obj)) (s : Shared) (σ : St) (H : Hp) (x : V) (v : Value) (Q : Bool → Hp → Prop), Inv X pins σ H s → RelV x v → r x H Q →
  wpAny (model X.prog X.w) X.A (truthy v) (TP X pins σ Q) X.xe s
noncomputable def tOp (r : R2) (ta tb : TE) : TE := fun σ H Q => ta σ H fun x H1 => tb σ H1 fun y H2 => r x y H2 Q
noncomputable def rI (C : Int → Int → Prop) (g : Int → Int → V) : R2 := fun x y H Q => ∃ i j, x = .int i ∧ y = .int j ∧ C i j ∧ Q (g i j) H
noncomputable def rI0 (g : Int → Int → V) : R2 := fun x y H Q => ∃ i j, x = .int i ∧ y = .int j ∧ Q (g i j) H
section
variable {X : Cx} {a b c : Expr} {ta tb tc : TE} {pos : Pos}
theorem binT (ha : PE X a ta) (hb : PE X b tb) {pins : List (Addr × Obj)} {s : Shared} {σ : St} {H : Hp} {R : V → V → Hp → Prop} (I : Inv X pins σ H s)
  (h : ta σ H fun x H1 => tb σ H1 fun y H2 => R x y H2) {Q : Value → Shared → Prop} {f : Value → Value → Sem Value}
  (hf : ∀ v u s2 x y H2, Inv X pins σ H2 s2 → RelV x v → RelV y u → R x y H2 → wpAny (model X.prog X.w) X.A (f v u) Q X.xe s2) :
  wpAny (model X.prog X.w) X.A (eval a X.env) (fun v s₁ => wpAny (model X.prog X.w) X.A (eval b X.env) (fun u s₂ => wpAny (model X.prog X.w) X.A (f v u) Q X.xe s₂) X.xe s₁) X.xe s := by
 refine thn (ha pins s σ H _ I h) fun v s1 ⟨x, H1, I1, r1, q1⟩ => ?_
 refine thn (hb pins s1 σ H1 _ I1 q1) fun u s2 ⟨y, H2, I2, r2, q2⟩ => ?_
 exact hf v u s2 x y H2 I2 r1 r2 q2
theorem pe_op {op : Operator} {r : R2} (ho : OpR X (binaryOp op) r) (ha : PE X a ta) (hb : PE X b tb) : PE X (.BinOp a op b pos) (tOp r ta tb) := by
 intro pins s σ H Q I h
 exact wpAny_BinOp (binT ha hb I h fun v u s2 x y H2 I2 rx ry q => ho pins s2 σ H2 x y v u Q I2 rx ry q)
theorem opI {f : Value → Value → Sem Value} {C : Int → Int → Prop} {g : Int → Int → Int}
  (rule : ∀ (i j : Int) (t u : Tok) (s : Shared) (Q : Value → Shared → Prop) (E : Value → Shared → Prop), C i j → Q (.int (g i j) s.toks) { s with toks := s.toks + 1 } → wpAny (model X.prog X.w) X.A (f (.int i t) (.int j u)) Q E s) :
  OpR X f (rI C fun i j => .int (g i j)) := by
 intro pins s σ H x y v u Q I rx ry h
 obtain ⟨i, j, rfl, rfl, hc, q⟩ := h
 obtain ⟨t, rfl⟩ := rx
 obtain ⟨t', rfl⟩ := ry
 exact rule i j t t' s _ _ hc ⟨.int (g i j), H, I.tok _, ⟨_, rfl⟩, q⟩
theorem opI0 {f : Value → Value → Sem Value} {g : Int → Int → Int}
  (rule : ∀ (i j : Int) (t u : Tok) (s : Shared) (Q : Value → Shared → Prop) (E : Value → Shared → Prop), Q (.int (g i j) s.toks) { s with toks := s.toks + 1 } → wpAny (model X.prog X.w) X.A (f (.int i t) (.int j u)) Q E s) :
  OpR X f (rI0 fun i j => .int (g i j)) := by
 intro pins s σ H x y v u Q I rx ry h
 obtain ⟨i, j, rfl, rfl, q⟩ := h
 obtain ⟨t, rfl⟩ := rx
 obtain ⟨t', rfl⟩ := ry
 exact rule i j t t' s _ _ ⟨.int (g i j), H, I.tok _, ⟨_, rfl⟩, q⟩
noncomputable def CDiv (i j : Int) : Prop := 0 < j ∧ j < 1073741824
noncomputable def CPow (i j : Int) : Prop := 0 ≤ j ∧ j ≤ 1000000 ∧ i.natAbs < 2 ^ 64
noncomputable def CMul (i j : Int) : Prop := (-(2 ^ 64) < i ∧ i < 2 ^ 64) ∨ (-(2 ^ 64) < j ∧ j < 2 ^ 64)
theorem CMul.ok {i j : Int} (h : CMul i j) : IntMulOk i j := by
 rcases h with ⟨h1, h2⟩ | ⟨h1, h2⟩
 ·exact .of_left (intBits_le_64 h1 h2)
 ·exact .of_right (intBits_le_64 h1 h2)
theorem op_add : OpR X (binaryOp .Add) (rI0 fun i j => .int (i + j)) := opI0 fun _ _ _ _ _ _ _ q => add_int q
theorem op_sub : OpR X (binaryOp .Sub) (rI0 fun i j => .int (i - j)) := opI0 fun _ _ _ _ _ _ _ q => sub_int q
theorem op_mul : OpR X (binaryOp .Mult) (rI CMul fun i j => .int (i * j)) := opI fun _ _ _ _ _ _ _ hc q => mul_int q hc.ok
theorem op_fdiv : OpR X (binaryOp .FloorDiv) (rI CDiv fun i j => .int (i / j)) := opI fun i j _ _ _ _ _ hc q => by
 have h1 : (0 : Int) < j := hc.1
 have h2 : j < 1073741824 := hc.2
 exact floordiv_int (by omega) (by rw [Int.fdiv_eq_ediv_of_nonneg i (by omega)]; exact q) (.inl (PyProof.noPylong_small (by omega)))
theorem op_mod : OpR X (binaryOp .Mod) (rI (fun _ j => 0 < j) fun i j => .int (i % j)) := opI fun i j _ _ _ _ _ hc q => by
 have h1 : (0 : Int) < j := hc
 exact mod_int' (by omega) (by rw [Int.fmod_eq_emod_of_nonneg i (by omega)]; exact q)
theorem op_pow : OpR X (binaryOp .Pow) (rI CPow fun i j => .int (i ^ j.toNat)) := opI fun _ _ _ _ _ _ _ hc q => pow_int_small hc.1 hc.2.1 hc.2.2 q
end
section
variable {X : Cx} {a b c : Expr} {ta tb tc : TE} {pos : Pos}
theorem pe_cmpR {op : CmpOp} {r : R2} (ho : OpR X (compareOp op) r) (ha : PE X a ta) (hb : PE X b tb) (hm : behindInMarks op b = false) : PE X (.Compare a [op] [b] pos) (tOp r ta tb) := by
 intro pins s σ H Q I h
 exact wpAny_Compare1 (binT ha hb I h fun v u s2 x y H2 I2 rx ry q => ho pins s2 σ H2 x y v u Q I2 rx ry q) hm
noncomputable def tTest (t : TE) : TT := fun σ H Q => t σ H fun x H' => ∃ k, x = .bl k ∧ Q k H'
theorem pt_cmpR {op : CmpOp} {r : R2} (ho : OpR X (compareOp op) r) (ha : PE X a ta) (hb : PE X b tb) (hm : behindInMarks op b = false) : PT X (.Compare a [op] [b] pos) (tTest (tOp r ta tb)) := by
 intro pins s σ H Q I h
 refine wpAny_isTrue_Compare1 (thn (ha pins s σ H _ I h) fun v s1 ⟨x, H1, I1, r1, q1⟩ => thn (hb pins s1 σ H1 _ I1 q1) fun u s2 ⟨y, H2, I2, r2, q2⟩ =>
  thn (ho pins s2 σ H2 x y v u _ I2 r1 r2 q2) fun c s3 ⟨z, H3, I3, r3, k, e, q3⟩ => ?_) hm
 subst e
 cases r3
 exact wpAny_truthy_bool ⟨H3, I3, q3⟩
noncomputable def TruV (K : PySem.W.Frag) (x : V) (H : Hp) (k : Bool) : Prop :=
 match x with
 | .non => k = false
 | .bl b => k = b
 | .int i => k = (i != 0)
 | .str y => y.length ≤ sizeLine ∧ k = ((y.length : Int) != 0)
 | .byt y => y.size ≤ sizeLine ∧ k = ((y.size : Int) != 0)
 | .ref p => (∃ xs, SqL K H p xs ∧ k = !xs.isEmpty) ∨ (∃ xs, SqT K H p xs ∧ k = !xs.isEmpty) ∨ ∃ kvs, H p = some (.dK kvs) ∧ k = !kvs.isEmpty
 | _ => False
theorem isEmpty_kv {κ : Type} {kvs : List (κ × V)} {vs : List (κ × Value)} (r : KV kvs vs) : (!vs.isEmpty) = !kvs.isEmpty := by
 cases r <;> rfl
theorem isEmpty_of {xs : List V} {its : List Value} (r : Vals xs its) : (!its.toArray.isEmpty) = !xs.isEmpty := by
 cases r <;> simp
theorem line63 : (sizeLine : Nat) < 2 ^ 63 := by rw [sizeLine_eq]; decide
theorem tru_ok : TruR X (fun x H Q => ∃ k, TruV X.K x H k ∧ Q k H) := by
 intro pins s σ H x v Q I rx h
 obtain ⟨k, e, q⟩ := h
 have hl := line63
 have hs : sizeLine = 16777216 := sizeLine_eq
 cases x with
 | non =>
  cases rx
  have e' : k = false := e
  subst e'
  exact truthy_none ⟨H, I, q⟩
 | bl b =>
  cases rx
  have e' : k = b := e
  subst e'
  exact wpAny_truthy_bool ⟨H, I, q⟩
 | int i =>
  obtain ⟨t, rfl⟩ := rx
  have e' : k = (i != 0) := e
  subst e'
  exact PySem.P.truthy_int ⟨H, I, q⟩
 | str y =>
  obtain ⟨t, rfl⟩ := rx
  obtain ⟨hy, e'⟩ : y.length ≤ sizeLine ∧ k = ((y.length : Int) != 0) := e
  subst e'
  exact PySem.P.truthy_str (by omega) ⟨H, I.tok _, q⟩
 | byt y =>
  obtain ⟨t, rfl⟩ := rx
  obtain ⟨hy, e'⟩ : y.size ≤ sizeLine ∧ k = ((y.size : Int) != 0) := e
  subst e'
  exact PySem.W.truthy_bytes (by omega) ⟨H, I.tok _, q⟩
 | ref p =>
  cases rx
  have e' : (∃ xs, SqL X.K H p xs ∧ k = !xs.isEmpty) ∨ (∃ xs, SqT X.K H p xs ∧ k = !xs.isEmpty) ∨ ∃ kvs, H p = some (.dK kvs) ∧ k = !kvs.isEmpty := e
  rcases e' with ⟨xs, hx, e'⟩ | ⟨xs, hx, e'⟩ | ⟨kvs, hx, e'⟩
  ·subst e'
   obtain ⟨its, r, pl, hz⟩ := I.list hx
   have hlen := r.length
   exact wpAny_truthy_list pl.isList (by simp only [List.size_toArray]; omega) ⟨H, I.tok _, by rw [isEmpty_of r]; exact q⟩
  ·subst e'
   obtain ⟨its, r, pl, hz⟩ := I.tuple hx
   have hlen := r.length
   exact truthy_tuple pl (by simp only [List.size_toArray]; omega) ⟨H, I.tok _, by rw [isEmpty_of r]; exact q⟩
  ·subst e'
   obtain ⟨hz, hS, vs, r, m⟩ : kvs.length ≤ sizeLine ∧ (p == sysModules) = false ∧ ∃ vs, KV kvs vs ∧ s.heap.DictOf (mixKind X.prog X.w) p vs := I.hok p _ hx
   have hlen : kvs.length = vs.length := Paired.length r
   exact wpAny_truthy_dict hS m (by omega) ⟨H, I.tok _, by rw [isEmpty_kv r]; exact q⟩
 | _ => exact (show False from e).elim
theorem op_add_str : OpR X (binaryOp .Add) (fun x y H Q => ∃ i j, x = .str i ∧ y = .str j ∧ i.length + j.length ≤ sizeLine ∧ Q (.str (i ++ j)) H) := by
 intro pins s σ H x y v u Q I rx ry h
 obtain ⟨i, j, rfl, rfl, hz, q⟩ := h
 obtain ⟨t, rfl⟩ := rx
 obtain ⟨t', rfl⟩ := ry
 exact add_str (fun t' tk => ⟨.str (i ++ j), H, I.tok _, ⟨_, rfl⟩, q⟩) hz
theorem vals1 {x : V} {us : List Value} (r : Vals [x] us) : ∃ u, us = [u] ∧ RelV x u := by
 cases r with
 | cons r1 r2 => cases r2; exact ⟨_, rfl, r1⟩
theorem vals2 {x y : V} {us : List Value} (r : Vals [x, y] us) : ∃ u w', us = [u, w'] ∧ RelV x u ∧ RelV y w' := by
 cases r with
 | cons r1 r2 =>
  cases r2 with
  | cons r3 r4 => cases r4; exact ⟨_, _, rfl, r1, r3⟩
theorem call_abs : CallR X (.builtin "abs") (fun xs H Q => ∃ i, xs = [.int i] ∧ Q (.int (if i < 0 then -i else i)) H) := by
 intro pins s σ H xs us Q I r h
 obtain ⟨i, rfl, q⟩ := h
 obtain ⟨u, rfl, t, rfl⟩ := vals1 r
 exact call_abs_int fun u tk => ⟨.int (if i < 0 then -i else i), H, I.tok _, ⟨_, rfl⟩, q⟩
theorem call_max2 (hc : X.calm = true) : CallR X (.builtin "max") (fun xs H Q => ∃ i j, xs = [.int i, .int j] ∧ Q (.int (if j > i then j else i)) H) := by
 intro pins s σ H xs us Q I r h
 obtain ⟨i, j, rfl, q⟩ := h
 obtain ⟨u, w', rfl, ⟨t, rfl⟩, ⟨t', rfl⟩⟩ := vals2 r
 refine max_two_ints (I.ok.hd hc) fun h' tk k => ⟨_, H, I.kept k, ?_, q⟩
 by_cases hj : j > i
 ·rw [if_pos hj, if_pos hj]; exact ⟨_, rfl⟩
 ·rw [if_neg hj, if_neg hj]; exact ⟨_, rfl⟩
theorem call_min2 (hc : X.calm = true) : CallR X (.builtin "min") (fun xs H Q => ∃ i j, xs = [.int i, .int j] ∧ Q (.int (if j < i then j else i)) H) := by
 intro pins s σ H xs us Q I r h
 obtain ⟨i, j, rfl, q⟩ := h
 obtain ⟨u, w', rfl, ⟨t, rfl⟩, ⟨t', rfl⟩⟩ := vals2 r
 refine min_two_ints (I.ok.hd hc) fun h' tk k => ⟨_, H, I.kept k, ?_, q⟩
 by_cases hj : j < i
 ·rw [if_pos hj, if_pos hj]; exact ⟨_, rfl⟩
 ·rw [if_neg hj, if_neg hj]; exact ⟨_, rfl⟩
theorem call_int1 : CallR X (.type "int") (fun xs H Q => (∃ i, xs = [.int i] ∧ Q (.int i) H) ∨ ∃ k, xs = [.bl k] ∧ Q (.int (if k then 1 else 0)) H) := by
 intro pins s σ H xs us Q I r h
 rcases h with ⟨i, rfl, q⟩ | ⟨k, rfl, q⟩
 ·obtain ⟨u, rfl, t, rfl⟩ := vals1 r
  exact call_int_int ⟨.int i, H, I, ⟨_, rfl⟩, q⟩
 ·obtain ⟨u, rfl, r1⟩ := vals1 r
  cases r1
  exact call_int_bool ⟨.int (if k then 1 else 0), H, I.tok _, ⟨_, rfl⟩, q⟩
noncomputable def LenV (K : PySem.W.Frag) (x : V) (H : Hp) (n : Nat) : Prop :=
 match x with
 | .str y => y.length ≤ sizeLine ∧ n = y.length
 | .byt y => y.size ≤ sizeLine ∧ n = y.size
 | .ref p => (∃ xs, SqL K H p xs ∧ n = xs.length) ∨ ∃ xs, SqT K H p xs ∧ n = xs.length
 | _ => False
theorem call_len : CallR X (.builtin "len") (fun xs H Q => ∃ x n, xs = [x] ∧ LenV X.K x H n ∧ Q (.int n) H) := by
 intro pins s σ H xs us Q I r h
 obtain ⟨x, n, rfl, e, q⟩ := h
 obtain ⟨u, rfl, rx⟩ := vals1 r
 have hl := line63
 have hs : sizeLine = 16777216 := sizeLine_eq
 cases x with
 | str y =>
  obtain ⟨t, rfl⟩ := rx
  obtain ⟨hy, e'⟩ : y.length ≤ sizeLine ∧ n = y.length := e
  subst e'
  exact len_str (by omega) ⟨.int _, H, I.tok _, ⟨_, rfl⟩, q⟩
 | byt y =>
  obtain ⟨t, rfl⟩ := rx
  obtain ⟨hy, e'⟩ : y.size ≤ sizeLine ∧ n = y.size := e
  subst e'
  exact PySem.W.len_bytes (by omega) ⟨.int _, H, I.tok _, ⟨_, rfl⟩, q⟩
 | ref p =>
  cases rx
  have e' : (∃ xs, SqL X.K H p xs ∧ n = xs.length) ∨ ∃ xs, SqT X.K H p xs ∧ n = xs.length := e
  rcases e' with ⟨xs, hx, e'⟩ | ⟨xs, hx, e'⟩
  ·subst e'
   obtain ⟨its, r', pl, hz⟩ := I.list hx
   have hlen := r'.length
   exact Calls.call_len_list pl.isList (by simp only [List.size_toArray]; omega) ⟨.int xs.length, H, I.tok _, ⟨_, by simp only [List.size_toArray]; rw [hlen]⟩, q⟩
  ·subst e'
   obtain ⟨its, r', pl, hz⟩ := I.tuple hx
   have hlen := r'.length
   exact len_tuple pl (by simp only [List.size_toArray]; omega) ⟨.int xs.length, H, I.tok _, ⟨_, by simp only [List.size_toArray]; rw [hlen]⟩, q⟩
 | _ => exact (show False from e).elim
end
end L2
namespace L2
open PySem PySem.Spec PyProof.Rows
structure ObjM (h : Heap) (x dx C : Addr) (mA : Str → Option Value) : Prop where
 obj : h.get? x = some (PySem.W.instObj C dx)
 ns : h.Ns1 dx mA
 ne : dx ≠ x
section
variable {prog : Program} {w : World} {A : Around} {E : Value → Shared → Prop} {s : Shared} {K : PySem.W.Frag} {x dx C f : Addr} {mA : Str → Option Value} {name : Str} {v : Value}
end
section
variable {P : Program} {w : World} {H H' : Hp} {h h' : Heap} {a C dx : Addr} {fs fs' : List (Str × V)}
end
structure Cls (K : PySem.W.Frag) (C : Addr) : Prop where
 pg : PySem.W.plainGet K C Str.empty = true
 hd : PySem.W.hasDictIn K C = true
 po : PySem.W.plainOver K C = true
 sa : PySem.W.findIn K (.ref C) "__setattr__" = some (some (.builtin "object.__setattr__"))
structure Con (K : PySem.W.Frag) (C : Addr) (f : Str) (v : V) (u : Value) : Prop where
 at_ : PySem.W.findIn K (.ref C) f = some (some u)
 rel : RelV v u
 get : PySem.W.specialIn K u "__get__" = some none
 cp : PySem.W.copiedNames.contains f = false
structure Meth (K : PySem.W.Frag) (C : Addr) (m : Str) (f : Addr) : Prop where
 at_ : PySem.W.findIn K (.ref C) m = some (some (.ref f))
 fn : PySem.W.isFn K (.ref f) = true
 kp : PySem.W.keepIn K (.ref f) = true
section
variable {X : Cx} {pins : List (Addr × Obj)} {σ : St} {H : Hp} {s : Shared} {a C dx : Addr} {fs : List (Str × V)} {f : Str} {v : V} {A : Around} {E : Value → Shared → Prop}
end
section
variable {X : Cx} {o e value : Expr} {f : Str} {pos pos' tpos : Pos} {ta tv : TE}
end
section
variable {X : Cx} {pins : List (Addr × Obj)} {σ : St} {H : Hp} {s : Shared} {A : Around} {E : Value → Shared → Prop} {Q : Value → Shared → Prop} {c : Value} {b : Bool}
inductive TyOf (K : PySem.W.Frag) (H : Hp) : V → Value → Prop where
 | non : TyOf K H .non (.type "NoneType")
 | bl (x : Bool) : TyOf K H (.bl x) (.type "bool")
 | int (i : Int) : TyOf K H (.int i) (.type "int")
 | str (x : Str) : TyOf K H (.str x) (.type "str")
 | flt (x : UInt64) : TyOf K H (.flt x) (.type "float")
 | lst {a : Addr} {xs : List V} (e : H a = some (.lst xs)) : TyOf K H (.ref a) (.type "list")
 | frz {a : Addr} {o : Obj} {xs : List V} (e : H a = some (.frz o (.lst xs))) : TyOf K H (.ref a) (.type "list")
 | tup {a : Addr} {xs : List V} (e : H a = some (.tup xs)) : TyOf K H (.ref a) (.type "tuple")
 | dK {a : Addr} {kvs : List (Key × V)} (e : H a = some (.dK kvs)) : TyOf K H (.ref a) (.type "dict")
 | dT {a : Addr} {kvs : List (List Key × V)} (e : H a = some (.dT kvs)) : TyOf K H (.ref a) (.type "dict")
 | ins {a C dx : Addr} {fs : List (Str × V)} (e : H a = some (.ins C dx fs)) (cl : Cls K C) (ha : PySem.W.findIn K (.ref C) "__class__" = some (some (.builtin "object.__class__")))
   (hn : PySem.W.specialIn K (.builtin "object.__class__") "__get__" = some (some (.builtin "getset_descriptor.__get__"))) (htk : PySem.W.takesIn K (.builtin "object.__class__") = some true)
   (hm : PySem.W.mroIn K C (.type "object") = some true) : TyOf K H (.ref a) (.ref C)
end
end L2
namespace L2
open PySem PySem.Spec PyProof.Rows
structure Room (k : Nat) (A : Around) : Prop where
 hd : A.handled = none
 dp : A.depth + 3 * k + 5 < recursionLimit
 un : A.units + 16 * k + 200 < cLine
theorem Room.deeper {k : Nat} {A : Around} (r : Room (k + 1) A) (env : Env) : Room k (A.deeper env) :=
 ⟨r.hd, by have := r.dp; show A.depth + 1 + 3 * k + 5 < _; omega, by have := r.un; show A.units + 3 + 16 * k + 200 < _; omega⟩
theorem Room.depth {k : Nat} {A : Around} (r : Room k A) : A.depth < recursionLimit := by have := r.dp; omega
noncomputable def tNil : TA := fun _ H Q => Q [] H
noncomputable def tCons (ta : TE) (tr : TA) : TA := fun σ H Q => ta σ H fun x H1 => tr σ H1 fun xs H2 => Q (x :: xs) H2
section
variable {X : Cx} {e : Expr} {es : List Expr} {te : TE} {t : TA} {pos : Pos}
theorem pa_nil : PA X [] tNil := fun _ _ _ _ H Q I h => Calls.spliced_nil ⟨[], H, I, .nil, h⟩
theorem pa_cons (ha : PE X e te) (hr : PA X es t) (hs : starEach (e :: es) X.env = (false, eval e X.env) :: starEach es X.env := by rfl) : PA X (e :: es) (tCons te t) := by
 intro pos pins s σ H Q I h
 rw [hs]
 show wpAny _ _ (spliced ((false, eval e X.env) :: backTo pos (starEach es X.env))) _ _ s
 refine Calls.spliced_cons (thn (ha pins s σ H _ I h) fun u s1 ⟨x, H1, I1, r1, q1⟩ => ?_)
 exact thn (hr pos pins s1 σ H1 _ I1 q1) fun us s2 ⟨xs, H2, I2, r2, q2⟩ => ⟨x :: xs, H2, I2, .cons r1 r2, q2⟩
noncomputable def tTup (t : TA) : TE := fun σ H Q => t σ H fun xs H1 => xs.length ≤ sizeLine ∧ ∀ p, H1 p = none → Q (.ref p) (upd H1 p (.tup xs))
noncomputable def tLst (t : TA) : TE := fun σ H Q => t σ H fun xs H1 => xs.length ≤ sizeLine ∧ ∀ p, H1 p = none → Q (.ref p) (upd H1 p (.lst xs))
theorem pe_tup {x1} (h : PA X es t) : PE X (.Tuple es x1 pos) (tTup t) := by
 intro pins s σ H Q I hq
 refine wpAny_Tuple_spliced (thn (h pos pins s σ H _ I hq) fun us s1 ⟨xs, H1, I1, r, z, q⟩ => ⟨by rw [← r.length]; exact z, ?_⟩)
 have hf : H1 s1.heap.objs.size = none := I1.hok.fresh (Nat.le_refl _)
 refine ⟨.ref s1.heap.objs.size, upd H1 s1.heap.objs.size (.tup xs), I1.laid (t' := s1.toks) (fun b u e => Heap.get?_push_of_some _ e) (Nat.le_refl _) ?_, rfl, q _ hf⟩
 exact ⟨z, us, r, ⟨_, Heap.get?_push_size _ rfl, rfl, _, rfl⟩⟩
theorem pe_lst (h : PA X es t) : PE X (.List es pos) (tLst t) := by
 intro pins s σ H Q I hq
 refine wpAny_List_spliced (thn (h pos pins s σ H _ I hq) fun us s1 ⟨xs, H1, I1, r, z, q⟩ => ⟨by rw [← r.length]; exact z, ?_⟩)
 have hf : H1 s1.heap.objs.size = none := I1.hok.fresh (Nat.le_refl _)
 refine ⟨.ref s1.heap.objs.size, upd H1 s1.heap.objs.size (.lst xs), I1.laid (t' := s1.toks) (fun b u e => Heap.get?_push_of_some _ e) (Nat.le_refl _) ?_, rfl, q _ hf⟩
 exact ⟨z, us, 0, r, Heap.get?_push_size _ rfl⟩
end
noncomputable abbrev Sp := List V → Hp → VK → XK → Prop
noncomputable abbrev CXT := List Env → Hp → Shared → XK → Value → Shared → Prop
structure Env0 (P : Program) (w : World) (K : PySem.W.Frag) (mg : Str → Option Value) (base : Heap) (A : Around) (outer : List Env) (s : Shared) (H : Hp) : Prop where
 frames : A.frames = some outer
 mod : Mod K mg base
 bs : ∀ b o, base.get? b = some o → s.heap.get? b = some o ∧ H b = none
 bsz : base.objs.size ≤ s.heap.objs.size
 funs : s.heap.FunFrames base outer
 frf : ∀ b ∈ frs outer, H b = none
 hok : HOk P w H s.heap
 bare : AllBare s.gens
noncomputable def CE (outer : List Env) (P : Program) (w : World) (H : Hp) (s : Shared) (Q : VK) (u : Value) (s' : Shared) : Prop :=
 ∃ v H', s'.os = s.os ∧ AllBare s'.gens ∧ Un (frs outer) [] H H' s.heap s'.heap ∧ HOk P w H' s'.heap ∧ RelV v u ∧ Q v H'
noncomputable def CR (CX : CXT) (outer : List Env) (P : Program) (w : World) (H : Hp) (s : Shared) (Q : VK) (E : XK) (r : Result) (s' : Shared) : Prop :=
 match r with
 | .ok (.ret u) => CE outer P w H s Q u s'
 | .ok _ => False
 | .error e => CX outer H s E e s'
structure FnOk (P : Program) (w : World) (K : PySem.W.Frag) (mg : Str → Option Value) (base : Heap) (CX : CXT) (k : Nat) (f : Addr) (fd : FuncData) (ps : List Str) (sp : Sp) : Prop where
 len : ∀ vs H Q E, sp vs H Q E → vs.length = ps.length
 run : ∀ (A : Around) (outer : List Env) (s : Shared) (H : Hp) (args : Args) (us : List Value) (vs : List V) (Q : VK) (E : XK), Room k A → Env0 P w K mg base A outer s H → BindsTo s fd args (ps.zip us) → Vals vs us → sp vs H Q E →
  codeAny (model P w) A (.call (.ref f) args) (CR CX outer P w H s Q E) s
section
variable {X : Cx} {pins : List (Addr × Obj)} {σ : St} {H : Hp} {s s' : Shared}
theorem Inv.env0 (I : Inv X pins σ H s) : Env0 X.prog X.w X.K X.mg X.base X.A X.stack s H :=
 ⟨I.ok.frames, I.ok.mod, I.bs, Nat.le_trans I.ok.bsz I.sz, I.stack, I.stkFree, I.hok, I.bare⟩
theorem Inv.after {Q : VK} {u : Value} (I : Inv X pins σ H s) (h : CE X.stack X.prog X.w H s Q u s') : EP X pins σ Q u s' := by
 obtain ⟨v, H', os, bare, un, hok, r, q⟩ := h
 obtain ⟨hh, g, d, t, os'⟩ := s'
 obtain rfl : os' = s.os := os
 exact ⟨v, H', I.call (h' := hh) (g' := g) (d' := d) (t' := t) (ch := []) un hok bare (fun b z => absurd z (by simp)), r, q⟩
end
noncomputable def Binds (K : PySem.W.Frag) (fd : FuncData) (ps : List Str) (ds : List Value) : Prop :=
 ∀ (s : Shared) (us : List Value), K.In s.heap → (us ++ ds).length = ps.length → BindsTo s fd ⟨us, []⟩ (ps.zip (us ++ ds))
theorem Binds.all {K : PySem.W.Frag} {fd : FuncData} {ps : List Str} (h : ∀ us : List Value, us.length = ps.length → bindArgs fd ⟨us, []⟩ = pure (ps.zip us)) : Binds K fd ps [] := fun s us _ hl => by
 rw [List.append_nil] at hl ⊢
 exact .of_eq (h us hl)
noncomputable def Passes (CX : CXT) (X : Cx) (E : XK) : Prop := ∀ (pins : List (Addr × Obj)) (σ : St) (H : Hp) (s : Shared) (e : Value) (s' : Shared), Inv X pins σ H s → CX X.stack H s E e s' → X.xe e s'
section
variable {X : Cx} {CX : CXT} {k : Nat} {f C : Addr} {fd : FuncData} {ps : List Str} {sp : Sp} {dvs : List V} {ds : List Value} {E : XK} {x m : Str} {p pos apos : Pos} {e o : Expr} {es : List Expr} {ta : TE} {t : TA}
theorem run_fn {pins : List (Addr × Obj)} {σ : St} {H : Hp} {s : Shared} {Q : VK} {us : List Value} {vs : List V} (F : FnOk X.prog X.w X.K X.mg X.base CX k f fd ps sp) (hr : Room k X.A) (hb : Binds X.K fd ps ds) (hd : Vals dvs ds) (hx : Passes CX X E)
  (I : Inv X pins σ H s) (r : Vals vs us) (h : sp (vs ++ dvs) H Q E) : wpAny (model X.prog X.w) X.A (call (.ref f) us) (EP X pins σ Q) X.xe s := by
 have r2 : Vals (vs ++ dvs) (us ++ ds) := r.append hd
 have hl : (us ++ ds).length = ps.length := by rw [← r2.length]; exact F.len _ _ _ _ h
 refine wpAny_call (codeAny_mono (F.run X.A X.stack s H ⟨us, []⟩ (us ++ ds) (vs ++ dvs) Q E hr I.env0 (hb s us I.kIn hl) r2 h) fun r s' hq => ?_)
 cases r with
 | error e => exact hx pins σ H s e s' I hq
 | ok fl =>
  cases fl with
  | ret u => exact I.after hq
  | next => exact False.elim hq
  | brk => exact False.elim hq
  | cont => exact False.elim hq
structure Mk (K : PySem.W.Frag) (C f : Addr) : Prop where
 makes : PySem.W.makesIn K C = true
 init : PySem.W.findIn K (.ref C) "__init__" = some (some (.ref f))
 fn : PySem.W.isFn K (.ref f) = true
 kp : PySem.W.keepIn K (.ref C) = true
end
section
variable {X : Cx} {CX : CXT} {k : Nat} {f C : Addr} {fd : FuncData} {ps ks : List Str} {sp : Sp} {E : XK} {x m : Str} {p pos apos kpos : Pos} {e o : Expr} {es : List Expr} {kws : List Keyword} {te ta : TE} {t tk : TA} {nm : Option Str}
structure KBinds (K : PySem.W.Frag) (fd : FuncData) (ps ks : List Str) (g : List Value → List Value → List Value) (gV : List V → List V → List V) : Prop where
 to : ∀ (s : Shared) (us ws : List Value), K.In s.heap → (g us ws).length = ps.length → BindsTo s fd ⟨us, ks.zip ws⟩ (ps.zip (g us ws))
 rel : ∀ {vs : List V} {us : List Value} {zs : List V} {ws : List Value}, Vals vs us → Vals zs ws → Vals (gV vs zs) (g us ws)
variable {g : List Value → List Value → List Value} {gV : List V → List V → List V}
end
structure FnScope (N P : List Str) (sc : Scope) : Prop where
 kind : sc.kind = .function
 co : sc.isCoroutine = false
 gen : sc.isGenerator = false
 nd : N.Nodup
 pre : N.take P.length = P
 par : ∀ x ∈ P, sc.names.lookup x = some .local ∨ sc.names.lookup x = some .cell
 nofree : ∀ y ∈ sc.names, y.2 ≠ .free
theorem bindL_out {kindOf : Str → Option NameKind} {x : Str} : ∀ {binds : List (Str × Value)} {m : Str → Option Value}, (∀ v, (x, v) ∉ binds) → bindL kindOf binds m x = m x
 | [], _, _ => rfl
 | (n, v) :: r, m, h => by
  unfold bindL
  rw [bindL_out fun w hw => h w (List.mem_cons_of_mem _ hw)]
  split
  ·have : x ≠ n := by rintro rfl; exact h v List.mem_cons_self
   simp [this]
  ·rfl
theorem bindC_out {kindOf : Str → Option NameKind} {x : Str} : ∀ {binds : List (Str × Value)} {m : Str → Option Value}, (∀ v, (x, v) ∉ binds) → bindC kindOf binds m x = m x
 | [], _, _ => rfl
 | (n, v) :: r, m, h => by
  unfold bindC
  rw [bindC_out fun w hw => h w (List.mem_cons_of_mem _ hw)]
  split
  ·rfl
  ·have : x ≠ n := by rintro rfl; exact h v List.mem_cons_self
   simp [this]
theorem bindL_get {kindOf : Str → Option NameKind} {x : Str} {v : Value} : ∀ {P : List Str} {vs : List Value} {i : Nat} {m : Str → Option Value}, P.Nodup → P[i]? = some x → vs[i]? = some v → kindOf x = some .local →
  bindL kindOf (P.zip vs) m x = some v
 | [], _, _, _, _, h, _, _ => by simp at h
 | _ :: _, [], _, _, _, _, h, _ => by simp at h
 | p :: P, w :: vs, 0, m, nd, h1, h2, hk => by
  simp at h1 h2; subst h1; subst h2
  show bindL kindOf ((p, w) :: P.zip vs) m p = _
  unfold bindL
  rw [bindL_out fun v hv => (List.nodup_cons.mp nd).1 (List.of_mem_zip hv).1, if_pos hk]
  simp
 | p :: P, w :: vs, i + 1, m, nd, h1, h2, hk => by
  show bindL kindOf ((p, w) :: P.zip vs) m x = _
  unfold bindL
  exact bindL_get (i := i) (List.nodup_cons.mp nd).2 (by simpa using h1) (by simpa using h2) hk
theorem bindC_get {kindOf : Str → Option NameKind} {x : Str} {v : Value} : ∀ {P : List Str} {vs : List Value} {i : Nat} {m : Str → Option Value}, P.Nodup → P[i]? = some x → vs[i]? = some v → kindOf x ≠ some .local →
  bindC kindOf (P.zip vs) m x = some v
 | [], _, _, _, _, h, _, _ => by simp at h
 | _ :: _, [], _, _, _, _, h, _ => by simp at h
 | p :: P, w :: vs, 0, m, nd, h1, h2, hk => by
  simp at h1 h2; subst h1; subst h2
  show bindC kindOf ((p, w) :: P.zip vs) m p = _
  unfold bindC
  rw [bindC_out fun v hv => (List.nodup_cons.mp nd).1 (List.of_mem_zip hv).1, if_neg hk]
  simp
 | p :: P, w :: vs, i + 1, m, nd, h1, h2, hk => by
  show bindC kindOf ((p, w) :: P.zip vs) m x = _
  unfold bindC
  exact bindC_get (i := i) (List.nodup_cons.mp nd).2 (by simpa using h1) (by simpa using h2) hk
noncomputable def start (N : List Str) (vs : List V) : St := vs.map some ++ List.replicate (N.length - vs.length) none
noncomputable def cxOf (CX : CXT) (P : Program) (w : World) (K : PySem.W.Frag) (mg : Str → Option Value) (base : Heap) (N : List Str) (qual : Str) (scope : Scope) (f : Addr) (cd : Value) (A : Around) (outer : List Env) (s : Shared) (H : Hp) (E : XK) : Cx where
 prog := P
 w := w
 K := K
 mg := mg
 base := base
 A := A.deeper (envOfC qual scope s.heap.objs.size f cd)
 N := N
 s₀ := s
 H₀ := H
 env := envOfC qual scope s.heap.objs.size f cd
 outer := outer
 stack := envOfC qual scope s.heap.objs.size f cd :: outer
 ex := []
 calm := true
 fn := fun _ => true
 pn := []
 xe := fun e s' => wpAny (model P w) (A.deeper (envOfC qual scope s.heap.objs.size f cd)) (leaving (envOfC qual scope s.heap.objs.size f cd) e) (fun _ s'' => CX outer H s E e s'') (fun e' s'' => CX outer H s E e' s'') s'
theorem cell_has {sc : Scope} {n : Nat} {x : Str} (h : sc.names.lookup x = some .cell) : ∃ c, (cellsFrom n sc.names []).lookup x = some c := by
 have q := PySem.W.cellsFrom_some sc.names n [] (.inl h)
 exact Option.isSome_iff_exists.mp q
theorem inv_start {CX : CXT} {P : Program} {w : World} {K : PySem.W.Frag} {mg : Str → Option Value} {base : Heap} {N ps : List Str} {qual : Str} {scope : Scope} {f : Addr} {cd : Value} {A : Around} {outer : List Env} {s s1 : Shared} {H : Hp} {E : XK} {us : List Value} {vs : List V}
  (S : FnScope N ps scope) (hd : A.handled = none) (e0 : Env0 P w K mg base A outer s H) (hl : vs.length = ps.length) (r : Vals vs us)
  (x : InCallC s s.heap.objs.size (bindL (envOfC qual scope s.heap.objs.size f cd).kindOf (ps.zip us) fun _ => none) (cellsFrom (s.heap.objs.size + 1) scope.names []) (bindC (envOfC qual scope s.heap.objs.size f cd).kindOf (ps.zip us) fun _ => none) s1) :
  Inv (cxOf CX P w K mg base N qual scope f cd A outer s H E) [] (start N vs) H s1 := by
 have hpl : ps.length ≤ N.length := by have := congrArg List.length S.pre; rw [List.length_take] at this; omega
 obtain ⟨h1, tk, rfl, hk⟩ := x.done
 have noA : ∀ b : Addr, b ∉ (cxOf CX P w K mg base N qual scope f cd A outer s H E).ex := fun b z => absurd (show b ∈ ([] : List Addr) from z) (by simp)
 refine ⟨⟨e0.mod, S.kind, rfl, rfl, Nat.le_refl _, fun y z c h1 h2 => ?_, fun y hy => ?_, fun y c _ h => ?_, fun _ => hd, Around.frames_deeper e0.frames, .inr ⟨rfl, rfl⟩, fun b z => absurd z (noA b), e0.bs, e0.bsz, fun b _ _ => noA b, fun b z => absurd z (noA b), e0.funs, e0.frf⟩,
  rfl, e0.bare, Un.kept hk, ⟨_, x.toInCall.ns, fun i y v h1 h2 h3 => ?_⟩, fun y c h => ⟨_, x.cell y c h⟩, e0.hok.fresh (Nat.le_refl _), fun y c h => ?_, fun p hp => absurd (show p ∈ ([] : List (Addr × Obj)) from hp) (by simp), e0.hok.kept hk, ?_⟩
 ·exact name_of_addr x.apart (PySem.mem_of_lookup h1) (PySem.mem_of_lookup h2)
 ·have hy : scope.names.lookup y = some .cell ∨ scope.names.lookup y = some .free := hy
  rcases hy with hy | hy
  ·exact cell_has hy
  ·exact absurd rfl (S.nofree _ (PySem.mem_of_lookup hy))
 ·exact Nat.le_of_lt (x.above y c (PySem.mem_of_lookup h))
 ·have hi : i < vs.length := by
   unfold start at h2
   by_cases hi : i < vs.length
   ·exact hi
   ·rw [List.getElem?_append_right (by simpa using hi)] at h2
    rw [List.getElem?_replicate] at h2
    split at h2 <;> cases h2
  have ha : vs[i]? = some v := by
   unfold start at h2
   rw [List.getElem?_append_left (by simpa using hi), List.getElem?_map] at h2
   cases e : vs[i]? with
   | none => rw [e] at h2; cases h2
   | some a => rw [e] at h2; cases h2; rfl
  obtain ⟨u, hu, rv⟩ := r.get ha
  have hp : ps[i]? = some y := by
   rw [← S.pre, List.getElem?_take_of_lt (by omega)]; exact h1
  have ndP : ps.Nodup := by rw [← S.pre]; exact S.nd.sublist (List.take_sublist _ _)
  refine ⟨u, rv, ?_⟩
  rcases S.par y (List.mem_of_getElem? hp) with k | k
  ·exact .inl ⟨k, bindL_get ndP hp hu k⟩
  ·obtain ⟨c, e⟩ := cell_has (n := s.heap.objs.size + 1) k
   refine .inr ⟨.inl k, c, e, ?_⟩
   have q := x.cell y c e
   rw [bindC_get ndP hp hu (by show scope.names.lookup y ≠ _; rw [k]; decide)] at q
   exact q
 ·exact e0.hok.fresh (Nat.le_of_lt (x.above y c (PySem.mem_of_lookup h)))
 ·unfold start
  show _ = N.length
  rw [List.length_append, List.length_map, List.length_replicate]
  omega
theorem fn_of {CX : CXT} {P : Program} {w : World} {K : PySem.W.Frag} {mg : Str → Option Value} {base : Heap} {k : Nat} {f : Addr} {name qual : Str} {params : Arguments} {body : List Stmt} {scope : Scope} {dV kV doc pm cdv ct oc : Value} {an od : Option Addr}
  {osl : Array (Option Value)} {N ps : List Str} {sp : Sp} (lk : K.lookup f = some ⟨oc, od, .func (PySem.W.fnOf name qual params body scope dV kV doc pm an cdv ct), osl⟩) (hcd : PySem.W.codeIn K cdv qual = true) (S : FnScope N ps scope)
  (len : ∀ vs H Q E, sp vs H Q E → vs.length = ps.length)
  (hbody : ∀ (A : Around) (outer : List Env) (s : Shared) (H : Hp) (vs : List V) (Q : VK) (E : XK), Room k (A.deeper (envOfC qual scope s.heap.objs.size f cdv)) → sp vs H Q E →
   ∃ t, PSs (cxOf CX P w K mg base N qual scope f cdv A outer s H E) body t ∧ t { nx := fun _ H' => Q .non H', rt := Q } (start N vs) H) :
  FnOk P w K mg base CX (k + 1) f (PySem.W.fnOf name qual params body scope dV kV doc pm an cdv ct) ps sp := by
 refine ⟨len, fun A outer s H args us vs Q E hr e0 hb r hsp => ?_⟩
 have hl := len _ _ _ _ hsp
 have KX : K.In s.heap := e0.mod.kin.keeps fun b o e => (e0.bs b o e).1
 have lim : s.heap.NoLimit := e0.mod.nolimit.keeps fun b o e => (e0.bs b o e).1
 have hkind : ∀ y ∈ ps.zip us, scope.names.lookup y.1 = some .local ∨ (scope.names.lookup y.1 = some .cell ∧ ((cellsFrom (s.heap.objs.size + 1) scope.names []).lookup y.1).isSome = true) := fun ⟨n, v⟩ hy => by
  rcases S.par n (List.of_mem_zip hy).1 with q | q
  ·exact .inl q
  ·exact .inr ⟨q, PySem.W.cellsFrom_some _ _ _ (.inl q)⟩
 refine codeAny_call_function hr.depth (KX _ _ lk) rfl S.co S.gen rfl (PySem.W.codeRec_of KX hcd) (hb _ _ _ _ ?_)
 refine wpAny_newFunctionEnv_cells S.kind hkind fun env he s1 x => ?_
 subst he
 refine ⟨lim.keeps x.toInCall.keep, codeAny_func ?_⟩
 obtain ⟨t, ht, hq⟩ := hbody A outer s H vs Q E (hr.deeper _) hsp
 have I : Inv (cxOf CX P w K mg base N qual scope f cdv A outer s H E) [] (start N vs) H s1 := inv_start S hr.hd e0 hl r x
 refine wpAny_mono (ht [] s1 (start N vs) H _ I hq) (fun fl s' hs => ?_) fun e s' hs => hs
 have fin : ∀ {σ' : St} {H' : Hp} {v : V} {u : Value}, Inv (cxOf CX P w K mg base N qual scope f cdv A outer s H E) [] σ' H' s' → RelV v u → Q v H' → CE outer P w H s Q u s' :=
  fun {σ' H' v u} J rv q => ⟨v, H', J.os, J.bare, J.base, J.hok, rv, q⟩
 cases fl with
 | ret u =>
  obtain ⟨v, σ', H', J, rv, q⟩ := hs
  exact fin J rv q
 | next =>
  obtain ⟨σ', H', J, q⟩ := hs
  exact fin (v := V.non) (u := Value.none) J rfl q
 | brk =>
  obtain ⟨_, _, _, q⟩ := hs
  exact False.elim q
 | cont =>
  obtain ⟨_, _, _, q⟩ := hs
  exact False.elim q
end L2
namespace L2
open PySem PySem.Spec PyProof.Rows
section
variable {X : Cx} {x : Str} {p pos : Pos} {e : Expr} {es : List Expr} {t : TA} {id T : String} {r : List V → Hp → VK → Prop}
noncomputable def tCB (r : List V → Hp → VK → Prop) (t : TA) : TE := fun σ H Q => t σ H fun vs H1 => r vs H1 Q
theorem pe_callB (hc : CallR X (.builtin id) r) (hg : Gl X x) (hm : X.mg x = none) (hv : bootBuiltins x = some (.builtin id)) (ha : PA X (e :: es) t) (hn : x ≠ "__name__" := by decide) (hdb : (x == ("__debug__" : Str)) = false := by decide)
  (he : starEach (e :: es) X.env = (false, eval e X.env) :: starEach es X.env := by rfl) (hpl : (backTo pos (starEach es X.env)).any (·.1) = false := by rfl) : PE X (.Call (.Name x p) (e :: es) [] pos) (tCB r t) := by
 intro pins s σ H Q I h
 refine wpAny_Call_Name_kw (ld_blt I hg hm hv ?_ hn hdb)
 exact PyProof.Rows.callWith_builtin1 (thn (ha pos pins s σ H _ I h) fun us s1 ⟨vs, H1, I1, r1, q1⟩ => hc pins s1 σ H1 vs us Q I1 r1 q1) he hpl
theorem pe_callTy (hc : CallR X (.type T) r) (hg : Gl X x) (hm : X.mg x = none) (hv : bootBuiltins x = some (.type T)) (ha : PA X (e :: es) t) (hn : x ≠ "__name__" := by decide) (hdb : (x == ("__debug__" : Str)) = false := by decide)
  (he : starEach (e :: es) X.env = (false, eval e X.env) :: starEach es X.env := by rfl) (hpl : (backTo pos (starEach es X.env)).any (·.1) = false := by rfl) : PE X (.Call (.Name x p) (e :: es) [] pos) (tCB r t) := by
 intro pins s σ H Q I h
 refine wpAny_Call_Name_kw (ld_blt I hg hm hv ?_ hn hdb)
 exact PyProof.Rows.callWith_type1 (thn (ha pos pins s σ H _ I h) fun us s1 ⟨vs, H1, I1, r1, q1⟩ => hc pins s1 σ H1 vs us Q I1 r1 q1) he hpl
end
end L2
namespace HT
open PySem PyProof.Rows
section
open PySem.SeqAt
open PySem.AutoSeq1 (wpAny_loadPart')
open PySem.MeetsSeq PySem.MeetsSeq2 PySem.MeetsSeq3
end
section
variable {prog : Program} {w : World} {A : Around} {E : Value → Shared → Prop} {s : Shared}
noncomputable def sIx (n d : Nat) : Option Int → Nat
 | none => d
 | some v => if v < 0 then (v + (n : Int)).toNat else min v.toNat n
theorem sIx_nat (n d k : Nat) : sIx n d (some (k : Int)) = min k n := by
 show (if (k : Int) < 0 then ((k : Int) + (n : Int)).toNat else min (k : Int).toNat n) = min k n
 rw [if_neg (by omega), Int.toNat_natCast]
theorem sIx_le (n d : Nat) (hd : d ≤ n) (o : Option Int) : sIx n d o ≤ n := by
 cases o with
 | none => exact hd
 | some v =>
  show (if v < 0 then (v + (n : Int)).toNat else min v.toNat n) ≤ n
  by_cases hv : v < 0
  ·rw [if_pos hv]; omega
  ·rw [if_neg hv]; exact Nat.min_le_right _ _
end
end HT
namespace L2
open PySem PySem.Spec PyProof.Rows
noncomputable abbrev TO := St → Hp → (Option Int → Hp → Prop) → Prop
noncomputable def PO (X : Cx) (e : Option Expr) (t : TO) : Prop :=
 ∀ (pins : List (Addr × Obj)) (s : Shared) (σ : St) (H : Hp) (Q : Option Int → Hp → Prop), Inv X pins σ H s → t σ H Q →
  wpAny (model X.prog X.w) X.A (evalPart e X.env) (fun u s' => ∃ o H', Inv X pins σ H' s' ∧ IsPart u o ∧ Q o H') X.xe s
noncomputable def tNoPart : TO := fun _ H Q => Q none H
noncomputable def tPart (t : TE) : TO := fun σ H Q => t σ H fun x H1 => ∃ i, x = .int i ∧ Q (some i) H1
section
variable {X : Cx} {e : Expr} {te : TE} {lo hi : Option Expr} {tl th : TO} {pos p2 : Pos}
theorem po_none : PO X none tNoPart := by
 intro pins s σ H Q I h
 rw [evalPart_none]
 exact wpAny_pure ⟨none, H, I, .none, h⟩
theorem po_some (h : PE X e te) : PO X (some e) (tPart te) := by
 intro pins s σ H Q I hw
 rw [evalPart_some]
 refine thn (h pins s σ H _ I hw) fun u s1 ⟨x, H1, I1, r1, q1⟩ => ?_
 obtain ⟨i, rfl, q⟩ := q1
 obtain ⟨t, rfl⟩ := r1
 exact ⟨some i, H1, I1, .int i t, q⟩
noncomputable def SlR (X : Cx) (r : V → Option Int → Option Int → Hp → VK → Prop) : Prop :=
 ∀ (pins : List (Addr × Obj)) (s : Shared) (σ : St) (H : Hp) (x : V) (v vl vu : Value) (lo hi : Option Int) (sl : Addr) (Q : VK), Inv X pins σ H s → RelV x v → s.heap.IsSliceOf sl vl vu .none → IsPart vl lo → IsPart vu hi → r x lo hi H Q →
  ∃ T id, typeLookup (.type T) "__getitem__" = pure (some (.builtin id)) ∧ s.TypeIs v T ∧ wpAny (model X.prog X.w) X.A (getItem v (.ref sl)) (EP X pins σ Q) X.xe s
noncomputable def tSl (r : V → Option Int → Option Int → Hp → VK → Prop) (te : TE) (tl th : TO) : TE := fun σ H Q => te σ H fun x H1 => tl σ H1 fun l H2 => th σ H2 fun u H3 => r x l u H3 Q
theorem pe_slice {r : V → Option Int → Option Int → Hp → VK → Prop} (hr : SlR X r) (he : PE X e te) (hl : PO X lo tl) (hu : PO X hi th) : PE X (.Subscript e (.Slice lo hi none p2) pos) (tSl r te tl th) := by
 intro pins s σ H Q I h
 refine Subscript_ (thn (he pins s σ H _ I h) fun v s1 ⟨x, H1, I1, r1, q1⟩ => ?_)
 refine wpAny_Slice (thn (hl pins s1 σ H1 _ I1 q1) fun vl s2 ⟨l, H2, I2, pl, q2⟩ => thn (hu pins s2 σ H2 _ I2 q2) fun vu s3 ⟨u, H3, I3, pu, q3⟩ => ?_)
 rw [evalPart_none]
 refine wpAny_pure ?_
 have I4 : Inv X pins σ H3 { s3 with heap := s3.heap.push { cls := .type "slice", data := .fields #[vl, vu, .none] } } := I3.kept (t' := s3.toks) fun b ob q => Heap.get?_push_of_some _ q
 obtain ⟨T, id, hT, ht, hg⟩ := hr pins { s3 with heap := s3.heap.push { cls := .type "slice", data := .fields #[vl, vu, .none] } } σ H3 x v vl vu l u s3.heap.objs.size Q I4 r1 (Heap.IsSliceOf.new ..) pl pu q3
 show wpAny (model X.prog X.w) X.A (subscriptTail e (.Slice lo hi none p2) v (.ref s3.heap.objs.size)) (EP X pins σ Q) X.xe { s3 with heap := s3.heap.push { cls := .type "slice", data := .fields #[vl, vu, .none] } }
 exact tail_any (ops := [.ref s3.heap.objs.size, v]) ht hT hg (by with_unfolding_all rfl)
noncomputable def cutV (xs : List V) (lo hi : Option Int) : List V := (xs.drop (HT.sIx xs.length 0 lo)).take (HT.sIx xs.length xs.length hi - HT.sIx xs.length 0 lo)
theorem cutV_length (xs : List V) (lo hi : Option Int) : (cutV xs lo hi).length ≤ xs.length := by
 unfold cutV
 rw [List.length_take, List.length_drop]
 omega
end
end L2
namespace L2
open PySem PySem.Spec PyProof.Rows
noncomputable def ixN (n : Nat) (i : Int) : Option Nat := if 0 ≤ i then (if i < n then some i.toNat else none) else if -(n : Int) ≤ i then some (i + n).toNat else none
noncomputable def atI {α : Type} (xs : List α) (i : Int) : Option α := (ixN xs.length i).bind fun j => xs[j]?
theorem ixN_seq {n : Nat} {i : Int} {j : Nat} (h : ixN n i = some j) : seqIndex? i n = some j ∧ j < n ∧ -(n : Int) ≤ i ∧ i < n := by
 unfold ixN at h
 by_cases h0 : 0 ≤ i
 ·rw [if_pos h0] at h
  by_cases h1 : i < n
  ·rw [if_pos h1] at h
   have e : i.toNat = j := Option.some.inj h
   exact ⟨by rw [seqIndex_of h0 h1, e], by omega, by omega, h1⟩
  ·rw [if_neg h1] at h; cases h
 ·rw [if_neg h0] at h
  by_cases h1 : -(n : Int) ≤ i
  ·rw [if_pos h1] at h
   have e : (i + n).toNat = j := Option.some.inj h
   exact ⟨by rw [seqIndex_neg (by omega) h1, e], by omega, h1, by omega⟩
  ·rw [if_neg h1] at h; cases h
theorem atI_get {α : Type} {xs : List α} {i : Int} {v : α} (h : atI xs i = some v) : ∃ j, seqIndex? i xs.length = some j ∧ xs[j]? = some v ∧ j < xs.length ∧ -(xs.length : Int) ≤ i ∧ i < xs.length := by
 unfold atI at h
 cases e : ixN xs.length i with
 | none => rw [e] at h; cases h
 | some j =>
  rw [e] at h
  obtain ⟨h1, h2, h3, h4⟩ := ixN_seq e
  exact ⟨j, h1, h, h2, h3, h4⟩
noncomputable def PlainIx (b : Expr) : Prop := ∀ o i, subscripted b false o i = operate [o, i] (getItem o i)
noncomputable def IxR (X : Cx) (r : R2) : Prop :=
 ∀ (value slice : Expr) (pins : List (Addr × Obj)) (s : Shared) (σ : St) (H : Hp) (x y : V) (v u : Value) (Q : VK), Inv X pins σ H s → RelV x v → RelV y u → r x y H Q →
  subscripted slice false v u = operate [v, u] (getItem v u) → wpAny (model X.prog X.w) X.A (subscriptTail value slice v u) (EP X pins σ Q) X.xe s
noncomputable def MtR (X : Cx) (id : String) (r : V → List V → Hp → VK → Prop) : Prop :=
 ∀ (pins : List (Addr × Obj)) (s : Shared) (σ : St) (H : Hp) (x : V) (xs : List V) (v : Value) (us : List Value) (Q : VK), Inv X pins σ H s → RelV x v → Vals xs us → r x xs H Q →
  wpAny (model X.prog X.w) X.A (call (.builtin id) (v :: us)) (EP X pins σ Q) X.xe s
section
variable {X : Cx} {a b : Expr} {ta tb : TE} {pos : Pos}
theorem IxR.or {r r' : R2} (h : IxR X r) (h' : IxR X r') : IxR X (fun x y H Q => r x y H Q ∨ r' x y H Q) := by
 intro value slice pins s σ H x y v u Q I rx ry q hs
 rcases q with q | q
 ·exact h value slice pins s σ H x y v u Q I rx ry q hs
 ·exact h' value slice pins s σ H x y v u Q I rx ry q hs
theorem pe_ix {r : R2} (hr : IxR X r) (ha : PE X a ta) (hb : PE X b tb) (hs : PlainIx b) : PE X (.Subscript a b pos) (tOp r ta tb) := by
 intro pins s σ H Q I h
 exact Subscript_ (binT ha hb I h fun v u s2 x y H2 I2 rx ry q => hr a b pins s2 σ H2 x y v u Q I2 rx ry q (hs _ _))
noncomputable def rIxL (K : PySem.W.Frag) : R2 := fun x y H Q => ∃ p xs i v, x = .ref p ∧ y = .int i ∧ SqL K H p xs ∧ atI xs i = some v ∧ Q v H
noncomputable def rIxT (K : PySem.W.Frag) : R2 := fun x y H Q => ∃ p xs i v, x = .ref p ∧ y = .int i ∧ SqT K H p xs ∧ atI xs i = some v ∧ Q v H
noncomputable def rIxS : R2 := fun x y H Q => ∃ z i c, x = .str z ∧ y = .int i ∧ z.length ≤ sizeLine ∧ atI z.cps.toList i = some c ∧ Q (.str ⟨#[c]⟩) H
theorem ix_list : IxR X (rIxL X.K) := by
 intro value slice pins s σ H x y v u Q I rx ry h hs
 obtain ⟨p, xs, i, z, rfl, rfl, hq, he, q⟩ := h
 cases rx
 obtain ⟨t, rfl⟩ := ry
 obtain ⟨its, r, pl, hz⟩ := I.list hq
 obtain ⟨j, h1, h2, h3, h4, h5⟩ := atI_get he
 obtain ⟨w, ew, rw'⟩ := r.get h2
 have hl := r.length
 have hn := line63
 have fin : EP X pins σ Q w s := ⟨z, H, I, rw', q⟩
 by_cases h0 : 0 ≤ i
 ·have hj : i.toNat = j := by
   rw [seqIndex_of h0 h5] at h1
   exact Option.some.inj h1
  exact item_listR pl.isList h0 (by omega) (by rw [hj]; simpa using ew) fin hs
 ·have hj : (i + (its.toArray.size : Int)).toNat = j := by
   rw [seqIndex_neg (by omega) h4] at h1
   rw [List.size_toArray, ← hl]
   exact Option.some.inj h1
  exact subscriptTail_builtinR (x := w) pl.isList.typeIs slot_list_getitem.lookup
   (wpAny_getItem_list_neg (Q := fun r s' => r = w ∧ EP X pins σ Q r s') pl.isList (by omega) (by rw [List.size_toArray] <;> omega) (by omega) (by rw [hj]; simpa using ew) ⟨rfl, fin⟩) hs
theorem ix_tup : IxR X (rIxT X.K) := by
 intro value slice pins s σ H x y v u Q I rx ry h hs
 obtain ⟨p, xs, i, z, rfl, rfl, hq, he, q⟩ := h
 cases rx
 obtain ⟨t, rfl⟩ := ry
 obtain ⟨its, r, pl, hz⟩ := I.tuple hq
 obtain ⟨j, h1, h2, h3, h4, h5⟩ := atI_get he
 obtain ⟨w, ew, rw'⟩ := r.get h2
 have hl := r.length
 have hn := line63
 have fin : EP X pins σ Q w s := ⟨z, H, I, rw', q⟩
 exact subscriptTail_builtinR (x := w) pl.typeIs slot_tuple_getitem.lookup
  (getItem_tuple (j := j) (Q := fun r s' => r = w ∧ EP X pins σ Q r s') pl (by omega) (by omega) (by rw [List.size_toArray, ← hl]; exact h1) (by simpa using ew) ⟨rfl, fin⟩) hs
theorem ix_str : IxR X rIxS := by
 intro value slice pins s σ H x y v u Q I rx ry h hs
 obtain ⟨z, i, c, rfl, rfl, hz, he, q⟩ := h
 obtain ⟨t, rfl⟩ := rx
 obtain ⟨t', rfl⟩ := ry
 obtain ⟨j, h1, h2, h3, h4, h5⟩ := atI_get he
 have hl : z.cps.toList.length = z.length := by simp [Str.length]
 rw [hl] at h1 h4 h5
 have hn := line63
 exact tail_any (typeIs_str s z t) slot_str_getitem.lookup (getItem_str (c := c) (by
  have e1 : decide (i < -(2 ^ 63 : Int)) = false := decide_eq_false (by omega)
  have e2 : decide (i ≥ 2 ^ 63) = false := decide_eq_false (by omega)
  rw [e1, e2, Bool.or_false]) (by rw [h1]; simpa using h2) ⟨.str ⟨#[c]⟩, H, I.tok _, ⟨_, rfl⟩, q⟩) hs
noncomputable def rIx (K : PySem.W.Frag) : R2 := fun x y H Q => rIxL K x y H Q ∨ rIxT K x y H Q ∨ rIxS x y H Q
theorem ix_seq : IxR X (rIx X.K) := ix_list.or (ix_tup.or ix_str)
theorem slice_bounds (lo hi : Option Int) (n : Nat) : (sliceBounds lo hi none n).1 = ((HT.sIx n 0 lo : Nat) : Int) ∧ (sliceBounds lo hi none n).2.1 = ((HT.sIx n n hi : Nat) : Int) ∧ (sliceBounds lo hi none n).2.2 = 1 := by
 refine ⟨?_, ?_, rfl⟩
 ·cases lo with
  | none => simp [sliceBounds, HT.sIx]
  | some i =>
   simp only [sliceBounds, HT.sIx, Option.getD_none, show (1 : Int) > 0 by decide, if_true]
   by_cases h : i < 0
   ·simp only [h, if_true] <;> omega
   ·simp only [h, if_false] <;> omega
 ·cases hi with
  | none => simp [sliceBounds, HT.sIx]
  | some i =>
   simp only [sliceBounds, HT.sIx, Option.getD_none, show (1 : Int) > 0 by decide, if_true]
   by_cases h : i < 0
   ·simp only [h, if_true] <;> omega
   ·simp only [h, if_false] <;> omega
theorem slicePick_cut (its : List Value) (lo hi : Option Int) : slicePick its.toArray lo hi none = ((its.drop (HT.sIx its.length 0 lo)).take (HT.sIx its.length its.length hi - HT.sIx its.length 0 lo)).toArray := by
 obtain ⟨h1, h2, h3⟩ := slice_bounds lo hi its.toArray.size
 unfold slicePick
 rw [h1, h2, h3]
 simp only [sliceRange_one, pick_run, List.size_toArray] <;> rfl
noncomputable def rSlL (K : PySem.W.Frag) : V → Option Int → Option Int → Hp → VK → Prop := fun x lo hi H Q => ∃ a xs, x = .ref a ∧ SqL K H a xs ∧ ∀ p, H p = none → Q (.ref p) (upd H p (.lst (cutV xs lo hi)))
theorem sl_list : SlR X (rSlL X.K) := by
 intro pins s σ H x v vl vu lo hi sl Q I rx hs pl pu h
 obtain ⟨a, xs, rfl, hx, q⟩ := h
 cases rx
 obtain ⟨its, r, ht, hz⟩ := I.list hx
 have hlen := r.length
 refine ⟨"list", _, slot_list_getitem.lookup, ht.isList.typeIs, ?_⟩
 refine wpAny_getItem_list_slice ht.isList hs pl pu .none (by simp) ?_ (by rw [List.size_toArray] <;> omega)
 rw [slicePick_cut, ← hlen]
 refine ⟨.ref s.heap.objs.size, _, I.laid (t' := s.toks) (o := .lst (cutV xs lo hi)) (fun b ob q => Heap.get?_push_of_some _ q) (Nat.le_refl _) ?_, rfl, q _ (I.hok.fresh (Nat.le_refl _))⟩
 exact ⟨Nat.le_trans (cutV_length xs lo hi) hz, _, 0, (r.drop (HT.sIx xs.length 0 lo)).take (HT.sIx xs.length xs.length hi - HT.sIx xs.length 0 lo), Heap.get?_push_size _ rfl⟩
theorem call_list_of : CallR X (.type "list") (fun xs H Q => ∃ p ys, xs = [.ref p] ∧ (SqL X.K H p ys ∨ SqT X.K H p ys) ∧ ∀ l, H l = none → Q (.ref l) (upd H l (.lst ys))) := by
 intro pins s σ H xs us Q I r h
 obtain ⟨p, ys, rfl, hq, q⟩ := h
 obtain ⟨u, rfl, rx⟩ := vals1 r
 cases rx
 have fin : ∀ (its : List Value), Vals ys its → ys.length ≤ sizeLine → ∀ (h' : Heap) (c' : Nat), (∀ b o', s.heap.get? b = some o' → h'.get? b = some o') →
   h'.get? s.heap.objs.size = some { cls := .type "list", dict := none, data := .seq its.toArray c', slots := #[] } → EP X pins σ Q (.ref s.heap.objs.size) { s with heap := h' } := fun its r' hz h' c' kp e =>
  ⟨.ref s.heap.objs.size, _, I.laid (t' := s.toks) kp (Nat.le_refl _) (show ObjOk X.prog X.w _ h' _ (.lst ys) from ⟨hz, its, c', r', e⟩), rfl, q _ (I.hok.fresh (Nat.le_refl _))⟩
 rcases hq with hq | hq
 ·obtain ⟨its, r', pl, hz⟩ := I.list hq
  have hlen := r'.length
  obtain ⟨o, ho, hc, n, hd⟩ := pl.isList
  exact call_list_seq p (.inl rfl) ho hc hd (fun h' c' kp e => fin its r' hz h' c' kp e) (by simp only [List.size_toArray] <;> omega)
 ·obtain ⟨its, r', pl, hz⟩ := I.tuple hq
  have hlen := r'.length
  obtain ⟨o, ho, hc, n, hd⟩ := pl
  exact call_list_seq p (.inr rfl) ho hc hd (fun h' c' kp e => fin its r' hz h' c' kp e) (by simp only [List.size_toArray] <;> omega)
noncomputable def tyV (K : PySem.W.Frag) (T : String) (x : V) (H : Hp) : Prop := match x with
 | .str _ => T = "str"
 | .int _ => T = "int"
 | .ref p => (T = "list" ∧ ∃ xs, SqL K H p xs) ∨ (T = "tuple" ∧ ∃ o, K.lookup p = some o ∧ o.cls = .type "tuple" ∧ o.dict = none) ∨
   (T = "dict" ∧ ((∃ kvs, H p = some (.dK kvs)) ∨ ∃ kvs, H p = some (.dT kvs))) ∨ (T = "set" ∧ ∃ S n, H p = some (.set S n))
 | _ => False
theorem tyV_is {pins : List (Addr × Obj)} {σ : St} {H : Hp} {s : Shared} {T : String} {x : V} {v : Value} (I : Inv X pins σ H s) (r : RelV x v) (ty : tyV X.K T x H) :
  s.TypeIs v T ∧ ∀ a, v = .ref a → ∃ ob, s.heap.get? a = some ob ∧ ob.dict = none := by
 cases x with
 | str z =>
  obtain ⟨t, rfl⟩ := r
  cases (show T = "str" from ty)
  exact ⟨typeIs_str s z t, fun _ e => nomatch e⟩
 | int i =>
  obtain ⟨t, rfl⟩ := r
  cases (show T = "int" from ty)
  exact ⟨typeIs_int s i t, fun _ e => nomatch e⟩
 | ref p =>
  cases r
  rcases ty with ⟨rfl, xs, hq⟩ | ⟨rfl, o, hk, hc, hd⟩ | ⟨rfl, hk⟩ | ⟨rfl, S, n, hk⟩
  ·obtain ⟨its, _, pl, _⟩ := I.list hq
   refine ⟨pl.isList.typeIs, fun a e => ?_⟩
   cases e
   obtain ⟨o, n, e, c, hd, _⟩ := pl
   exact ⟨o, e, hd⟩
  ·refine ⟨⟨o, I.kIn p o hk, hc⟩, fun a e => ?_⟩
   cases e
   exact ⟨o, I.kIn _ o hk, hd⟩
  ·have z : ∃ o, s.heap.get? p = some o ∧ o.ExactDict := by
    rcases hk with ⟨kvs, hk⟩ | ⟨kvs, hk⟩
    ·obtain ⟨_, _, _, _, o, _, _, e, ex, _⟩ := I.hok p _ hk
     exact ⟨o, e, ex⟩
    ·obtain ⟨_, _, _, _, o, _, _, e, ex, _⟩ := I.hok p _ hk
     exact ⟨o, e, ex⟩
   obtain ⟨o, e, ex⟩ := z
   refine ⟨⟨o, e, ex.1⟩, fun a e2 => ?_⟩
   cases e2
   exact ⟨o, e, ex.2.1⟩
  ·obtain ⟨o, _, _, _, e, ex, _⟩ := I.hok p _ hk
   refine ⟨⟨o, e, ex.1⟩, fun a e2 => ?_⟩
   cases e2
   exact ⟨o, e, ex.2.1⟩
 | _ => exact False.elim ty
noncomputable def tBM (K : PySem.W.Frag) (T : String) (r : V → List V → Hp → VK → Prop) (to : TE) (t : TA) : TE := fun σ H Q => to σ H fun x H1 => tyV K T x H1 ∧ t σ H1 fun xs H2 => r x xs H2 Q
variable {o e : Expr} {es : List Expr} {to : TE} {t : TA} {name : Str} {apos cpos : Pos} {T id : String} {r : V → List V → Hp → VK → Prop}
theorem pe_bm (pa : PlainAttrs T) (slot : Slot T name id) (hty : typeOf (.builtin id) = pure (.type "method_descriptor")) (hm : MtR X id r) (ho : PE X o to) (ha : PA X (e :: es) t)
  (hbase : attributeBase o name X.env (eval o X.env) = eval o X.env := by rfl)
  (hfew : ((backTo cpos (starEach (e :: es) X.env)).all (fun x => !x.1) && (backToKw cpos (keywordEach [] X.env)).all (fun x => x.1.isSome)
   && decide ((e :: es).length + ([] : List Keyword).length + (if ([] : List Keyword).isEmpty then 0 else 1) < 30)) = true := by rfl)
  (hline : (apos.endLine == cpos.line) = true := by rfl) (hs : starEach (e :: es) X.env = (false, eval e X.env) :: starEach es X.env := by rfl) (hplain : (backTo cpos (starEach es X.env)).any (·.1) = false := by rfl) :
  PE X (.Call (.Attribute o name apos) (e :: es) [] cpos) (tBM X.K T r to t) := by
 intro pins s σ H Q I h
 refine wpAny_Call_method_late hbase hfew hline rfl (thn (ho pins s σ H _ I h) fun v s1 ⟨x, H1, I1, r1, ty, q1⟩ => ?_)
 obtain ⟨h1, h2⟩ := tyV_is I1 r1 ty
 refine ⟨T, id, pa, slot, hty, h1, h2, ?_⟩
 have hA := ha cpos pins s1 σ H1 _ I1 q1
 rw [hs] at hA ⊢
 refine Calls.callWith_builtin (by show (false || (backTo cpos (starEach es X.env)).any (·.1)) = false; rw [hplain] <;> rfl) (Calls.evalArgs_plain ?_)
 exact thn hA fun us s2 ⟨vs, H2, I2, r2, q2⟩ => hm pins s2 σ H2 x vs v us Q I2 r1 r2 q2
end
end L2
namespace L2
open PySem PySem.Spec PyProof.Rows
noncomputable def MtM (X : Cx) (id : String) (r : V → List V → Hp → VK → Prop) : Prop :=
 ∀ (pins : List (Addr × Obj)) (s : Shared) (σ : St) (H : Hp) (x : V) (xs : List V) (v : Value) (us : List Value) (Q : VK), Inv X pins σ H s → RelV x v → Vals xs us → r x xs H Q →
  wpAny (model X.prog X.w) X.A (call (.builtin id) (v :: us)) (EP X pins σ Q) X.xe s
theorem Vals.one : ∀ {x : V} {us : List Value}, Vals [x] us → ∃ u, us = [u] ∧ RelV x u
 | _, _, .cons r .nil => ⟨_, rfl, r⟩
section
variable {X : Cx} {pins : List (Addr × Obj)} {σ : St} {H : Hp} {s : Shared} {l b : Addr} {xs ys zs : List V}
theorem Inv.lset {its its' : List Value} {n : Nat} {f : Array Value → Array Value} {t' : Nat} (I : Inv X pins σ H s) (hH : H l = some (.lst xs))
  (e : s.heap.get? l = some { cls := .type "list", data := .seq its.toArray n }) (hf : f its.toArray = its'.toArray) (hv : Vals ys its') (hz : ys.length ≤ sizeLine) :
  Inv X pins σ (upd H l (.lst ys)) { s with heap := s.heap.update l (Obj.mapSeq f), toks := t' } := by
 have q := PySem.IsL.update e f
 rw [hf] at q
 refine I.write (x := l) (e := l) (by rw [hH]; exact trivial) (.inl rfl) (fun b' u hb hu => (Heap.get?_update_other s.heap (Obj.mapSeq f) (Ne.symm hb)).trans hu) ⟨_, q⟩ ?_
 exact ⟨hz, its', _, hv, q⟩
theorem Inv.lnew {its : List Value} {t' : Nat} (I : Inv X pins σ H s) (hv : Vals ys its) (hz : ys.length ≤ sizeLine) :
  Inv X pins σ (upd H s.heap.objs.size (.lst ys)) { s with heap := s.heap.push { cls := .type "list", data := .seq its.toArray }, toks := t' } :=
 I.laid (fun _ _ q => Heap.get?_push_of_some _ q) (Nat.le_refl _) ⟨hz, its, 0, hv, Heap.get?_push_size _ rfl⟩
theorem Inv.fresh (I : Inv X pins σ H s) : H s.heap.objs.size = none := I.hok.fresh (Nat.le_refl _)
theorem Inv.lstM (I : Inv X pins σ H s) (hH : H l = some (.lst xs)) : xs.length ≤ sizeLine ∧ ∃ (its : List Value) (n : Nat), Vals xs its ∧ xs.length = its.length ∧ s.heap.get? l = some { cls := .type "list", data := .seq its.toArray n } := by
 obtain ⟨z, its, n, r, e⟩ := I.hok l _ hH
 exact ⟨z, its, n, r, r.length, e⟩
end
section
variable {X : Cx}
noncomputable def rAppend : V → List V → Hp → VK → Prop := fun x vs H Q => ∃ l xs y, x = .ref l ∧ vs = [y] ∧ H l = some (.lst xs) ∧ xs.length < sizeLine ∧ Q .non (upd H l (.lst (xs ++ [y])))
theorem mt_append : MtM X "list.append" rAppend := by
 intro pins s σ H x vs v us Q I rx rv h
 obtain ⟨l, xs, y, rfl, rfl, hH, hz, q⟩ := h
 cases rx
 obtain ⟨u, rfl, ru⟩ := rv.one
 obtain ⟨z, its, n, r, hl, e⟩ := I.lstM hH
 refine call_meets F.slot_list_append ⟨_, e, rfl⟩ F.entry_list_append (F.args_list_append_2 _ _) (PySem.list_append l its.toArray n u (by rw [List.size_toArray]; omega)) ⟨e, ?_⟩
 refine ⟨.non, _, I.lset (its' := its ++ [u]) hH e (by simp) (r.append (.cons ru .nil)) ?_, rfl, q⟩
 rw [List.length_append, List.length_singleton]
 omega
end
section
variable {prog : Program} {w : World} {A : Around} {E : Value → Shared → Prop} {s : Shared}
end
section
variable {X : Cx}
end
end L2
namespace Att
open PySem PySem.W PySem.Calls PyProof.Rows
theorem ints_of_wellAll {P : Params} {h : Heap} : ∀ (ns : List Int) (vs : List Value), WellAll P h vs (ns.map WData.int) → IntsAre vs ns := by
 intro ns
 induction ns with
 | nil =>
  intro vs w
  rw [List.map_nil] at w
  cases w
  exact .nil
 | cons n ns ih =>
  intro vs w
  rw [List.map_cons] at w
  cases w with
  | cons a b =>
   cases a
   exact .cons _ _ (ih _ b)
theorem script_of {l : OpenLaw} {n : Nat} (hn : l.most = some n) {P : Params} {h : Heap} {args : List WData} {vals : List Value}
  (hpre : l.row.toRowW.claim.pre args = true) (hwl : WellAll P h vals args) :
  ∃ a vs ns, vals = [Value.ref a] ∧ args = [WData.list (ns.map WData.int)] ∧ h.get? a = some { cls := .type "list", data := .seq vs.toArray } ∧ IntsAre vs ns ∧ ns.length ≤ n := by
 have hsh : WShape.hasAll [] args [.list .int] = true := (pre_splitW hpre).1
 have hc : l.pre.holds [] { args := args } = true := (pre_splitW hpre).2
 obtain ⟨d, r, rfl, h1, h2⟩ := hasAllW_cons hsh
 obtain rfl := hasAllW_nil h2
 obtain ⟨xs, rfl, h3⟩ := hasW_list h1
 obtain ⟨ns, rfl⟩ := items_int h3
 have hlen : ns.length ≤ n := by
  unfold OpenLaw.pre at hc
  have h4 : (WTm.not (.lt (.lit (.int (n : Int))) (.len (.arg 0)))).holds [] { args := [.list (ns.map .int)] } = true := by
   have h4 := (holds_andW hc).1
   rw [hn] at h4
   exact h4
  have h5 := condW_of h4 (w_not (w_lt w_lit (w_len_list (w_arg rfl))))
  rw [List.length_map] at h5
  refine Nat.le_of_not_lt fun q => ?_
  have q' : (n : Int) < ((ns.length : Nat) : Int) := by omega
  first
   | (rw [decide_eq_true q'] at h5; exact absurd h5 (by decide))
   | (simp at h5; omega)
 cases hwl with
 | cons w1 w2 =>
  cases w2
  cases w1 with
  | list ho hall => exact ⟨_, _, ns, rfl, rfl, ho, ints_of_wellAll ns _ hall, hlen⟩
theorem post_true (l : OpenLaw) (args : List WData) : l.row.toRowW.claim.post args (.bool true) args = true :=
 postW_of (r := l.row.toRowW) (X := (true == true))
  (show WShape.has [] (.bool true) .bool = true by first | rfl | decide | simp [WShape.has, WShape.arms, WShape.armsAll])
  (show (WTm.eq .res (.lit (.bool true))).value [] { args := args, res := some (.bool true), after := args } = some (.bool (true == true)) from w_eq_bool (w_res rfl) w_lit) rfl
theorem attach_call {l : OpenLaw} {n : Nat} {q : Program} {loose : List Str} {XP : (Str → Option Value) → Heap → Prop} {YP : World → Heap → Prop} {d : DefRec}
  (hn : l.most = some n) (hdf : d.params.defaults = [])
  (call : ∀ (w : World) (s₀ s₁ : Shared) (mg mb : Str → Option Value) (fa : Addr) (o : Obj) (pm cd doc : Value) (a : Addr) (vs : List Value) (ns : List Int),
   Ground q loose [] XP w s₀ mg mb s₁.heap → YP w s₁.heap →
   s₁.heap.get? fa = some o → o.data = .func (docDef d.name d.params d.body d.scope pm cd doc) → s₁.heap.CodeRec cd d.name → mg d.name = some (.ref fa) →
   s₁.heap.get? a = some { cls := .type "list", data := .seq vs.toArray } → IntsAre vs ns → ns.length ≤ n → s₁.gens = #[] →
   codeAny (model l.prog w) callerA (.call (.ref fa) ⟨[.ref a], []⟩) (fun r s' => r = .ok (.ret (.bool true)) ∧ OldK s₁.heap s'.heap ∧ s'.os = s₁.os ∧ AllBare s'.gens) s₁) :
  WalkO q loose XP YP l.row.toRowW d [] (fun f vs => PySem.call f vs) := by
 intro w s₀ s₁ mg mb G Y fa o pm cd doc dV kV ho hd hcd hD hmg hg args vals as hpre hlay hrd hwl hlo
 obtain rfl : dV = .none := Dflts.none hD hdf
 obtain rfl : kV = .none := Dflts.noKw hD
 obtain ⟨a, vs, ns, rfl, rfl, hobj, hints, hlen⟩ := script_of hn hpre hwl
 refine enter_call (codeAny_mono (call w s₀ s₁ mg mb fa o pm cd doc a vs ns G Y ho (fd_plain hd) hcd hmg hobj hints hlen hg) fun r s' hq => ?_)
 obtain ⟨rfl, h2, h3, h4⟩ := hq
 exact ⟨.inl ⟨.bool true, .bool true, [], rfl, fun _ => rfl, .bool true, post_true l _, fun _ => ⟨List.Pairwise.nil, fun _ hm => (nomatch hm)⟩⟩, h2, h3, h4⟩
section
variable {prog : Program} {w : World} {A : Around} {E : Value → Shared → Prop} {s : Shared} {K : Frag}
end
end Att
namespace L2
open PySem PySem.Spec PyProof.Rows
noncomputable def KL (K : PySem.W.Frag) (a : Addr) (xs : List V) : Prop :=
 ∃ (its : List Value) (n : Nat), K.lookup a = some { cls := .type "list", data := .seq its.toArray n } ∧ its.length ≤ sizeLine ∧ Vals xs its
noncomputable def Ls (K : PySem.W.Frag) (H : Hp) (a : Addr) (xs : List V) : Prop := Rd H a (.lst xs) ∨ KL K a xs
theorem vals_ints : ∀ {vs : List Value} {ns : List Int}, IntsAre vs ns → Vals (ns.map V.int) vs
 | _, _, .nil => .nil
 | _, _, .cons n t h => .cons ⟨t, rfl⟩ (vals_ints h)
noncomputable def Only (H : Hp) : Prop := ∀ b, H b = none ∨ ∃ o xs, H b = some (.frz o (.lst xs))
theorem law_call {P : Program} {w : World} {K : PySem.W.Frag} {mg mb : Str → Option Value} {CX : CXT} {k : Nat} {fa a : Addr} {fd : FuncData} {x : Str} {sp : Sp} {s₁ : Shared} {vs : List Value} {ns : List Int}
  (KX : K.In s₁.heap) (hns : s₁.heap.Ns mainGlobals mg) (hb : s₁.heap.Ns builtinsNs mb) (hbb : ∀ x : Str, x ≠ "__name__" → mb x = bootBuiltins x) (hlim : s₁.heap.NoLimit) (hg : s₁.gens = #[])
  (ha : s₁.heap.get? a = some { cls := .type "list", data := .seq vs.toArray }) (hi : IntsAre vs ns) (hl : ns.length ≤ sizeLine) (hr : Room k callerA)
  (F : ∀ base : Heap, K.In base → base.Ns mainGlobals mg → FnOk P w K mg base CX k fa fd [x] sp) (hbind : ∀ (s : Shared) (u : Value), BindsTo s fd ⟨[u], []⟩ [(x, u)])
  (hsp : ∀ H : Hp, Only H → Ls K H a (ns.map V.int) → sp [.ref a] H (fun v _ => v = .bl true) fun _ _ _ => False)
  (hCX : ∀ H e s', CX [] H s₁ (fun _ _ _ => False) e s' → False) :
  codeAny (model P w) callerA (.call (.ref fa) ⟨[.ref a], []⟩) (fun r s' => r = .ok (.ret (.bool true)) ∧ OldK s₁.heap s'.heap ∧ s'.os = s₁.os ∧ AllBare s'.gens) s₁ := by
 have rv := vals_ints hi
 have lenV := hi.length
 -- from an abstract heap in which nothing but the script may be tracked
 have core : ∀ H : Hp, Only H → Ls K H a (ns.map V.int) → HOk P w H s₁.heap → (∀ b, H b ≠ none → b = a) → (H a ≠ none → K.lookup a = none) →
   codeAny (model P w) callerA (.call (.ref fa) ⟨[.ref a], []⟩) (fun r s' => r = .ok (.ret (.bool true)) ∧ OldK s₁.heap s'.heap ∧ s'.os = s₁.os ∧ AllBare s'.gens) s₁ := by
  intro H hO hS hok hA hK
  have base_of : ∀ {b : Addr} {o : Obj}, s₁.heap.get? b = some o → H b = none → (hidT s₁.heap H).get? b = some o := fun e n => hidT_get e n
  have noA : ∀ {b : Addr} {o : Obj} {es : Array DictEntry} {ep : Nat}, s₁.heap.get? b = some o → o.data = .dict es ep → H b = none := fun {b o es ep} e d => by
   cases q : H b with
   | none => rfl
   | some u =>
    have e' : b = a := hA b (by rw [q]; simp)
    subst e'
    rw [ha] at e; cases e
    have d' : Data.seq vs.toArray _ = Data.dict es ep := d
    cases d'
  have nsK : ∀ {b : Addr} {m : Str → Option Value}, s₁.heap.Ns b m → (hidT s₁.heap H).Ns b m := fun {b m} ⟨o, es, ep, e, d, r⟩ => ⟨o, es, ep, base_of e (noA e d), d, r⟩
  have hKb : K.In (hidT s₁.heap H) := fun b o e => base_of (KX b o e) (by
   cases q : H b with
   | none => rfl
   | some u =>
    have e' : b = a := hA b (by rw [q]; simp)
    subst e'
    rw [hK (by rw [q]; simp)] at e; cases e)
  have hM : Mod K mg (hidT s₁.heap H) := ⟨hKb, nsK hns, ⟨mb, nsK hb, hbb⟩, let ⟨mc, h1, h2⟩ := hlim; ⟨mc, nsK h1, h2⟩⟩
  have e0 : Env0 P w K mg (hidT s₁.heap H) callerA [] s₁ H := ⟨rfl, hM, fun b o e => of_hidT e, Nat.le_of_eq (hidT_size _ _), trivial, fun b hb => absurd (show b ∈ ([] : List Addr) from hb) (by simp), hok, .of_eq hg⟩
  refine codeAny_mono ((F _ hKb (nsK hns)).run callerA [] s₁ H ⟨[.ref a], []⟩ [.ref a] [.ref a] _ _ hr e0 (hbind s₁ (.ref a)) (.cons rfl .nil) (hsp H hO hS)) fun r s' h => ?_
  cases r with
  | error e => exact (hCX H e s' h).elim
  | ok fl =>
   cases fl with
   | next => exact False.elim h
   | brk => exact False.elim h
   | cont => exact False.elim h
   | ret u =>
    obtain ⟨v, H', os, bare, un, hok', r', q⟩ := h
    have q' : v = .bl true := q
    subst q'
    obtain rfl : u = Value.bool true := r'
    refine ⟨rfl, OldK.of_keep fun b o e => ?_, os, bare⟩
    cases q : H b with
    | none => exact un.keep b o e q (by intro z; exact absurd (show b ∈ ([] : List Addr) from z) (by simp)) (by simp)
    | some u =>
     rcases hO b with z | ⟨ob, xs, z⟩
     ·rw [q] at z; cases z
     ·have z2 := un.frzs b ob _ z
      obtain ⟨e1, _⟩ := hok b _ z
      obtain ⟨e2, _⟩ := hok' b _ z2
      rw [e] at e1; cases e1
      exact e2
 cases hk : K.lookup a with
 | some o =>
  -- the script is one of the module's own objects
  have e := KX a o hk
  rw [ha] at e
  cases e
  refine core (fun _ => none) (fun _ => .inl rfl) (.inr ⟨vs, _, hk, by rw [lenV]; exact hl, rv⟩) (fun b u z => by have z' : (none : Option HO) = some u := z; cases z') (fun b z => absurd rfl z) fun z => absurd rfl z
 | none =>
  refine core (fun b => if b = a then some (.frz { cls := .type "list", data := .seq vs.toArray } (.lst (ns.map V.int))) else none) (fun b => ?_) (.inl (.inr ⟨{ cls := .type "list", data := .seq vs.toArray }, if_pos rfl⟩)) (fun b u z => ?_) (fun b z => ?_) fun _ => hk
  ·by_cases hb : b = a
   ·exact .inr ⟨_, _, if_pos hb⟩
   ·exact .inl (if_neg hb)
  ·by_cases hb : b = a
   ·have z' := (if_pos hb).symm.trans z
    cases z'
    subst hb
    exact ⟨ha, by rw [List.length_map]; exact hl, vs, _, rv, ha⟩
   ·have z' := (if_neg hb).symm.trans z
    cases z'
  ·by_cases hb : b = a
   ·exact hb
   ·exact absurd (if_neg hb) z
end L2
namespace L2
open PySem PySem.Spec PyProof.Rows
theorem walk_of {l : PySem.W.OpenLaw} {n k : Nat} {q : Program} {loose : List Str} {XP : (Str → Option Value) → Heap → Prop} {YP : World → Heap → Prop} {d : DefRec} {K : Params → PySem.W.Frag} {CX : World → CXT} {sp : World → Sp} {x : Str}
  (hn : l.most = some n) (hn2 : n ≤ sizeLine) (hdf : d.params.defaults = []) (hr : Room k callerA)
  (hY : ∀ (w : World) (h : Heap), YP w h → (K w.params).In h)
  (F : ∀ (w : World) (mg : Str → Option Value) (fa : Addr) (h : Heap), (K w.params).In h → h.Ns mainGlobals mg → mg d.name = some (.ref fa) →
   ∃ fd : FuncData, (∀ (s : Shared) (u : Value), BindsTo s fd ⟨[u], []⟩ [(x, u)]) ∧
    ∀ base : Heap, (K w.params).In base → base.Ns mainGlobals mg → FnOk l.prog w (K w.params) mg base (CX w) k fa fd [x] (sp w))
  (hsp : ∀ (w : World) (H : Hp) (a : Addr) (ns : List Int), ns.length ≤ n → Only H → Ls (K w.params) H a (ns.map V.int) → sp w [.ref a] H (fun v _ => v = .bl true) fun _ _ _ => False)
  (hCX : ∀ (w : World) (H : Hp) (s : Shared) (e : Value) (s' : Shared), CX w [] H s (fun _ _ _ => False) e s' → False) :
  PySem.W.WalkO q loose XP YP l.row.toRowW d [] (fun f vs => PySem.call f vs) := by
 refine Att.attach_call hn hdf fun w s₀ s₁ mg mb fa o pm cd doc a vs ns G Y ho hd hcd hmg hobj hints hlen hg => ?_
 have KX := hY w _ Y
 obtain ⟨fd, hb, hF⟩ := F w mg fa _ KX G.T.g hmg
 exact law_call KX G.T.g G.T.b G.T.builtins G.T.nolimit hg hobj hints (Nat.le_trans hlen hn2) hr hF hb (fun H hO hS => hsp w H a ns hlen hO hS) fun H e s' => hCX w H s₁ e s'
end L2
namespace L2
open PySem PySem.Spec PyProof.Rows
noncomputable def defArgs (s : Stmt) : Arguments := match s with
 | .FunctionDef _ a _ _ _ _ _ _ _ _ => a
 | _ => { posonlyargs := [], args := [], vararg := none, kwonlyargs := [], kw_defaults := [], kwarg := none, defaults := [] }
noncomputable def defBody (s : Stmt) : List Stmt := match s with
 | .FunctionDef _ _ b _ _ _ _ _ _ _ => b
 | _ => []
noncomputable def defScope (s : Stmt) : Scope := match s with
 | .FunctionDef _ _ _ _ _ _ sc _ _ _ => sc
 | _ => { kind := .function, names := [], isGenerator := false, isCoroutine := false }
noncomputable abbrev CX0 : CXT := fun _ _ _ _ _ _ => False
noncomputable abbrev E0 : XK := fun _ _ _ => False
theorem pass0 {X : Cx} : Passes CX0 X E0 := fun _ _ _ _ _ _ _ h => h.elim
structure Fun (K : PySem.W.Frag) (x qual : Str) (st : Stmt) (f : Addr) (fd : FuncData) : Prop where
 ex : ∃ (oc : Value) (od : Option Addr) (kV doc pm : Value) (an : Option Addr) (cdv ct : Value) (osl : Array (Option Value)),
  fd = PySem.W.fnOf x qual (defArgs st) (defBody st) (defScope st) .none kV doc pm an cdv ct ∧ K.lookup f = some ⟨oc, od, .func fd, osl⟩ ∧ PySem.W.codeIn K cdv qual = true
 kp : PySem.W.keepIn K (.ref f) = true
section
variable {P : Program} {w : World} {K : PySem.W.Frag} {mg : Str → Option Value} {base : Heap}
theorem Fun.ok {x qual : Str} {st : Stmt} {f : Addr} {fd : FuncData} {N ps : List Str} {k : Nat} {sp : Sp} (F : Fun K x qual st f fd) (S : FnScope N ps (defScope st)) (len : ∀ vs H Q E, sp vs H Q E → vs.length = ps.length)
  (hbody : ∀ (cdv : Value) (A : Around) (outer : List Env) (s : Shared) (H : Hp) (vs : List V) (Q : VK) (E : XK), Room k (A.deeper (envOfC qual (defScope st) s.heap.objs.size f cdv)) → sp vs H Q E →
   ∃ t, PSs (cxOf CX0 P w K mg base N qual (defScope st) f cdv A outer s H E).nox (defBody st) t ∧ t { nx := fun _ H' => Q .non H', rt := Q } (start N vs) H) : FnOk P w K mg base CX0 (k + 1) f fd ps sp := by
 obtain ⟨oc, od, kV, doc, pm, an, cdv, ct, osl, rfl, lk, hcd⟩ := F.ex
 refine fn_of lk hcd S len fun A outer s H vs Q E hr hsp => ?_
 obtain ⟨t, h, q⟩ := hbody cdv A outer s H vs Q E hr hsp
 exact ⟨t, h.nox, q⟩
theorem Fun.binds {x qual : Str} {st : Stmt} {f : Addr} {fd : FuncData} {ps : List Str} (F : Fun K x qual st f fd)
  (h : ∀ (kV doc pm : Value) (an : Option Addr) (cdv ct : Value) (us : List Value), us.length = ps.length → bindArgs (PySem.W.fnOf x qual (defArgs st) (defBody st) (defScope st) .none kV doc pm an cdv ct) ⟨us, []⟩ = pure (ps.zip us)) : Binds K fd ps [] := by
 obtain ⟨oc, od, kV, doc, pm, an, cdv, ct, osl, rfl, lk, hcd⟩ := F.ex
 exact .all (h kV doc pm an cdv ct)
theorem fun_mk {x qual : Str} {st : Stmt} {f : Addr} {oc : Value} {od an : Option Addr} {osl : Array (Option Value)} {kV doc pm cdv ct : Value} (l : K.lookup f = some ⟨oc, od, .func (PySem.W.fnOf x qual (defArgs st) (defBody st) (defScope st) .none kV doc pm an cdv ct), osl⟩)
  (c : PySem.W.codeIn K cdv qual = true) (k : PySem.W.keepIn K (.ref f) = true) : Fun K x qual st f (PySem.W.fnOf x qual (defArgs st) (defBody st) (defScope st) .none kV doc pm an cdv ct) := ⟨⟨oc, od, kV, doc, pm, an, cdv, ct, osl, rfl, l, c⟩, k⟩
end
section
variable {X : Cx}
end
noncomputable def Same (H H' : Hp) : Prop := ∀ b o, H b = some o → H' b = some o
theorem Same.refl (H : Hp) : Same H H := fun _ _ h => h
theorem Same.trans {H H1 H2 : Hp} (a : Same H H1) (b : Same H1 H2) : Same H H2 := fun c o h => b c o (a c o h)
theorem Same.free {H H' : Hp} (e : Same H H') {l : Addr} (h : H' l = Option.none) : H l = Option.none := by
 cases q : H l with
 | none => rfl
 | some o =>
  rw [e l o q] at h
  cases h
theorem Same.seq {K : PySem.W.Frag} {H H' : Hp} {a : Addr} {xs : List V} (e : Same H H') (h : SqL K H a xs) : SqL K H' a xs := by
 rcases h with (h | ⟨o, h⟩) | h
 ·exact .inl (.inl (e _ _ h))
 ·exact .inl (.inr ⟨o, e _ _ h⟩)
 ·exact .inr h
end L2
namespace L2
open PySem PySem.Spec PyProof.Rows
theorem peMono {X : Cx} {e : Expr} {t t' : TE} (h : PE X e t) (m : ∀ σ H Q, t' σ H Q → t σ H Q) : PE X e t' := fun pins s σ H Q I q => h pins s σ H Q I (m σ H Q q)
theorem ptMono {X : Cx} {e : Expr} {t t' : TT} (h : PT X e t) (m : ∀ σ H Q, t' σ H Q → t σ H Q) : PT X e t' := fun pins s σ H Q I q => h pins s σ H Q I (m σ H Q q)
theorem paMono {X : Cx} {e : List Expr} {t t' : TA} (h : PA X e t) (m : ∀ σ H Q, t' σ H Q → t σ H Q) : PA X e t' := fun pos pins s σ H Q I q => h pos pins s σ H Q I (m σ H Q q)
theorem psMono {X : Cx} {e : Stmt} {t t' : TS} (h : PS X e t) (m : ∀ D σ H, t' D σ H → t D σ H) : PS X e t' := fun pins s σ H D I q => h pins s σ H D I (m D σ H q)
theorem pssMono {X : Cx} {e : List Stmt} {t t' : TS} (h : PSs X e t) (m : ∀ D σ H, t' D σ H → t D σ H) : PSs X e t' := fun pins s σ H D I q => h pins s σ H D I (m D σ H q)
theorem piMono {X : Cx} {tg e : Expr} {t t' : TI} (h : PI X tg e t) (m : ∀ σ H Q, t' σ H Q → t σ H Q) : PI X tg e t' := fun pins s σ H Q I q => h pins s σ H Q I (m σ H Q q)
noncomputable def cxC (X : Cx) (scope : Scope) (cl : List (Str × Addr)) (N : List Str) (C : Addr) (s3 : Shared) (H3 : Hp) (fp : List Addr) : Cx :=
 { X with N := N, s₀ := s3, H₀ := H3, env := compEnvC scope cl C X.env, outer := X.stack, ex := fp, fn := fun _ => false, pn := [], xe := fun _ _ => False }
structure CompSc (X : Cx) (scope : Scope) (cl : List (Str × Addr)) (Fr : List (Str × Nat)) (Tg : List Str) : Prop where
 clos : closureFor scope X.env = pure cl
 kind : scope.kind = .function
 nocell : ∀ y ∈ scope.names, y.2 ≠ .cell
 loc : ∀ y ∈ scope.names, y.2 = .local → scope.names.lookup y.1 = some .local
 sub : ∀ x c, cl.lookup x = some c → X.env.cells.lookup x = some c
 has : ∀ x, ((relabel scope X.env).names.lookup x = some .cell ∨ (relabel scope X.env).names.lookup x = some .free) → ∃ c, cl.lookup x = some c
 out : ∀ p ∈ Fr, X.N[p.2]? = some p.1 ∧ (X.env.kindOf p.1 = some .cell ∨ X.env.kindOf p.1 = some .free) ∧ ((relabel scope X.env).names.lookup p.1 = some .cell ∨ (relabel scope X.env).names.lookup p.1 = some .free)
noncomputable def stC (Fr : List (Str × Nat)) (Tg : List Str) (σ : St) : St := Fr.map (fun p => (σ[p.2]?).join) ++ List.replicate Tg.length none
section
variable {X : Cx} {scope : Scope} {cl : List (Str × Addr)} {Fr : List (Str × Nat)} {Tg : List Str} {pins : List (Addr × Obj)} {σ : St} {H3 : Hp} {s3 : Shared} {fp : List Addr}
theorem cxC_ok (S : CompSc X scope cl Fr Tg) (I : Inv X pins σ H3 s3) (hf : ∀ b ∈ fp, FpOk X pins H3 b) (hfs : ∀ b ∈ fp, b < s3.heap.objs.size) (N : List Str) : (cxC X scope cl N s3.heap.objs.size s3 H3 fp).Ok where
 mod := I.ok.mod
 kind := S.kind
 glob := I.ok.glob
 blt := I.ok.blt
 above := Nat.le_refl _
 inj := fun x y c h1 h2 => I.ok.inj x y c (S.sub x c h1) (S.sub y c h2)
 has := fun x h => S.has x h
 cab := fun x c h _ => absurd (show false = true from h) (by decide)
 hd := I.ok.hd
 frames := I.ok.frames
 stk := .inl rfl
 exf := fun b hb => ⟨Nat.ne_of_lt (hfs b hb), fun x c e z => (hf b hb).2.2.2.2.1 x c (S.sub x c e) z⟩
 bs := I.bs
 bsz := Nat.le_trans I.ok.bsz I.sz
 noex := fun b o e hb => by
  rcases (hf b hb).2.2.2.1 with z | z
  ·exact I.ok.noex b o e z
  ·exact absurd (Nat.lt_of_lt_of_le (Heap.lt_size e) (Nat.le_trans I.ok.bsz z)) (Nat.lt_irrefl _)
 exfs := fun b hb z => by
  rcases List.mem_cons.mp (I.stkSub b z) with z | z
  ·exact (hf b hb).2.1 z
  ·exact (hf b hb).2.2.1 z
 funs := I.stack
 frf := I.stkFree
theorem cxC_start (S : CompSc X scope cl Fr Tg) (I : Inv X pins σ H3 s3) (hf : ∀ b ∈ fp, FpOk X pins H3 b) (hfs : ∀ b ∈ fp, b < s3.heap.objs.size) {h' : Heap} {tk : Nat}
  (hns : h'.Ns s3.heap.objs.size (fun _ => none)) (hk : ∀ b o, s3.heap.get? b = some o → h'.get? b = some o) (hTg : ∀ x ∈ Tg, True) :
  Inv (cxC X scope cl (Fr.map (·.1) ++ Tg) s3.heap.objs.size s3 H3 fp) [] (stC Fr Tg σ) H3 { s3 with heap := h', toks := tk } where
 ok := cxC_ok S I hf hfs _
 os := rfl
 bare := I.bare
 base := Un.kept hk
 loc := by
  refine ⟨_, hns, fun i x v e1 e2 e3 => ?_⟩
  have hi : i < Fr.length := by
   by_cases hi : i < Fr.length
   ·exact hi
   ·unfold stC at e2
    rw [List.getElem?_append_right (by simpa using hi), List.getElem?_replicate] at e2
    split at e2 <;> cases e2
  have e1' : (Fr.map (·.1))[i]? = some x := by
   rw [← e1]
   exact (List.getElem?_append_left (by simpa using hi)).symm
  have e2' : (Fr.map (fun p => (σ[p.2]?).join))[i]? = some (some v) := by
   rw [← e2]
   exact (List.getElem?_append_left (by simpa using hi)).symm
  rw [List.getElem?_map] at e1' e2'
  obtain ⟨p, hp, rfl⟩ := Option.map_eq_some_iff.mp e1'
  rw [hp] at e2'
  have e2'' : (σ[p.2]?).join = some v := Option.some.inj e2'
  have e4 : σ[p.2]? = some (some v) := by
   cases q : σ[p.2]? with
   | none => rw [q] at e2''; cases e2''
   | some y => rw [q] at e2''; rw [show y = some v from e2'']
  obtain ⟨o1, o2, o3⟩ := S.out p (List.mem_of_getElem? hp)
  obtain ⟨m, hn, hl⟩ := I.loc
  have hv : Vis X.env.scope p.1 := by
   rcases o2 with o2 | o2
   ·exact .inr (.inl o2)
   ·exact .inr (.inr o2)
  obtain ⟨u, r, l⟩ := hl p.2 p.1 v o1 e4 hv
  refine ⟨u, r, .inr ⟨o3, ?_⟩⟩
  obtain ⟨c, hc⟩ := S.has p.1 o3
  refine ⟨c, hc, ?_⟩
  have hc' := S.sub _ _ hc
  rcases l with ⟨k, _⟩ | ⟨_, c2, h2, z⟩
  ·rcases o2 with o2 | o2 <;> (rw [k] at o2; cases o2)
  ·rw [hc'] at h2; cases h2
   obtain ⟨o, ho, hd⟩ := z
   exact ⟨o, hk _ _ ho, hd⟩
 cell := fun x c e => by
  obtain ⟨v, o, ho, hd⟩ := I.cell x c (S.sub x c e)
  exact ⟨v, o, hk _ _ ho, hd⟩
 free := I.hok.fresh (Nat.le_refl _)
 freeC := fun x c e => I.freeC x c (S.sub x c e)
 pin := fun p hp => absurd (show p ∈ ([] : List (Addr × Obj)) from hp) (by simp)
 hok := I.hok.kept hk
 len := by
  unfold stC
  show _ = (Fr.map (·.1) ++ Tg).length
  simp
end
noncomputable def PTs (X : Cx) (ifs : List Expr) (t : TT) : Prop :=
 ∀ (pins : List (Addr × Obj)) (s : Shared) (σ : St) (H : Hp) (Q : Bool → Hp → Prop), Inv X pins σ H s → t σ H Q →
  wpAny (model X.prog X.w) X.A (forIn ifs true fun c r => if r = true then do let ok ← isTrue c X.env (eval c X.env); pure (ForInStep.yield ok) else pure (ForInStep.yield r)) (TP X pins σ Q) X.xe s
theorem tests_false {M : Model} {A : Around} {E : Value → Shared → Prop} {s : Shared} {env : Env} {Q : Bool → Shared → Prop} (h : Q false s) : ∀ ifs : List Expr,
  wpAny M A (forIn ifs false fun c r => if r = true then do let ok ← isTrue c env (eval c env); pure (ForInStep.yield ok) else pure (ForInStep.yield r)) Q E s
 | [] => by
  rw [List.forIn_nil]
  exact wpAny_pure h
 | c :: cs => by
  rw [List.forIn_cons]
  rw [if_neg Bool.false_ne_true]
  exact wpAny_bind (wpAny_pure (tests_false h cs))
theorem pts_nil {X : Cx} : PTs X [] (fun _ H Q => Q true H) := fun pins s σ H Q I q => by
 rw [List.forIn_nil]
 exact wpAny_pure ⟨H, I, q⟩
theorem pts_cons {X : Cx} {c : Expr} {cs : List Expr} {t u : TT} (hc : PT X c t) (hr : PTs X cs u) : PTs X (c :: cs) (tAnd t u) := fun pins s σ H Q I q => by
 rw [List.forIn_cons, if_pos rfl]
 refine wpAny_bind (wpAny_bind (thn (hc pins s σ H _ I q) fun b s1 ⟨H1, I1, q1⟩ => wpAny_pure ?_))
 cases b with
 | true => exact hr pins s1 σ H1 Q I1 q1
 | false => exact tests_false ⟨H1, I1, q1⟩ cs
noncomputable def tCmpr (wi : TI) (start : St → St) (g : TG) (tt : TT) (te : TE) : TE := fun σ H Q => wi σ H fun J H1 => ∀ D, H1 D = none → ∃ W : Nat → Nat → St → Hp → Prop, (∃ m, W 0 m (start σ) (upd H1 D (.lst []))) ∧
 ∀ i m σ' H', W i m σ' H' → (J.stop i H' ∧ Q (.ref D) H') ∨ (J.go i H' ∧ ∀ x H2, J.yld i H' x H2 → g x σ' H2 fun σ2 H3 => tt σ2 H3 fun b H4 =>
  if b = true then te σ2 H4 fun v H5 => ∃ ys, H5 D = some (.lst ys) ∧ ys.length < sizeLine ∧ ∃ m', m' < m ∧ W (i + 1) m' σ2 (upd H5 D (.lst (ys ++ [v])))
  else ∃ m', m' < m ∧ W (i + 1) m' σ2 H4)
section
variable {X : Cx} {scope : Scope} {cl : List (Str × Addr)} {Fr : List (Str × Nat)} {Tg : List Str} {elt tg iter : Expr} {ifs : List Expr} {wi : TI} {g : TG} {tt : TT} {te : TE} {pos : Pos}
theorem compTurn_any (scope : Scope) (pos : Pos) (it acc : Value) (env : Env) :
  compTurn (.ListComp elt [⟨tg, iter, ifs, 0⟩] scope pos) 0 it acc env = (do
   standAt iter.pos
   match ← pyNext it with
   | none => pure (.done .next)
   | some v =>
    letOwnedTupleGo tg it v
    assign tg env v
    let ok ← forIn ifs true fun c r => if r = true then do let ok ← isTrue c env (eval c env); pure (ForInStep.yield ok) else pure (ForInStep.yield r)
    if ok = true then
     (do let _ ← call (.builtin "list.append") [acc, ← eval elt env])
    again (.compLoop (.ListComp elt [⟨tg, iter, ifs, 0⟩] scope pos) 0 it acc env)) := by rfl
theorem comp_block (hc : X.calm = true) (S : CompSc X scope cl Fr Tg)
  (hg : ∀ C s H fp, PG (cxC X scope cl (Fr.map (·.1) ++ Tg) C s H fp) tg g) (ht : ∀ C s H fp, PTs (cxC X scope cl (Fr.map (·.1) ++ Tg) C s H fp) ifs tt)
  (he : ∀ C s H fp, PE (cxC X scope cl (Fr.map (·.1) ++ Tg) C s H fp) elt te)
  {pins : List (Addr × Obj)} {σ : St} {H2 : Hp} {s2 : Shared} {it : Addr} {fp : List Addr} {tn : Nat → Heap → Prop} {J : It} {Q : VK} (I2 : Inv X pins σ H2 s2) (T : Turn X.prog X.w X.K tg J fp it tn) (st2 : tn 0 s2.heap)
  (f2 : ∀ b ∈ fp, FpOk X pins H2 b)
  (q : ∀ D, H2 D = none → ∃ W : Nat → Nat → St → Hp → Prop, (∃ m, W 0 m (stC Fr Tg σ) (upd H2 D (.lst []))) ∧
   ∀ i m σ' H', W i m σ' H' → (J.stop i H' ∧ Q (.ref D) H') ∨ (J.go i H' ∧ ∀ x H2, J.yld i H' x H2 → g x σ' H2 fun σ2 H3 => tt σ2 H3 fun b H4 =>
    if b = true then te σ2 H4 fun v H5 => ∃ ys, H5 D = some (.lst ys) ∧ ys.length < sizeLine ∧ ∃ m', m' < m ∧ W (i + 1) m' σ2 (upd H5 D (.lst (ys ++ [v])))
    else ∃ m', m' < m ∧ W (i + 1) m' σ2 H4))
  {E : Value → Shared → Prop} {RR : Value → Addr → Result → Shared → Prop}
  (hR : ∀ D C s' H', (∃ m, s'.heap.Ns C m) → Inv X pins σ H' s' → FpOk X pins H' C → Q (.ref D) H' → RR (.ref D) C (.ok .next) s') :
  wpAny (model X.prog X.w) X.A (newList []) (fun acc s₃ => wpAny (model X.prog X.w) X.A (newFunctionEnv scope X.env.globals cl [] X.env.qual none .none (some X.env)) (fun cenv s₄ =>
   codeAny (model X.prog X.w) X.A (.compStart (.ListComp elt [⟨tg, iter, ifs, 0⟩] scope pos) 0 (.ref it) acc { cenv with scope := relabel scope X.env }) (RR acc cenv.locals) s₄) E s₃) E s2 := by
 have fsz : ∀ b ∈ fp, b < s2.heap.objs.size := fun b hb => by
  obtain ⟨o, e, _⟩ := T.obj _ _ st2 b hb
  exact Heap.lt_size e
 -- the accumulator
 refine wpAny_newObj_type ?_
 have I3 : Inv X pins σ (upd H2 s2.heap.objs.size (.lst [])) { s2 with heap := s2.heap.push { cls := .type "list", data := .seq ([] : List Value).toArray }, toks := s2.toks } := I2.lnew (ys := []) (its := []) .nil (Nat.zero_le _)
 generalize hD : s2.heap.objs.size = D at I3 ⊢
 have hDn : H2 D = none := by rw [← hD]; exact I2.fresh
 generalize hs3 : ({ s2 with heap := s2.heap.push { cls := .type "list", data := .seq ([] : List Value).toArray }, toks := s2.toks } : Shared) = s3 at I3
 have k3 : ∀ b o, s2.heap.get? b = some o → s3.heap.get? b = some o := fun b o e => by rw [← hs3]; exact Heap.get?_push_of_some _ e
 have sz3 : s3.heap.objs.size = D + 1 := by rw [← hs3, ← hD]; exact Heap.size_push ..
 have fszD : ∀ b ∈ fp, b < D := fun b hb => by rw [← hD]; exact fsz b hb
 have fsz3 : ∀ b ∈ fp, b < s3.heap.objs.size := fun b hb => by rw [sz3]; exact Nat.lt_succ_of_lt (fszD b hb)
 have f3 : ∀ b ∈ fp, FpOk X pins (upd H2 D (.lst [])) b := fun b hb => by
  obtain ⟨a1, a2⟩ := f2 b hb
  refine ⟨?_, a2⟩
  rw [upd_ne (Nat.ne_of_lt (fszD b hb))]
  exact a1
 obtain ⟨W, ⟨m0, w0⟩, turn⟩ := q D hDn
 refine wpAny_newFunctionEnv S.nocell (by intro y hy; simp at hy) (fun h4 hns hsb => ?_) S.kind
 have k4 : ∀ b o, s3.heap.get? b = some o → h4.get? b = some o := fun b o e =>
  hsb.extBut b o (Nat.ne_of_lt (Heap.lt_size e)) (Heap.get?_push_of_some _ e)
 have st4 : tn 0 h4 := T.keep _ _ _ st2 fun b hb o e => k4 b o (k3 b o e)
 have I4 := cxC_start (fp := fp) (h' := h4) (tk := s3.toks + ([] : List (Str × Value)).length) S I3 f3 fsz3 (by simpa using hns) k4 (fun _ _ => trivial)
 generalize hC : s3.heap.objs.size = C at I4 hns hsb ⊢
 generalize hY : cxC X scope cl (Fr.map (·.1) ++ Tg) C s3 (upd H2 D (.lst [])) fp = Y at I4
 have yP : Y.prog = X.prog := by rw [← hY]; rfl
 have yw : Y.w = X.w := by rw [← hY]; rfl
 have yK : Y.K = X.K := by rw [← hY]; rfl
 have yA : Y.A = X.A := by rw [← hY]; rfl
 have yc : Y.calm = true := by rw [← hY]; exact hc
 have yx : Y.xe = fun _ _ => False := by rw [← hY]; rfl
 have ye : Y.env = compEnvC scope cl C X.env := by rw [← hY]; rfl
 have yex : Y.ex = fp := by rw [← hY]; rfl
 have ypn : Y.pn = [] := by rw [← hY]; rfl
 have yfs : Y.fs = frs X.stack := by rw [← hY]; rfl
 have yH : Y.H₀ = upd H2 D (.lst []) := by rw [← hY]; rfl
 have ys₀ : Y.s₀ = s3 := by rw [← hY]; rfl
 have hg' : PG Y tg g := by rw [← hY]; exact hg _ _ _ _
 have ht' : PTs Y ifs tt := by rw [← hY]; exact ht _ _ _ _
 have he' : PE Y elt te := by rw [← hY]; exact he _ _ _ _
 have stat : ∀ {H' : Hp}, (∀ b ∈ fp, H' b = none) → ∀ b ∈ fp, FpOk Y [] H' b := fun hn b hb => by
  have okY := I4.ok
  refine ⟨hn b hb, (okY.exf b (by rw [yex]; exact hb)).1, okY.exfs b (by rw [yex]; exact hb), .inl (by rw [yex]; exact hb), (okY.exf b (by rw [yex]; exact hb)).2, fun p hp => absurd hp (by rw [ypn]; simp)⟩
 have fr0 : ∀ b ∈ fp, (upd H2 D (.lst [])) b = none := fun b hb => (f3 b hb).1
 -- back to the frame
 have back : ∀ (s5 : Shared) (σ5 : St) (H5 : Hp), Inv Y [] σ5 H5 s5 → (∃ m, s5.heap.Ns C m) ∧ Inv X pins σ H5 s5 ∧ FpOk X pins H5 C := by
  intro s5 σ5 H5 I5
  have hns5 : ∃ m, s5.heap.Ns C m := by
   obtain ⟨m, hn, _⟩ := I5.loc
   rw [ye] at hn
   exact ⟨m, hn⟩
  have un5 : Un (frs X.stack) fp (upd H2 D (.lst [])) H5 s3.heap s5.heap := by
   have u := I5.base
   rw [yfs, yex, yH, ys₀] at u
   exact u
  have os5 : s5.os = s3.os := by have := I5.os; rw [ys₀] at this; exact this
  have hok5 : HOk X.prog X.w H5 s5.heap := by have := I5.hok; rw [yP, yw] at this; exact this
  have hch : ∀ b ∈ fp, (b ∈ X.ex ∨ X.s₀.heap.objs.size ≤ b) ∧ b ≠ X.env.locals ∧ (∀ x c, X.env.cells.lookup x = some c → c ≠ b) ∧ ∀ p ∈ X.pn ++ pins, p.1 ≠ b := fun b hb => by
   obtain ⟨_, a1, _, a3, a4, a5⟩ := f3 b hb
   exact ⟨a3, a1, a4, a5⟩
  have free5 : H5 C = none := by
   have := I5.free
   rw [ye] at this
   exact this
  exact ⟨hns5, I3.call' os5 un5 hok5 I5.bare hch, I3.fpOk (Nat.le_of_eq hC) free5⟩
 have loop : ∀ (s5 : Shared) (σ5 : St) (H5 : Hp) (i m : Nat), Inv Y [] σ5 H5 s5 → tn i s5.heap → (∀ b ∈ fp, H5 b = none) → W i m σ5 H5 →
   codeAny (model X.prog X.w) X.A (.compLoop (.ListComp elt [⟨tg, iter, ifs, 0⟩] scope pos) 0 (.ref it) (.ref D) (compEnvC scope cl C X.env)) (RR (.ref D) C) s5 := by
  intro s5 σ5 H5 i m I5 st5 fr5 w5
  refine codeAny_loop rfl (fun n s' => ∃ i σ' H', Inv Y [] σ' H' s' ∧ tn i s'.heap ∧ (∀ b ∈ fp, H' b = none) ∧ W i n σ' H') ?_ m ⟨i, σ5, H5, I5, st5, fr5, w5⟩
  rintro n s6 ⟨i, σ6, H6, I6, st6, fr6, w6⟩
  show wpAny _ X.A ((compTurn (.ListComp elt [⟨tg, iter, ifs, 0⟩] scope pos) 0 (.ref it) (.ref D) (compEnvC scope cl C X.env)).onRaise (fun x => do noteFrame x (compEnvC scope cl C X.env); theTreesLotGoes x)) _ _ s6
  refine wpAny_noted ?_
  rw [compTurn_any]
  refine wpAny_bind (wpAny_standAt (wpAny_bind ?_))
  have nx : ∀ {α : Type} {t : Sem α} {Q : α → Shared → Prop} {E' : Value → Shared → Prop} {s : Shared}, wpAny (model X.prog X.w) X.A t Q (fun _ _ => False) s → wpAny (model X.prog X.w) X.A t Q E' s := fun h => wpAny_mono h (fun _ _ z => z) fun _ _ z => z.elim
  rcases turn i n σ6 H6 w6 with ⟨stop, qn⟩ | ⟨go, step⟩
  ·have h := T.done Y yP yw yK yc i [] s6 σ6 H6 (fun _ _ => False) I6 (stat fr6) st6 stop
   rw [yA] at h
   refine nx (thn h fun r s7 ⟨hr, I7⟩ => ?_)
   subst hr
   refine wpAny_pure ?_
   obtain ⟨b1, b2, b3⟩ := back s7 σ6 H6 I7
   exact hR D C s7 H6 b1 b2 b3 qn
  ·have h := T.item Y yP yw yK yc i [] s6 σ6 H6 (fun _ _ => False) I6 (stat fr6) st6 go
   rw [yA] at h
   refine nx (thn h fun r s7 ⟨u, hr, h7⟩ => ?_)
   subst hr
   refine wpAny_bind (nx (thn h7 fun _ s8 ⟨x, H8, I8, r8, y8, st8, fr8⟩ => ?_))
   have I8' := I8.pinned (stat fr8) (T.obj _ _ st8)
   have h9 := hg' _ s8 σ6 H8 x u _ I8' r8 (step x H8 y8)
   rw [yP, yw, yA, yx, ye] at h9
   refine wpAny_bind (nx (thn h9 fun _ s9 ⟨σ9, H9, I9, q9⟩ => ?_))
   have h10 := ht' _ s9 σ9 H9 _ I9 q9
   rw [yP, yw, yA, yx, ye] at h10
   refine wpAny_bind (nx (thn h10 fun ok s10 ⟨H10, I10, q10⟩ => ?_))
   have again : ∀ {σ' : St} {H' : Hp} {s' : Shared}, Inv Y ([] ++ pinsAt fp s8.heap) σ' H' s' → (∃ m', m' < n ∧ W (i + 1) m' σ' H') → ∃ m, m < n ∧ ∃ i σ' H', Inv Y [] σ' H' s' ∧ tn i s'.heap ∧ (∀ b ∈ fp, H' b = none) ∧ W i m σ' H' := fun {σ' H' s'} I' ⟨m', hm, w'⟩ => by
    refine ⟨m', hm, i + 1, σ', H', I'.unpinned, T.keep _ _ _ st8 fun b hb o e => (I'.pin (b, o) (List.mem_append_right _ (List.mem_append_right _ (mem_pinsAt hb e)))).1, fun b hb => ?_, w'⟩
    obtain ⟨o, e, d⟩ := T.obj _ _ st8 b hb
    exact (I'.pin (b, o) (List.mem_append_right _ (List.mem_append_right _ (mem_pinsAt hb e)))).2.1
   cases ok with
   | false =>
    rw [if_neg Bool.false_ne_true] at q10
    refine wpAny_bind (wpAny_pure (wpAny_pure ⟨rfl, again I10 q10⟩))
   | true =>
    rw [if_pos rfl] at q10
    have h11 := he' _ s10 σ9 H10 _ I10 q10
    rw [yP, yw, yA, yx, ye] at h11
    refine wpAny_bind (wpAny_bind (nx (thn h11 fun y s11 ⟨v, H11, I11, r11, ys, ey, zy, q11⟩ => ?_)))
    have h12 := mt_append (X := Y) ([] ++ pinsAt fp s8.heap) s11 σ9 H11 (.ref D) [v] (.ref D) [y] (fun v' H' => v' = .non ∧ H' = upd H11 D (.lst (ys ++ [v]))) I11 rfl (.cons r11 .nil) ⟨D, ys, v, rfl, rfl, ey, zy, rfl, rfl⟩
    rw [yP, yw, yA, yx] at h12
    refine wpAny_bind (nx (thn h12 fun z s12 ⟨v12, H12, I12, r12, e12, e12'⟩ => ?_))
    subst e12'
    exact wpAny_pure (wpAny_pure ⟨rfl, again I12 q11⟩)
 have start := loop { s3 with heap := h4, toks := s3.toks + ([] : List (Str × Value)).length } (stC Fr Tg σ) (upd H2 D (.lst [])) 0 m0 I4 st4 fr0 w0
 have e5 : ∀ (s' : Shared), s' = { s3 with heap := h4, toks := s3.toks + ([] : List (Str × Value)).length } → codeAny (model X.prog X.w) X.A (.compLoop (.ListComp elt [⟨tg, iter, ifs, 0⟩] scope pos) 0 (.ref it) (.ref D) (compEnvC scope cl C X.env)) (RR (.ref D) C) s' := by
  rintro _ rfl
  exact start
 exact codeAny_compStart_list (e5 _ rfl) (T.self _ _ _ _ _ st4 (e5 _ rfl))
theorem pe_comp (hc : X.calm = true) (S : CompSc X scope cl Fr Tg) (hi : PI X tg iter wi)
  (hg : ∀ C s H fp, PG (cxC X scope cl (Fr.map (·.1) ++ Tg) C s H fp) tg g) (ht : ∀ C s H fp, PTs (cxC X scope cl (Fr.map (·.1) ++ Tg) C s H fp) ifs tt)
  (he : ∀ C s H fp, PE (cxC X scope cl (Fr.map (·.1) ++ Tg) C s H fp) elt te) (hs : ∀ x, foldedSetIterable iter X.env x = pure x := by intro _; rfl) :
  PE X (.ListComp elt [⟨tg, iter, ifs, 0⟩] scope pos) (tCmpr wi (stC Fr Tg) g tt te) := by
 intro pins s σ H Q I h
 rw [eval_ListComp]
 refine wpAny_comprehension_free (use := none) rfl hs S.clos S.kind S.loc (thn (hi pins s σ H _ I h) fun xv s1 h1 => thn h1 fun itv s2 h2 => ?_)
 obtain ⟨it, fp, tn, J, H2, rfl, I2, T, st2, f2, q⟩ := h2
 refine comp_block (RR := fun acc C => compPost (model X.prog X.w) X.A X.xe none (EP X pins σ Q) acc C) hc S hg ht he I2 T st2 f2 q ?_
 intro D C s' H' ⟨m, hn⟩ I' F' q'
 obtain ⟨f0, f1, f2, f3, f4, f5⟩ := F'
 exact ⟨m, hn, fun h' sb => ⟨.ref D, H', I'.turned (t' := s'.toks) (fun b o hb e => (sb.2 b hb).trans e) f0 f1 f3 f4 f5, rfl, q'⟩⟩
theorem ps_comp {y : Str} {py spos : Pos} {i : Nat} (hc : X.calm = true) (hN : X.N.Nodup) (hiN : X.N[i]? = some y) (hy : X.env.kindOf y = some .local) (S : CompSc X scope cl Fr Tg) (hi : PI X tg iter wi)
  (hg : ∀ C s H fp, PG (cxC X scope cl (Fr.map (·.1) ++ Tg) C s H fp) tg g) (ht : ∀ C s H fp, PTs (cxC X scope cl (Fr.map (·.1) ++ Tg) C s H fp) ifs tt)
  (he : ∀ C s H fp, PE (cxC X scope cl (Fr.map (·.1) ++ Tg) C s H fp) elt te)
  (hsw : swapsWith (.ListComp elt [⟨tg, iter, ifs, 0⟩] scope pos) (some (.Name y py)) spos.line X.env = pure true) (hs : ∀ x, foldedSetIterable iter X.env x = pure x := by intro _; rfl) :
  PS X (.Assign [.Name y py] (.ListComp elt [⟨tg, iter, ifs, 0⟩] scope pos) spos) (fun D σ H => tCmpr wi (stC Fr Tg) g tt te σ H fun v H' => D.nx (σ.set i (some v)) H') := by
 intro pins s σ H D I h
 rw [exec_Assign_Name_used _ _ _ _ hsw]
 refine wpAny_bind (wpAny_standAt (wpAny_bind ?_))
 show wpAny _ X.A (do let _ ← comprehension (.ListComp elt [⟨tg, iter, ifs, 0⟩] scope pos) scope X.env _ (newList []) false (eval iter X.env) (some (assign (.Name y py) X.env))) _ _ s
 refine wpAny_bind (thn (wpAny_comprehension_free (use := some (assign (.Name y py) X.env)) (Q := fun _ s' => SP X pins D .next s') rfl hs S.clos S.kind S.loc
  (thn (hi pins s σ H _ I h) fun xv s1 h1 => thn h1 fun itv s2 h2 => ?_)) fun _ s' hq => wpAny_pure (wpAny_pure hq))
 obtain ⟨it, fp, tn, J, H2, rfl, I2, T, st2, f2, q⟩ := h2
 refine comp_block (Q := fun v H' => D.nx (σ.set i (some v)) H') (RR := fun acc C => compPost (model X.prog X.w) X.A X.xe (some (assign (.Name y py) X.env)) (fun _ s' => SP X pins D .next s') acc C) hc S hg ht he I2 T st2 f2 q ?_
 intro D' C s' H' ⟨m, hn⟩ I' F' q'
 obtain ⟨f0, f1, f2, f3, f4, f5⟩ := F'
 show wpAny _ X.A (assign (.Name y py) X.env (.ref D')) _ _ _
 refine wpAny_assign_Name (store_ok2 I' hN hiN (.inl hy) (show RelV (.ref D') (.ref D') from rfl) (fun s'' I'' ⟨a, sb, ha⟩ => ?_) (.inr hy))
 have hCa : C ≠ a := by
  rcases ha with rfl | ha
  ·exact f1
  ·exact fun z => f4 y a ha z.symm
 refine ⟨m, hn.sameBut sb hCa, fun h' sb' => ⟨_, H', I''.turned (t' := s''.toks) (fun b o hb e => (sb'.2 b hb).trans e) f0 f1 f3 f4 f5, q'⟩⟩
end
end L2
namespace L2
open PySem PySem.Spec PyProof.Rows PySem.SeqAt
section
variable {prog : Program} {w : World} {A : Around} {E : Value → Shared → Prop} {s : Shared}
end
end L2
namespace L2
open PySem PySem.Spec PyProof.Rows PySem.SeqAt
section
variable {X : Cx} {e : Expr} {t : TE} {p p' pos pos' : Pos}
end
end L2
namespace L2
open PySem PySem.Spec PyProof.Rows PySem.SeqAt
section
variable {X : Cx}
noncomputable def charsV (z : Str) : List V := z.cps.toList.map fun c => .str ⟨#[c]⟩
theorem call_list_txt (hc : X.calm = true) : CallR X (.type "list") (fun xs H Q => ∃ z : Str, xs = [.str z] ∧ z.length ≤ sizeLine ∧ ∀ l, H l = none → Q (.ref l) (upd H l (.lst (charsV z)))) := by
 intro pins s σ H xs us Q I r h
 obtain ⟨z, rfl, hz, q⟩ := h
 obtain ⟨u, rfl, t, rfl⟩ := vals1 r
 refine call_list_str (show X.A.handled = none from I.ok.hd hc) z t (fun h' tk acc' c' kp e hacc => ?_) hz
 have rv : Vals (charsV z) acc'.toList := by
  have hl : acc'.toList.length = z.cps.toList.length := by rw [Array.length_toList, Array.length_toList, hacc.1]
  have key : ∀ (cs : List Nat) (vs : List Value), vs.length = cs.length → (∀ (i : Nat) (v : Value), vs[i]? = some v → ∃ c u, cs[i]? = some c ∧ v = Value.str ⟨#[c]⟩ u) → Vals (cs.map fun c => V.str ⟨#[c]⟩) vs := by
   intro cs
   induction cs with
   | nil =>
    intro vs hl _
    cases vs with
    | nil => exact .nil
    | cons _ _ => cases hl
   | cons c cs ih =>
    intro vs hl hv
    cases vs with
    | nil => cases hl
    | cons v vs =>
     obtain ⟨c', u, e1, e2⟩ := hv 0 v rfl
     have e1' : c = c' := by simpa using e1
     subst e1' e2
     exact .cons ⟨u, rfl⟩ (ih vs (by simpa using hl) fun i w hw => by simpa using hv (i + 1) w (by simpa using hw))
  refine key _ _ hl fun i v hv => ?_
  obtain ⟨c, u, e1, e2⟩ := hacc.2 i v (by rw [← Array.getElem?_toList]; exact hv)
  exact ⟨c, u, by rw [Array.getElem?_toList]; exact e1, e2⟩
 exact ⟨.ref _, _, I.laid (t' := tk) kp (Nat.le_refl _) (show ObjOk X.prog X.w _ h' _ (.lst (charsV z)) from ⟨by unfold charsV; simpa [Str.length] using hz, acc'.toList, c', rv, by simpa using e⟩), rfl, q _ (I.hok.fresh (Nat.le_refl _))⟩
end
end L2
namespace L2
open PySem PySem.Spec PyProof.Rows PySem.SeqAt PySem.W
section
variable {prog : Program} {w : World} {A : Around} {E : Value → Shared → Prop} {s : Shared}
end
section
variable {n : Nat}
end
section
variable {prog : Program} {w : World} {A : Around} {E : Value → Shared → Prop} {s : Shared}
end
end L2
namespace L2
open PySem PySem.Spec PyProof.Rows PySem.SeqAt PySem.W
section
variable {prog : Program} {w : World} {A : Around} {E : Value → Shared → Prop} {s : Shared}
end
end L2
namespace L2
open PySem PySem.Spec PyProof.Rows PySem.SeqAt PySem.W
section
variable {X : Cx}
end
end L2
namespace L2
open PySem PySem.Spec PyProof.Rows PySem.SeqAt PySem.W
section
variable {X : Cx}
end
end L2
namespace L2
open PySem PySem.Spec PyProof.Rows PySem.SeqAt PySem.W
section
variable {X : Cx}
end
end L2
namespace L2
open PySem PySem.Spec PyProof.Rows
inductive D where
 | non | bl (b : Bool) | int (i : Int) | str (x : Str) | tup (ds : List D) | lst (own : Bool) (ds : List D)
 deriving Inhabited
mutual
noncomputable def er : D → D
 | .tup ds => .tup (ers ds)
 | .lst _ ds => .lst false (ers ds)
 | .non => .non
 | .bl b => .bl b
 | .int i => .int i
 | .str x => .str x
noncomputable def ers : List D → List D
 | [] => []
 | d :: ds => er d :: ers ds
end
mutual
noncomputable def lfree : D → Bool
 | .tup ds => lfrees ds
 | .lst _ _ => false
 | .non => true
 | .bl _ => true
 | .int _ => true
 | .str _ => true
noncomputable def lfrees : List D → Bool
 | [] => true
 | d :: ds => lfree d && lfrees ds
end
theorem ers_map : ∀ ds : List D, ers ds = ds.map er
 | [] => rfl
 | d :: ds => by rw [ers, ers_map ds]; rfl
theorem lfrees_all : ∀ ds : List D, lfrees ds = ds.all lfree
 | [] => rfl
 | d :: ds => by rw [lfrees, lfrees_all ds]; rfl
theorem ers_length (ds : List D) : (ers ds).length = ds.length := by rw [ers_map, List.length_map]
mutual
theorem er_lfree : ∀ {d : D}, lfree d = true → er d = d
 | .non, _ => rfl
 | .bl _, _ => rfl
 | .int _, _ => rfl
 | .str _, _ => rfl
 | .tup ds, h => by rw [er, ers_lfrees (ds := ds) h]
 | .lst o ds, h => by cases (show false = true from h)
theorem ers_lfrees : ∀ {ds : List D}, lfrees ds = true → ers ds = ds
 | [], _ => rfl
 | d :: ds, h => by
  have h' : (lfree d && lfrees ds) = true := h
  rw [Bool.and_eq_true] at h'
  rw [ers, er_lfree h'.1, ers_lfrees h'.2]
end
mutual
theorem er_er : ∀ d : D, er (er d) = er d
 | .non => rfl
 | .bl _ => rfl
 | .int _ => rfl
 | .str _ => rfl
 | .tup ds => by rw [er, er, ers_ers ds]
 | .lst _ ds => by rw [er, er, ers_ers ds]
theorem ers_ers : ∀ ds : List D, ers (ers ds) = ers ds
 | [] => rfl
 | d :: ds => by rw [ers, ers, er_er d, ers_ers ds]
end
inductive Exc where
 | stuck | exc (c : Str)
noncomputable abbrev Res (α : Type) := Except Exc α
noncomputable abbrev stk {α : Type} : Res α := .error .stuck
noncomputable def bnd {α β : Type} (x : Res α) (f : α → Res β) : Res β := match x with
 | .ok a => f a
 | .error e => .error e
noncomputable def grd {α : Type} (c : Bool) (x : Res α) : Res α := if c = true then x else stk
noncomputable def PO' {α : Type} (ex : Str → Prop) (x : Res α) (k : α → Prop) : Prop := match x with
 | .ok a => k a
 | .error (.exc c) => ex c
 | .error .stuck => False
theorem PO'.bnd {α β : Type} {ex : Str → Prop} {x : Res α} {f : α → Res β} {k : β → Prop} (h : PO' ex (bnd x f) k) : PO' ex x fun a => PO' ex (f a) k := by
 cases x with
 | ok a => exact h
 | error e => cases e <;> exact h
theorem PO'.grd {α : Type} {ex : Str → Prop} {c : Bool} {x : Res α} {k : α → Prop} (h : PO' ex (grd c x) k) : c = true ∧ PO' ex x k := by
 unfold L2.grd at h
 cases c with
 | true => exact ⟨rfl, h⟩
 | false => exact False.elim h
theorem PO'.mono {α : Type} {ex : Str → Prop} {x : Res α} {k k' : α → Prop} (h : PO' ex x k) (m : ∀ a, k a → k' a) : PO' ex x k' := by
 cases x with
 | ok a => exact m a h
 | error e => cases e <;> exact h
theorem PO'.mk {α β : Type} {ex : Str → Prop} {x : Res α} {f : α → Res β} {k : β → Prop} (h : PO' ex x fun a => PO' ex (f a) k) : PO' ex (L2.bnd x f) k := by
 cases x with
 | ok a => exact h
 | error e => cases e <;> exact h
theorem PO'.eq {α : Type} {ex : Str → Prop} {x : Res α} {k : α → Prop} (h : PO' ex x k) : PO' ex x fun a => x = .ok a ∧ k a := by
 cases x with
 | ok a => exact ⟨rfl, h⟩
 | error e => cases e <;> exact h
theorem PO'.ok {α : Type} {ex : Str → Prop} {a : α} {k : α → Prop} (h : PO' ex (.ok a : Res α) k) : k a := h
theorem PO'.no {α : Type} {ex : Str → Prop} {k : α → Prop} (h : PO' ex (stk : Res α) k) : False := h
theorem KL.sq {K : PySem.W.Frag} {H : Hp} {a : Addr} {xs : List V} (h : KL K a xs) : SqL K H a xs := by
 obtain ⟨its, n, h1, h2, h3⟩ := h
 exact .inr ⟨_, its.toArray, n, h1, rfl, rfl, rfl, by simpa using h2, by simpa using h3⟩
theorem Inv.ls {X : Cx} {pins : List (Addr × Obj)} {σ : St} {H : Hp} {s : Shared} {a : Addr} {xs : List V} (I : Inv X pins σ H s) (h : Ls X.K H a xs) :
  xs.length ≤ sizeLine ∧ ∃ (its : List Value) (n : Nat), Vals xs its ∧ s.heap.get? a = some { cls := .type "list", data := .seq its.toArray n } := by
 rcases h with h | ⟨its, n, h1, h2, h3⟩
 ·obtain ⟨z, its, n, r, e⟩ := h.ok I.hok
  exact ⟨z, its, n, r, e⟩
 ·exact ⟨by rw [h3.length]; exact h2, its, n, h3, I.kIn _ _ h1⟩
mutual
inductive HRep (K : PySem.W.Frag) (S : Addr → Prop) (H : Hp) : V → D → Prop where
 | non : HRep K S H .non .non
 | bl (b : Bool) : HRep K S H (.bl b) (.bl b)
 | int (i : Int) : HRep K S H (.int i) (.int i)
 | str (x : Str) : HRep K S H (.str x) (.str x)
 | tup {a : Addr} {xs : List V} {ds : List D} : SqT K H a xs → HReps K S H xs ds → HRep K S H (.ref a) (.tup ds)
 | lst {a : Addr} {xs : List V} {o : Bool} {ds : List D} : S a → Rd H a (.lst xs) → HReps K S H xs ds → HRep K S H (.ref a) (.lst o ds)
 | lstK {a : Addr} {xs : List V} {o : Bool} {ds : List D} : KL K a xs → HReps K S H xs ds → HRep K S H (.ref a) (.lst o ds)
inductive HReps (K : PySem.W.Frag) (S : Addr → Prop) (H : Hp) : List V → List D → Prop where
 | nil : HReps K S H [] []
 | cons {v : V} {d : D} {vs : List V} {ds : List D} : HRep K S H v d → HReps K S H vs ds → HReps K S H (v :: vs) (d :: ds)
end
mutual
inductive MRep (K : PySem.W.Frag) (F : Addr → Prop) (H : Hp) : V → D → List Addr → Prop where
 | non : MRep K F H .non .non []
 | bl (b : Bool) : MRep K F H (.bl b) (.bl b) []
 | int (i : Int) : MRep K F H (.int i) (.int i) []
 | str (x : Str) : MRep K F H (.str x) (.str x) []
 | tup {a : Addr} {xs : List V} {ds : List D} {f : List Addr} : SqT K H a xs → MReps K F H xs ds f → MRep K F H (.ref a) (.tup ds) f
 | lstS {a : Addr} {xs : List V} {ds : List D} : F a → Rd H a (.lst xs) → MReps K F H xs ds [] → MRep K F H (.ref a) (.lst false ds) []
 | lstK {a : Addr} {xs : List V} {ds : List D} : KL K a xs → MReps K F H xs ds [] → MRep K F H (.ref a) (.lst false ds) []
 | lstO {a : Addr} {xs : List V} {ds : List D} {f : List Addr} : ¬ F a → H a = some (.lst xs) → MReps K F H xs ds f → MRep K F H (.ref a) (.lst true ds) (a :: f)
inductive MReps (K : PySem.W.Frag) (F : Addr → Prop) (H : Hp) : List V → List D → List Addr → Prop where
 | nil : MReps K F H [] [] []
 | cons {v : V} {d : D} {f : List Addr} {vs : List V} {ds : List D} {g : List Addr} : MRep K F H v d f → MReps K F H vs ds g → MReps K F H (v :: vs) (d :: ds) (f ++ g)
end
theorem Same.rd {H H' : Hp} {a : Addr} {u : HO} (e : Same H H') (h : Rd H a u) : Rd H' a u := by
 rcases h with h | ⟨o, h⟩
 ·exact .inl (e _ _ h)
 ·exact .inr ⟨o, e _ _ h⟩
theorem Same.seqT {K : PySem.W.Frag} {H H' : Hp} {a : Addr} {xs : List V} (e : Same H H') (h : SqT K H a xs) : SqT K H' a xs := by
 rcases h with h | h
 ·exact .inl (e.rd h)
 ·exact .inr h
theorem Rd.some {H : Hp} {a : Addr} {u : HO} (h : Rd H a u) : H a ≠ none := by
 rcases h with h | ⟨o, h⟩ <;> (rw [h]; simp)
section
variable {K : PySem.W.Frag} {S S' F F' : Addr → Prop} {H H' : Hp}
mutual
theorem HRep.step (hl : ∀ a xs, S a → Rd H a (.lst xs) → S' a ∧ Rd H' a (.lst xs)) (ht : ∀ a xs, SqT K H a xs → SqT K H' a xs) {v : V} {d : D} : HRep K S H v d → HRep K S' H' v d
 | .non => .non
 | .bl b => .bl b
 | .int i => .int i
 | .str x => .str x
 | .tup h1 h2 => .tup (ht _ _ h1) (HReps.step hl ht h2)
 | .lst h0 h1 h2 => .lst (hl _ _ h0 h1).1 (hl _ _ h0 h1).2 (HReps.step hl ht h2)
 | .lstK h1 h2 => .lstK h1 (HReps.step hl ht h2)
theorem HReps.step (hl : ∀ a xs, S a → Rd H a (.lst xs) → S' a ∧ Rd H' a (.lst xs)) (ht : ∀ a xs, SqT K H a xs → SqT K H' a xs) {vs : List V} {ds : List D} : HReps K S H vs ds → HReps K S' H' vs ds
 | .nil => .nil
 | .cons h1 h2 => .cons (HRep.step hl ht h1) (HReps.step hl ht h2)
end
theorem HRep.mono {v : V} {d : D} (h : HRep K S H v d) (hS : ∀ a, S a → S' a) (e : Same H H') : HRep K S' H' v d := h.step (fun a xs s r => ⟨hS a s, e.rd r⟩) fun a xs s => e.seqT s
theorem HReps.mono {v : List V} {d : List D} (h : HReps K S H v d) (hS : ∀ a, S a → S' a) (e : Same H H') : HReps K S' H' v d := h.step (fun a xs s r => ⟨hS a s, e.rd r⟩) fun a xs s => e.seqT s
theorem HReps.tight {v : List V} {d : List D} (h : HReps K S H v d) : HReps K (fun a => S a ∧ H a ≠ none) H v d := h.step (fun a xs s r => ⟨⟨s, r.some⟩, r⟩) fun a xs s => s
mutual
theorem HRep.frozen {v : V} {d : D} : HRep K F H v d → MRep K F H v (L2.er d) []
 | .non => .non
 | .bl b => .bl b
 | .int i => .int i
 | .str x => .str x
 | .tup h1 h2 => .tup h1 (HReps.frozen h2)
 | .lst h0 h1 h2 => .lstS h0 h1 (HReps.frozen h2)
 | .lstK h1 h2 => .lstK h1 (HReps.frozen h2)
theorem HReps.frozen {vs : List V} {ds : List D} : HReps K F H vs ds → MReps K F H vs (L2.ers ds) []
 | .nil => .nil
 | .cons h1 h2 => .cons (f := []) (g := []) (HRep.frozen h1) (HReps.frozen h2)
end
mutual
theorem HRep.free {v : V} {d : D} (n : lfree d = true) : HRep K S H v d → MRep K F H v d []
 | .non => .non
 | .bl b => .bl b
 | .int i => .int i
 | .str x => .str x
 | .tup h1 h2 => .tup h1 (HReps.free n h2)
 | .lst h0 h1 h2 => by cases n
 | .lstK h1 h2 => by cases n
theorem HReps.free {vs : List V} {ds : List D} (n : lfrees ds = true) : HReps K S H vs ds → MReps K F H vs ds []
 | .nil => .nil
 | .cons (d := d) (ds := ds) h1 h2 => by
  have n' : (lfree d && lfrees ds) = true := n
  rw [Bool.and_eq_true] at n'
  exact .cons (f := []) (g := []) (HRep.free n'.1 h1) (HReps.free n'.2 h2)
end
mutual
theorem MRep.read {v : V} {d : D} {f : List Addr} (hF : ∀ a, F a → S a) (hf : ∀ a ∈ f, S a) : MRep K F H v d f → HRep K S H v d
 | .non => .non
 | .bl b => .bl b
 | .int i => .int i
 | .str x => .str x
 | .tup h1 h2 => .tup h1 (MReps.read hF hf h2)
 | .lstS h0 h1 h2 => .lst (hF _ h0) h1 (MReps.read hF (fun _ h => absurd h (by simp)) h2)
 | .lstK h1 h2 => .lstK h1 (MReps.read hF (fun _ h => absurd h (by simp)) h2)
 | .lstO h0 h1 h2 => .lst (hf _ (by simp)) (.inl h1) (MReps.read hF (fun b hb => hf b (List.mem_cons_of_mem _ hb)) h2)
theorem MReps.read {vs : List V} {ds : List D} {f : List Addr} (hF : ∀ a, F a → S a) (hf : ∀ a ∈ f, S a) : MReps K F H vs ds f → HReps K S H vs ds
 | .nil => .nil
 | .cons h1 h2 => .cons (MRep.read hF (fun a ha => hf a (List.mem_append_left _ ha)) h1) (MReps.read hF (fun a ha => hf a (List.mem_append_right _ ha)) h2)
end
mutual
theorem MRep.step (hl : ∀ a xs, F a → Rd H a (.lst xs) → F' a ∧ Rd H' a (.lst xs)) (ht : ∀ a xs, SqT K H a xs → SqT K H' a xs) {v : V} {d : D} {f : List Addr} (k : ∀ a ∈ f, ¬ F a → H a ≠ none → ¬ F' a ∧ H' a = H a) :
  MRep K F H v d f → MRep K F' H' v d f
 | .non => .non
 | .bl b => .bl b
 | .int i => .int i
 | .str x => .str x
 | .tup h1 h2 => .tup (ht _ _ h1) (MReps.step hl ht k h2)
 | .lstS h0 h1 h2 => .lstS (hl _ _ h0 h1).1 (hl _ _ h0 h1).2 (MReps.step hl ht (fun _ h => absurd h (by simp)) h2)
 | .lstK h1 h2 => .lstK h1 (MReps.step hl ht (fun _ h => absurd h (by simp)) h2)
 | .lstO (a := a) h0 h1 h2 => .lstO (k a (by simp) h0 (by rw [h1]; simp)).1 ((k a (by simp) h0 (by rw [h1]; simp)).2.trans h1) (MReps.step hl ht (fun b hb => k b (List.mem_cons_of_mem _ hb)) h2)
theorem MReps.step (hl : ∀ a xs, F a → Rd H a (.lst xs) → F' a ∧ Rd H' a (.lst xs)) (ht : ∀ a xs, SqT K H a xs → SqT K H' a xs) {vs : List V} {ds : List D} {f : List Addr} (k : ∀ a ∈ f, ¬ F a → H a ≠ none → ¬ F' a ∧ H' a = H a) :
  MReps K F H vs ds f → MReps K F' H' vs ds f
 | .nil => .nil
 | .cons h1 h2 => .cons (MRep.step hl ht (fun a ha => k a (List.mem_append_left _ ha)) h1) (MReps.step hl ht (fun a ha => k a (List.mem_append_right _ ha)) h2)
end
mutual
theorem MRep.own {v : V} {d : D} {f : List Addr} : MRep K F H v d f → ∀ a ∈ f, ¬ F a ∧ ∃ xs, H a = some (.lst xs)
 | .non => fun _ h => absurd h (by simp)
 | .bl b => fun _ h => absurd h (by simp)
 | .int i => fun _ h => absurd h (by simp)
 | .str x => fun _ h => absurd h (by simp)
 | .tup h1 h2 => MReps.own h2
 | .lstS h0 h1 h2 => fun _ h => absurd h (by simp)
 | .lstK h1 h2 => fun _ h => absurd h (by simp)
 | .lstO h0 h1 h2 => fun b hb => by
  rcases List.mem_cons.mp hb with rfl | hb
  ·exact ⟨h0, _, h1⟩
  ·exact MReps.own h2 b hb
theorem MReps.own {vs : List V} {ds : List D} {f : List Addr} : MReps K F H vs ds f → ∀ a ∈ f, ¬ F a ∧ ∃ xs, H a = some (.lst xs)
 | .nil => fun _ h => absurd h (by simp)
 | .cons h1 h2 => fun b hb => by
  rcases List.mem_append.mp hb with hb | hb
  ·exact MRep.own h1 b hb
  ·exact MReps.own h2 b hb
end
theorem HReps.length {vs : List V} {ds : List D} : HReps K S H vs ds → vs.length = ds.length
 | .nil => rfl
 | .cons _ h => by rw [List.length_cons, List.length_cons, HReps.length h]
theorem HReps.get {i : Nat} : ∀ {vs : List V} {ds : List D} {d : D}, HReps K S H vs ds → ds[i]? = some d → ∃ v, vs[i]? = some v ∧ HRep K S H v d := by
 induction i with
 | zero =>
  intro vs ds d h e
  cases h with
  | nil => simp at e
  | cons h1 h2 =>
   simp at e
   subst e
   exact ⟨_, rfl, h1⟩
 | succ i ih =>
  intro vs ds d h e
  cases h with
  | nil => simp at e
  | cons h1 h2 =>
   obtain ⟨v, e1, h3⟩ := ih h2 (by simpa using e)
   exact ⟨v, by simpa using e1, h3⟩
theorem HReps.getV {i : Nat} : ∀ {vs : List V} {ds : List D} {v : V}, HReps K S H vs ds → vs[i]? = some v → ∃ d, ds[i]? = some d ∧ HRep K S H v d := by
 induction i with
 | zero =>
  intro vs ds d h e
  cases h with
  | nil => simp at e
  | cons h1 h2 =>
   simp at e
   subst e
   exact ⟨_, rfl, h1⟩
 | succ i ih =>
  intro vs ds d h e
  cases h with
  | nil => simp at e
  | cons h1 h2 =>
   obtain ⟨v, e1, h3⟩ := ih h2 (by simpa using e)
   exact ⟨v, by simpa using e1, h3⟩
theorem HReps.append : ∀ {vs ws : List V} {ds es : List D}, HReps K S H vs ds → HReps K S H ws es → HReps K S H (vs ++ ws) (ds ++ es)
 | _, _, _, _, .nil, h => h
 | _, _, _, _, .cons h1 h2, h => .cons h1 (HReps.append h2 h)
theorem HReps.take : ∀ {vs : List V} {ds : List D} (n : Nat), HReps K S H vs ds → HReps K S H (vs.take n) (ds.take n)
 | _, _, 0, _ => .nil
 | _, _, _ + 1, .nil => .nil
 | _, _, n + 1, .cons h1 h2 => .cons h1 (HReps.take n h2)
theorem HReps.drop : ∀ {vs : List V} {ds : List D} (n : Nat), HReps K S H vs ds → HReps K S H (vs.drop n) (ds.drop n)
 | _, _, 0, h => h
 | _, _, _ + 1, .nil => .nil
 | _, _, n + 1, .cons h1 h2 => HReps.drop n h2
theorem MReps.length {vs : List V} {ds : List D} {f : List Addr} : MReps K F H vs ds f → vs.length = ds.length
 | .nil => rfl
 | .cons _ h => by rw [List.length_cons, List.length_cons, MReps.length h]
theorem MReps.append : ∀ {vs ws : List V} {ds es : List D} {f g : List Addr}, MReps K F H vs ds f → MReps K F H ws es g → MReps K F H (vs ++ ws) (ds ++ es) (f ++ g)
 | _, _, _, _, _, _, .nil, h => h
 | _, _, _, _, _, _, .cons h1 h2, h => by
  rw [List.append_assoc]
  exact .cons h1 (MReps.append h2 h)
theorem HRep.lstR {v : V} {o : Bool} {ds : List D} (h : HRep K S H v (.lst o ds)) : ∃ a xs, v = .ref a ∧ SqL K H a xs ∧ HReps K S H xs ds := by
 cases h with
 | lst h0 h1 h2 => exact ⟨_, _, rfl, .inl h1, h2⟩
 | lstK h1 h2 => exact ⟨_, _, rfl, h1.sq, h2⟩
theorem HRep.lstL {v : V} {o : Bool} {ds : List D} (h : HRep K S H v (.lst o ds)) : ∃ a xs, v = .ref a ∧ Ls K H a xs ∧ HReps K S H xs ds := by
 cases h with
 | lst h0 h1 h2 => exact ⟨_, _, rfl, .inl h1, h2⟩
 | lstK h1 h2 => exact ⟨_, _, rfl, .inr h1, h2⟩
theorem HRep.tupR {v : V} {ds : List D} (h : HRep K S H v (.tup ds)) : ∃ a xs, v = .ref a ∧ SqT K H a xs ∧ HReps K S H xs ds := by
 cases h with
 | tup h1 h2 => exact ⟨_, _, rfl, h1, h2⟩
theorem HRep.intR {v : V} {i : Int} (h : HRep K S H v (.int i)) : v = .int i := by cases h; rfl
theorem HRep.blR {v : V} {i : Bool} (h : HRep K S H v (.bl i)) : v = .bl i := by cases h; rfl
theorem HRep.strR {v : V} {i : Str} (h : HRep K S H v (.str i)) : v = .str i := by cases h; rfl
theorem HRep.nonR {v : V} (h : HRep K S H v .non) : v = .non := by cases h; rfl
theorem HReps.strs : ∀ {vs : List V} {ns : List Str}, HReps K S H vs (ns.map .str) → vs = ns.map .str
 | _, [], .nil => rfl
 | _, n :: ns, .cons h1 h2 => by rw [h1.strR, HReps.strs h2]; rfl
theorem HReps.bls : ∀ {vs : List V} {ns : List Bool}, HReps K S H vs (ns.map .bl) → vs = ns.map .bl
 | _, [], .nil => rfl
 | _, n :: ns, .cons h1 h2 => by rw [h1.blR, HReps.bls h2]; rfl
theorem HReps.ofInts : ∀ (ns : List Int), HReps K S H (ns.map .int) (ns.map .int)
 | [] => .nil
 | n :: ns => .cons (.int n) (HReps.ofInts ns)
end
theorem Same.upd {H : Hp} {a : Addr} {o : HO} (h : H a = none) : Same H (upd H a o) := fun b u e => by
 rw [upd_ne (ne_of_none e h)]
 exact e
end L2
namespace L2
open PySem PySem.Spec PyProof.Rows
inductive BOp where
 | add | sub | mul | fdiv | mod | pow
 deriving DecidableEq
inductive COp where
 | eq | ne | lt | le | gt | ge | in_ | nin | is_ | isn
 deriving DecidableEq
inductive Kd where
 | str | int | bool | list | tuple
 deriving DecidableEq
inductive Bi where
 | len | sum | min2 | max2 | sorted | list | tuple | ord | int | all | any | str | set | abs
 deriving DecidableEq
inductive Mt where
 | join | index | starts
 deriving DecidableEq
inductive Tg where
 | nm (i : Nat) | tp (ts : List Tg)
structure Gm where
 N : List Str
 kd : List NameKind
 gl : List Nat
 df : Bool
mutual
inductive IR where
 | c (d : D)
 | g (n : Nat) (d : D)
 | v (i : Nat)
 | bin (op : BOp) (a b : IR)
 | neg (a : IR)
 | cmp (op : COp) (a b : IR)
 | chain (op op' : COp) (a b c : IR)
 | and_ (a b : IR)
 | or_ (a b : IR)
 | not_ (a : IR)
 | ite (t a b : IR)
 | tup (es : List IR)
 | lst (es : List IR)
 | idx (a i : IR)
 | sl (a : IR) (lo hi : Option IR)
 | call (f : Nat) (es : List IR)
 | bi (f : Bi) (es : List IR)
 | isi (a : IR) (k : Kd)
 | lrev (a : IR)
 | mth (m : Mt) (o : IR) (es : List IR)
 | comp (G : Gm) (fr : List Nat) (tg : Tg) (src : Sr) (ifs : List IR) (elt : IR)
inductive Sr where
 | rng1 (n : IR) | rng2 (a b : IR) | val (e : IR) | rev (e : IR)
end
inductive IS where
 | asg (tg : Tg) (e : IR)
 | par (i j : Nat) (a b : IR)
 | setix (i : Nat) (k e : IR)
 | app (i : Nat) (e : IR)
 | appx (i : Nat) (k : Nat) (e : IR)
 | rvs (i : Nat)
 | clr (i : Nat)
 | exp (e : IR)
 | ret (e : IR)
 | retN
 | if_ (t : IR) (a b : List IS)
 | for_ (tg : Tg) (src : Sr) (body : List IS)
 | while_ (t : IR) (body : List IS)
 | brk | cnt | pass
 | never
noncomputable abbrev Ev := List (Option D)
inductive Fl where
 | nx (τ : Ev) | rt (d : D) | bk (τ : Ev) | ct (τ : Ev)
noncomputable def cutG {α : Type} (xs : List α) (lo hi : Option Int) : List α := (xs.drop (HT.sIx xs.length 0 lo)).take (HT.sIx xs.length xs.length hi - HT.sIx xs.length 0 lo)
noncomputable def szOk (n : Nat) : Bool := decide (n ≤ sizeLine)
noncomputable def szLt (n : Nat) : Bool := decide (n < sizeLine)
noncomputable def opB : BOp → D → D → Res D
 | .add, .int a, .int b => .ok (.int (a + b))
 | .add, .str a, .str b => grd (szOk (a.length + b.length)) (.ok (.str (a ++ b)))
 | .add, .lst _ a, .lst _ b => grd (szOk (a.length + b.length)) (.ok (.lst true (a ++ b)))
 | .sub, .int a, .int b => .ok (.int (a - b))
 | .mul, .int a, .int b => grd (decide (-(2 ^ 64) < a ∧ a < 2 ^ 64) || decide (-(2 ^ 64) < b ∧ b < 2 ^ 64)) (.ok (.int (a * b)))
 | .fdiv, .int a, .int b => grd (decide (0 < b ∧ b < 1073741824)) (.ok (.int (a / b)))
 | .mod, .int a, .int b => grd (decide (0 < b)) (.ok (.int (a % b)))
 | .pow, .int a, .int b => grd (decide (0 ≤ b ∧ b ≤ 1000000 ∧ a.natAbs < 2 ^ 64)) (.ok (.int (a ^ b.toNat)))
 | _, _, _ => stk
noncomputable def opIx : D → D → Res D
 | .lst _ ds, .int i => match atI ds i with
  | some d => .ok d
  | none => stk
 | .tup ds, .int i => match atI ds i with
  | some d => .ok d
  | none => stk
 | .str z, .int i => grd (szOk z.length) (match atI z.cps.toList i with
  | some c => .ok (.str ⟨#[c]⟩)
  | none => stk)
 | _, _ => stk
noncomputable def opSl : D → Option Int → Option Int → Res D
 | .lst _ ds, lo, hi => .ok (.lst true (cutG ds lo hi))
 | .str z, lo, hi => grd (szOk z.length) (.ok (.str (Txt.slice z lo hi)))
 | _, _, _ => stk
noncomputable def truD : D → Res Bool
 | .non => .ok false
 | .bl b => .ok b
 | .int i => .ok (i != 0)
 | .str x => grd (szOk x.length) (.ok ((x.length : Int) != 0))
 | .tup ds => .ok (!ds.isEmpty)
 | .lst _ ds => .ok (!ds.isEmpty)
noncomputable def eqsG (f : D → D → Res Bool) : List D → List D → Res Bool
 | [], [] => .ok true
 | a :: r, b :: t => bnd (f a b) fun x => bnd (eqsG f r t) fun y => .ok (x && y)
 | _, _ => .ok false
noncomputable def eqN : Nat → D → D → Res Bool
 | 0, _, _ => stk
 | _ + 1, .non, .non => .ok true
 | _ + 1, .non, _ => .ok false
 | _ + 1, .bl a, .bl b => .ok (a == b)
 | _ + 1, .bl a, .int b => .ok ((if a then 1 else 0) == b)
 | _ + 1, .bl _, _ => .ok false
 | _ + 1, .int a, .bl b => .ok (a == (if b then 1 else 0))
 | _ + 1, .int a, .int b => .ok (a == b)
 | _ + 1, .int _, _ => .ok false
 | _ + 1, .str a, .str b => .ok (a == b)
 | _ + 1, .str _, _ => .ok false
 | n + 1, .tup a, .tup b => eqsG (eqN n) a b
 | _ + 1, .tup _, _ => .ok false
 | n + 1, .lst _ a, .lst _ b => eqsG (eqN n) a b
 | _ + 1, .lst _ _, _ => .ok false
noncomputable def anyN (d : D) : List D → Res Bool
 | [] => .ok false
 | e :: r => bnd (eqN 40 e d) fun x => bnd (anyN d r) fun y => .ok (x || y)
noncomputable def inStr (x y : Str) : Bool := !(Builtin.Str.occurrences x y 0 x.length 1).isEmpty
noncomputable def isNon : D → Bool
 | .non => true
 | _ => false
noncomputable def opC : COp → D → D → Res Bool
 | .eq, a, b => eqN 40 a b
 | .ne, a, b => bnd (eqN 40 a b) fun r => .ok !r
 | .lt, .int a, .int b => .ok (decide (a < b))
 | .le, .int a, .int b => .ok (decide (a ≤ b))
 | .gt, .int a, .int b => .ok (decide (b < a))
 | .ge, .int a, .int b => .ok (decide (b ≤ a))
 | .in_, .str y, .str x => .ok (inStr x y)
 | .nin, .str y, .str x => .ok (!inStr x y)
 | .in_, a, .lst _ ds => anyN a ds
 | .nin, a, .lst _ ds => bnd (anyN a ds) fun r => .ok !r
 | .in_, a, .tup ds => anyN a ds
 | .nin, a, .tup ds => bnd (anyN a ds) fun r => .ok !r
 | .is_, a, .non => .ok (isNon a)
 | .isn, a, .non => .ok (!isNon a)
 | _, _, _ => stk
noncomputable def asStrs : List D → Option (List Str)
 | [] => some []
 | .str i :: r => (asStrs r).map (i :: ·)
 | _ :: _ => none
noncomputable def asBls : List D → Option (List Bool)
 | [] => some []
 | .bl i :: r => (asBls r).map (i :: ·)
 | _ :: _ => none
noncomputable def isiD : Kd → D → Bool
 | .str, .str _ => true
 | .int, .int _ => true
 | .int, .bl _ => true
 | .bool, .bl _ => true
 | .list, .lst _ _ => true
 | .tuple, .tup _ => true
 | _, _ => false
noncomputable def charsD (x : Str) : List D := x.cps.toList.map fun c => .str ⟨#[c]⟩
noncomputable def opBi : Bi → List D → Res D
 | .len, [.str x] => grd (szOk x.length) (.ok (.int x.length))
 | .len, [.tup ds] => .ok (.int ds.length)
 | .len, [.lst _ ds] => .ok (.int ds.length)
 | .min2, [.int a, .int b] => .ok (.int (if b < a then b else a))
 | .max2, [.int a, .int b] => .ok (.int (if b > a then b else a))
 | .int, [.int i] => .ok (.int i)
 | .int, [.bl b] => .ok (.int (if b then 1 else 0))
 | .list, [.lst _ ds] => .ok (.lst true ds)
 | .list, [.tup ds] => .ok (.lst true ds)
 | .list, [.str x] => grd (szOk x.length) (.ok (.lst true (charsD x)))
 | .all, [.lst _ ds] => match asBls ds with
  | some bs => .ok (.bl (bs.all id))
  | none => stk
 | .any, [.lst _ ds] => match asBls ds with
  | some bs => .ok (.bl (bs.any id))
  | none => stk
 | .abs, [.int i] => .ok (.int (if i < 0 then -i else i))
 | _, _ => stk
noncomputable def isStrD : D → Bool
 | .str _ => true
 | _ => false
noncomputable def opMt : Mt → D → List D → Res D
 | .join, .str x, [.lst _ ds] => match asStrs ds with
  | some ys => grd (decide ((ys.map (·.length)).sum + ys.length * x.length ≤ 16777216)) (.ok (.str (Txt.join x ys)))
  | none => stk
 | .starts, .str x, [.str y] => .ok (.bl (Txt.startswith x y))
 | _, _, _ => stk
noncomputable def itemsD : D → Res (List D)
 | .lst _ ds => .ok ds
 | .tup ds => .ok ds
 | .str x => grd (szOk x.length) (.ok (charsD x))
 | _ => stk
noncomputable def rngD (a b : Int) : List D := (List.range (b - a).toNat).map fun k => .int (a + (k : Nat))
noncomputable def revD : D → Res D
 | .lst _ ds => .ok (.lst true ds.reverse)
 | _ => stk
noncomputable def rngOk (i : Int) : Bool := decide (-(2 ^ 62) ≤ i ∧ i < 2 ^ 62)
noncomputable def fmapM {α β : Type} (f : α → Res (Option β)) : List α → Res (List β)
 | [] => .ok []
 | x :: xs => bnd (f x) fun
  | some d => bnd (fmapM f xs) fun r => .ok (d :: r)
  | none => fmapM f xs
noncomputable def noX {α : Type} : Res α → Res α
 | .error _ => stk
 | .ok a => .ok a
mutual
noncomputable def setT : Tg → D → Ev → Res Ev
 | .nm i, d, τ => .ok (τ.set i (some d))
 | .tp ts, .tup ds, τ => grd (decide (ds.length = ts.length)) (setTs ts ds τ)
 | .tp ts, .lst _ ds, τ => grd (decide (ds.length = ts.length)) (setTs ts ds τ)
 | .tp _, _, _ => stk
noncomputable def setTs : List Tg → List D → Ev → Res Ev
 | t :: ts, d :: ds, τ => bnd (setT t d τ) fun τ' => setTs ts ds τ'
 | [], [], τ => .ok τ
 | _, _, _ => stk
end
noncomputable def slotD (τ : Ev) (i : Nat) : Option D := (τ[i]?).join
mutual
noncomputable def vars : IR → List Nat
 | .c _ => []
 | .g _ _ => []
 | .v i => [i]
 | .bin _ a b => vars a ++ vars b
 | .neg a => vars a
 | .cmp _ a b => vars a ++ vars b
 | .chain _ _ a b c => vars a ++ vars b ++ vars c
 | .and_ a b => vars a ++ vars b
 | .or_ a b => vars a ++ vars b
 | .not_ a => vars a
 | .ite t a b => vars t ++ vars a ++ vars b
 | .tup es => varss es
 | .lst es => varss es
 | .idx a i => vars a ++ vars i
 | .sl a lo hi => vars a ++ varsO lo ++ varsO hi
 | .call _ es => varss es
 | .bi _ es => varss es
 | .isi a _ => vars a
 | .lrev a => vars a
 | .mth _ o es => vars o ++ varss es
 | .comp _ fr _ src _ _ => fr ++ varsS src
noncomputable def varss : List IR → List Nat
 | [] => []
 | e :: es => vars e ++ varss es
noncomputable def varsO : Option IR → List Nat
 | none => []
 | some e => vars e
noncomputable def varsS : Sr → List Nat
 | .rng1 n => vars n
 | .rng2 a b => vars a ++ vars b
 | .val e => vars e
 | .rev e => vars e
end
mutual
noncomputable def evR (cl : Nat → List D → Res D) : IR → Ev → Res D
 | .c d, _ => .ok d
 | .g _ d, _ => .ok d
 | .v i, τ => match slotD τ i with
  | some d => .ok d
  | none => stk
 | .bin op a b, τ => bnd (evR cl a τ) fun x => bnd (evR cl b τ) fun y => opB op x y
 | .neg a, τ => bnd (evR cl a τ) fun
  | .int i => .ok (.int (-i))
  | _ => stk
 | .cmp op a b, τ => bnd (evR cl a τ) fun x => bnd (evR cl b τ) fun y => bnd (opC op x y) fun r => .ok (.bl r)
 | .chain op op' a b c, τ => bnd (evR cl a τ) fun x => bnd (evR cl b τ) fun y => bnd (opC op x y) fun r =>
  if r = true then bnd (evR cl c τ) fun z => bnd (opC op' y z) fun r' => .ok (.bl r') else .ok (.bl false)
 | .and_ a b, τ => bnd (evR cl a τ) fun x => bnd (truD x) fun r => if r = true then evR cl b τ else .ok x
 | .or_ a b, τ => bnd (evR cl a τ) fun x => bnd (truD x) fun r => if r = true then .ok x else evR cl b τ
 | .not_ a, τ => bnd (evR cl a τ) fun x => bnd (truD x) fun r => .ok (.bl !r)
 | .ite t a b, τ => bnd (evR cl t τ) fun x => bnd (truD x) fun r => if r = true then evR cl a τ else evR cl b τ
 | .tup es, τ => bnd (evRs cl es τ) fun ds => grd (szOk ds.length) (.ok (.tup ds))
 | .lst es, τ => bnd (evRs cl es τ) fun ds => grd (szOk ds.length) (.ok (.lst true ds))
 | .idx a i, τ => bnd (evR cl a τ) fun x => bnd (evR cl i τ) fun y => opIx x y
 | .sl a lo hi, τ => bnd (evR cl a τ) fun x => bnd (evRO cl lo τ) fun l => bnd (evRO cl hi τ) fun h => opSl x l h
 | .call f es, τ => bnd (evRs cl es τ) fun ds => cl f (ers ds)
 | .bi f es, τ => bnd (evRs cl es τ) fun ds => opBi f ds
 | .isi a k, τ => bnd (evR cl a τ) fun x => .ok (.bl (isiD k x))
 | .lrev a, τ => bnd (evR cl a τ) revD
 | .mth m o es, τ => bnd (evR cl o τ) fun x => grd (isStrD x) (bnd (evRs cl es τ) fun ds => opMt m x ds)
 | .comp G fr tg src ifs elt, τ => bnd (evSr cl src τ) fun its => grd (szLt its.length) (bnd (noX (fmapM (fun x => bnd (setT tg x (fr.map (slotD τ) ++ List.replicate (G.N.length - fr.length) none)) fun τ1 =>
   bnd (evTs cl ifs τ1) fun r => if r = true then bnd (evR cl elt τ1) fun d => .ok (some d) else .ok none) its)) fun ds => .ok (.lst true ds))
noncomputable def evRs (cl : Nat → List D → Res D) : List IR → Ev → Res (List D)
 | [], _ => .ok []
 | e :: es, τ => bnd (evR cl e τ) fun d => bnd (evRs cl es τ) fun ds => .ok (d :: ds)
noncomputable def evRO (cl : Nat → List D → Res D) : Option IR → Ev → Res (Option Int)
 | none, _ => .ok none
 | some e, τ => bnd (evR cl e τ) fun
  | .int i => .ok (some i)
  | _ => stk
noncomputable def evTs (cl : Nat → List D → Res D) : List IR → Ev → Res Bool
 | [], _ => .ok true
 | e :: es, τ => bnd (bnd (evR cl e τ) truD) fun r => if r = true then evTs cl es τ else .ok false
noncomputable def evSr (cl : Nat → List D → Res D) : Sr → Ev → Res (List D)
 | .rng1 n, τ => bnd (evR cl n τ) fun
  | .int i => grd (rngOk i) (.ok (rngD 0 i))
  | _ => stk
 | .rng2 a b, τ => bnd (evR cl a τ) fun x => bnd (evR cl b τ) fun y => match x, y with
  | .int i, .int j => grd (rngOk i && rngOk j) (.ok (rngD i j))
  | _, _ => stk
 | .val e, τ => bnd (evR cl e τ) itemsD
 | .rev e, τ => bnd (evR cl e τ) fun
  | .lst _ ds => .ok ds.reverse
  | _ => stk
end
noncomputable def evT (cl : Nat → List D → Res D) (t : IR) (τ : Ev) : Res Bool := bnd (evR cl t τ) truD
noncomputable def frzA (is : List Nat) : Nat → Ev → Ev
 | _, [] => []
 | k, o :: τ => (if is.contains k then o.map er else o) :: frzA is (k + 1) τ
noncomputable abbrev frz (is : List Nat) (τ : Ev) : Ev := frzA is 0 τ
noncomputable def newList? : IR → Bool
 | .bin .add _ _ => true
 | .sl _ _ _ => true
 | .bi .list _ => true
 | .comp _ _ _ _ _ _ => true
 | _ => false
noncomputable def keepD (e : IR) (d : D) (τ : Ev) : D × Ev :=
 if lfree d = true then (d, τ)
 else match newList? e, d with
  | true, .lst _ ds => if lfrees ds = true then (.lst true ds, τ) else (.lst true (ers ds), frz (vars e) τ)
  | _, _ => (er d, frz (vars e) τ)
mutual
noncomputable def evO (cl : Nat → List D → Res D) (mv : Bool) : IR → Ev → Res (D × Ev)
 | .v i, τ => match slotD τ i with
  | some d => if mv = true then .ok (d, τ.set i none) else .ok (er d, τ.set i (some (er d)))
  | none => stk
 | .tup es, τ => bnd (evOs cl mv es τ) fun p => grd (szOk p.1.length) (.ok (.tup p.1, p.2))
 | .lst es, τ => bnd (evOs cl mv es τ) fun p => grd (szOk p.1.length) (.ok (.lst true p.1, p.2))
 | .ite t a b, τ => bnd (evT cl t τ) fun r => if r = true then evO cl mv a τ else evO cl mv b τ
 | .call f es, τ => bnd (evRs cl es τ) fun ds => bnd (cl f (ers ds)) fun d => if lfree d = true then .ok (d, τ) else .ok (d, frz (varss es) τ)
 | e, τ => bnd (evR cl e τ) fun d => .ok (keepD e d τ)
noncomputable def evOs (cl : Nat → List D → Res D) (mv : Bool) : List IR → Ev → Res (List D × Ev)
 | [], τ => .ok ([], τ)
 | e :: es, τ => bnd (evO cl mv e τ) fun p => bnd (evOs cl mv es p.2) fun q => .ok (p.1 :: q.1, q.2)
end
noncomputable def forM (body : D → Ev → Res Fl) : List D → Ev → Res Fl
 | [], τ => .ok (.nx τ)
 | x :: xs, τ => bnd (body x τ) fun
  | .nx τ' => forM body xs τ'
  | .ct τ' => forM body xs τ'
  | .bk τ' => .ok (.nx τ')
  | .rt d => .ok (.rt d)
noncomputable def whileM (test : Ev → Res Bool) (body : Ev → Res Fl) : Nat → Ev → Res Fl
 | 0, _ => stk
 | n + 1, τ => bnd (test τ) fun r => if r = true then bnd (body τ) fun
  | .nx τ' => whileM test body n τ'
  | .ct τ' => whileM test body n τ'
  | .bk τ' => .ok (.nx τ')
  | .rt d => .ok (.rt d)
  else .ok (.nx τ)
noncomputable def srcO (cl : Nat → List D → Res D) (s : Sr) (τ : Ev) : Res (List D × Ev) := bnd (evSr cl s τ) fun its => match s with
 | .rng1 _ => .ok (its, τ)
 | .rng2 _ _ => .ok (its, τ)
 | s => .ok (ers its, frz (varsS s) τ)
noncomputable def wfuel : Nat := 1000000
mutual
noncomputable def evS (cl : Nat → List D → Res D) : IS → Ev → Res Fl
 | .asg tg e, τ => bnd (evO cl false e τ) fun p => bnd (setT tg p.1 p.2) fun τ' => .ok (.nx τ')
 | .par i j a b, τ => bnd (evOs cl false [a, b] τ) fun p => match p.1 with
  | [x, y] => .ok (.nx ((p.2.set i (some x)).set j (some y)))
  | _ => stk
 | .setix i k e, τ => bnd (evO cl false e τ) fun p => match slotD p.2 i with
  | some (.lst true ds) => bnd (evR cl k p.2) fun
   | .int z => (match ixN ds.length z with
    | some j => .ok (.nx (p.2.set i (some (.lst true (ds.set j p.1)))))
    | none => stk)
   | _ => stk
  | _ => stk
 | .app i e, τ => match slotD τ i with
  | some (.lst _ _) => bnd (evO cl false e τ) fun p => (match slotD p.2 i with
   | some (.lst true ds) => grd (szLt ds.length) (.ok (.nx (p.2.set i (some (.lst true (ds ++ [p.1]))))))
   | _ => stk)
  | _ => stk
 | .appx _ _ _, _ => stk
 | .rvs i, τ => match slotD τ i with
  | some (.lst true ds) => .ok (.nx (τ.set i (some (.lst true ds.reverse))))
  | _ => stk
 | .clr i, τ => match slotD τ i with
  | some (.lst true _) => .ok (.nx (τ.set i (some (.lst true []))))
  | _ => stk
 | .exp e, τ => bnd (evR cl e τ) fun _ => .ok (.nx τ)
 | .ret e, τ => bnd (evO cl true e τ) fun p => .ok (.rt p.1)
 | .retN, _ => .ok (.rt .non)
 | .if_ t a b, τ => bnd (evT cl t τ) fun r => if r = true then evSs cl a τ else evSs cl b τ
 | .for_ tg s body, τ => bnd (srcO cl s τ) fun p => forM (fun x τ => bnd (setT tg x τ) fun τ' => evSs cl body τ') p.1 p.2
 | .while_ t body, τ => whileM (evT cl t) (evSs cl body) wfuel τ
 | .brk, τ => .ok (.bk τ)
 | .cnt, τ => .ok (.ct τ)
 | .pass, τ => .ok (.nx τ)
 | .never, _ => stk
noncomputable def evSs (cl : Nat → List D → Res D) : List IS → Ev → Res Fl
 | [], τ => .ok (.nx τ)
 | s :: r, τ => bnd (evS cl s τ) fun
  | .nx τ' => evSs cl r τ'
  | .ct τ' => .ok (.ct τ')
  | .bk τ' => .ok (.bk τ')
  | .rt d => .ok (.rt d)
end
structure Fn where
 np : Nat
 G : Gm
 body : List IS
noncomputable def runF (cl : Nat → List D → Res D) (fn : Fn) (ds : List D) : Res D :=
 grd (decide (ds.length = fn.np)) (bnd (evSs cl fn.body (ds.map some ++ List.replicate (fn.G.N.length - fn.np) none)) fun
  | .nx _ => .ok .non
  | .rt d => .ok d
  | _ => stk)
noncomputable abbrev Tb := Nat → Option Fn
noncomputable def callF (T : Tb) : Nat → Nat → List D → Res D
 | 0, _, _ => stk
 | n + 1, f, ds => match T f with
  | some fn => runF (callF T n) fn ds
  | none => stk
theorem evR_v {cl : Nat → List D → Res D} {i : Nat} {τ : Ev} : evR cl (.v i) τ = (match slotD τ i with | some d => .ok d | none => stk) := rfl
theorem evO_v {cl : Nat → List D → Res D} {i : Nat} {τ : Ev} {mv : Bool} : evO cl mv (.v i) τ = (match slotD τ i with | some d => if mv = true then .ok (d, τ.set i none) else .ok (er d, τ.set i (some (er d))) | none => stk) := rfl
end L2
namespace L2
open PySem PySem.Spec PyProof.Rows PySem.SeqAt
section
variable {X : Cx} {pins : List (Addr × Obj)} {σ : St} {H : Hp} {S : Addr → Prop} {s : Shared}
theorem Inv.not_both (I : Inv X pins σ H s) {a : Addr} {xs ys : List V} (h1 : SqL X.K H a xs) (h2 : SqT X.K H a ys) : False := by
 obtain ⟨its, _, ⟨o, n, e, c, _⟩, _⟩ := I.list h1
 obtain ⟨its', _, ⟨o', e', c', _⟩, _⟩ := I.tuple h2
 rw [e] at e'; cases e'
 rw [c] at c'
 injection c' with c'
 exact absurd c' (by decide)
mutual
theorem HRep.one (I : Inv X pins σ H s) : ∀ {v : V} {d e : D}, HRep X.K S H v d → HRep X.K S H v e → er d = er e
 | _, _, _, .non, h => by cases h; rfl
 | _, _, _, .bl b, h => by cases h; rfl
 | _, _, _, .int i, h => by cases h; rfl
 | _, _, _, .str x, h => by cases h; rfl
 | _, _, _, .tup h1 h2, h => by
  cases h with
  | tup k1 k2 =>
   have e := I.tuple_inj h1 k1
   subst e
   rw [er, er, HReps.one I h2 k2]
  | lst k0 k1 k2 => exact (I.not_both (.inl k1) h1).elim
  | lstK k1 k2 => exact (I.not_both k1.sq h1).elim
 | _, _, _, .lst h0 h1 h2, h => by
  cases h with
  | tup k1 k2 => exact (I.not_both (.inl h1) k1).elim
  | lst k0 k1 k2 =>
   have e := I.list_inj (.inl h1) (.inl k1)
   subst e
   rw [er, er, HReps.one I h2 k2]
  | lstK k1 k2 =>
   have e := I.list_inj (.inl h1) k1.sq
   subst e
   rw [er, er, HReps.one I h2 k2]
 | _, _, _, .lstK h1 h2, h => by
  cases h with
  | tup k1 k2 => exact (I.not_both h1.sq k1).elim
  | lst k0 k1 k2 =>
   have e := I.list_inj h1.sq (.inl k1)
   subst e
   rw [er, er, HReps.one I h2 k2]
  | lstK k1 k2 =>
   have e := I.list_inj h1.sq k1.sq
   subst e
   rw [er, er, HReps.one I h2 k2]
theorem HReps.one (I : Inv X pins σ H s) : ∀ {vs : List V} {ds es : List D}, HReps X.K S H vs ds → HReps X.K S H vs es → ers ds = ers es
 | _, _, _, .nil, h => by cases h; rfl
 | _, _, _, .cons h1 h2, h => by
  cases h with
  | cons k1 k2 => rw [ers, ers, HRep.one I h1 k1, HReps.one I h2 k2]
end
end
theorem bnd_ok {α β : Type} {x : Res α} {f : α → Res β} {b : β} (h : bnd x f = .ok b) : ∃ a, x = .ok a ∧ f a = .ok b := by
 cases x with
 | error e => cases h
 | ok a => exact ⟨a, rfl, h⟩
theorem grd_ok {α : Type} {c : Bool} {x : Res α} {b : α} (h : grd c x = .ok b) : c = true ∧ x = .ok b := by
 unfold grd at h
 cases c with
 | true => exact ⟨rfl, h⟩
 | false => cases h
theorem eqsG_refl {f : D → D → Res Bool} (hf : ∀ d e r, f d e = .ok r → er d = er e → r = true) : ∀ {ds es : List D} {r : Bool}, eqsG f ds es = .ok r → ers ds = ers es → r = true
 | [], [], r, h, _ => by cases h; rfl
 | [], _ :: _, _, _, h => by rw [ers, ers] at h; cases h
 | _ :: _, [], _, _, h => by rw [ers, ers] at h; cases h
 | a :: ds, b :: es, r, h, h' => by
  rw [ers, ers] at h'
  injection h' with e1 e2
  obtain ⟨x, hx, h⟩ := bnd_ok (show bnd (f a b) (fun x => bnd (eqsG f ds es) fun y => .ok (x && y)) = .ok r from h)
  obtain ⟨y, hy, h⟩ := bnd_ok h
  cases h
  rw [hf a b x hx e1, eqsG_refl hf hy e2]
  rfl
theorem eqN_refl : ∀ (n : Nat) (d e : D) (r : Bool), eqN n d e = .ok r → er d = er e → r = true
 | 0, _, _, _, h, _ => by cases h
 | n + 1, d, e, r, h, h' => by
  cases d with
  | tup ds =>
   cases e with
   | tup es =>
    rw [er, er] at h'
    injection h' with e1
    exact eqsG_refl (eqN_refl n) h e1
   | non => rw [er, er] at h'; cases h'
   | bl _ => rw [er, er] at h'; cases h'
   | int _ => rw [er, er] at h'; cases h'
   | str _ => rw [er, er] at h'; cases h'
   | lst _ _ => rw [er, er] at h'; cases h'
  | lst o ds =>
   cases e with
   | lst o' es =>
    rw [er, er] at h'
    injection h' with _ e1
    exact eqsG_refl (eqN_refl n) h e1
   | non => rw [er, er] at h'; cases h'
   | bl _ => rw [er, er] at h'; cases h'
   | int _ => rw [er, er] at h'; cases h'
   | str _ => rw [er, er] at h'; cases h'
   | tup _ => rw [er, er] at h'; cases h'
  | non => cases e <;> first | (cases h; rfl) | (exfalso; simp [er] at h')
  | bl b => cases e <;> first | (simp only [er, D.bl.injEq] at h'; subst h'; cases h; simp) | (exfalso; simp [er] at h')
  | int b => cases e <;> first | (simp only [er, D.int.injEq] at h'; subst h'; cases h; simp) | (exfalso; simp [er] at h')
  | str b => cases e <;> first | (simp only [er, D.str.injEq] at h'; subst h'; cases h; simp) | (exfalso; simp [er] at h')
theorem eqsG_len {f : D → D → Res Bool} : ∀ {ds es : List D} {r : Bool}, eqsG f ds es = .ok r → ds.length ≠ es.length → r = false
 | [], [], _, _, h => absurd rfl h
 | [], _ :: _, _, h, _ => by cases h; rfl
 | _ :: _, [], _, h, _ => by cases h; rfl
 | a :: ds, b :: es, r, h, n => by
  obtain ⟨x, hx, h⟩ := bnd_ok (show bnd (f a b) (fun x => bnd (eqsG f ds es) fun y => .ok (x && y)) = .ok r from h)
  obtain ⟨y, hy, h⟩ := bnd_ok h
  cases h
  rw [eqsG_len hy (fun z => n (by rw [List.length_cons, List.length_cons, z]))]
  simp
theorem eqsG_at {f : D → D → Res Bool} : ∀ {ds es : List D} {r : Bool}, eqsG f ds es = .ok r → ds.length = es.length →
  ∃ e : Nat → Bool, (∀ j a b, ds[j]? = some a → es[j]? = some b → f a b = .ok (e j)) ∧ r = (List.range ds.length).all e
 | [], [], r, h, _ => by cases h; exact ⟨fun _ => true, fun j a b h => by simp at h, rfl⟩
 | [], _ :: _, _, _, h => by cases h
 | _ :: _, [], _, _, h => by cases h
 | a :: ds, b :: es, r, h, n => by
  obtain ⟨x, hx, h⟩ := bnd_ok (show bnd (f a b) (fun x => bnd (eqsG f ds es) fun y => .ok (x && y)) = .ok r from h)
  obtain ⟨y, hy, h⟩ := bnd_ok h
  cases h
  obtain ⟨e, h1, h2⟩ := eqsG_at hy (by simpa using n)
  refine ⟨fun j => match j with | 0 => x | k + 1 => e k, fun j a' b' e1 e2 => ?_, ?_⟩
  ·cases j with
   | zero => simp at e1 e2; subst e1 e2; exact hx
   | succ k => exact h1 k a' b' (by simpa using e1) (by simpa using e2)
  ·rw [h2, List.length_cons, List.range_succ_eq_map, List.all_cons, List.all_map]
   rfl
section
variable {X : Cx} {pins : List (Addr × Obj)} {σ : St} {H : Hp} {S : Addr → Prop} {s : Shared}
structure EqAll (A : Around) (s : Shared) (v u : Value) (r : Bool) : Prop where
 eq : EqAt A s v u r
 rc : RcAt A s v u r
 ne : RcNeAt A s v u (!r)
theorem items_eq (n : Nat) (A : Around) (ih : ∀ (x y : V) (v u : Value) (d e : D) (r : Bool), HRep X.K S H x d → HRep X.K S H y e → RelV x v → RelV y u → eqN n d e = .ok r → EqAt A.in1 s v u r)
  {xs ys : List V} {ds es : List D} {its its' : List Value} {r : Bool} (rv : Vals xs its) (rv' : Vals ys its') (h2 : HReps X.K S H xs ds) (k2 : HReps X.K S H ys es) (hr : eqsG (eqN n) ds es = .ok r) :
  ∃ e : Nat → Bool, (∀ j (q1 : j < its.toArray.size) (q2 : j < its'.toArray.size), EqAt A.in1 s its.toArray[j] its'.toArray[j] (e j)) ∧ r = ((List.range (min its.toArray.size its'.toArray.size)).all e && its.toArray.size == its'.toArray.size) := by
 have l1 := h2.length
 have l2 := k2.length
 have l3 := rv.length
 have l4 := rv'.length
 have pair : ∀ j (j1 : j < its.toArray.size) (j2 : j < its'.toArray.size) (b : Bool) (d1 : j < ds.length) (d2 : j < es.length), eqN n ds[j] es[j] = .ok b → EqAt A.in1 s its.toArray[j] its'.toArray[j] b := by
  intro j j1 j2 b d1 d2 hb
  obtain ⟨x', e1, m1⟩ := h2.get (i := j) (d := ds[j]) (by simp)
  obtain ⟨y', e2, m2⟩ := k2.get (i := j) (d := es[j]) (by simp)
  obtain ⟨v', ev, rv1⟩ := rv.get e1
  obtain ⟨u', eu, ru1⟩ := rv'.get e2
  have hv : its.toArray[j] = v' := by
   have := (List.getElem?_eq_some_iff.mp ev).2
   simpa using this
  have hu' : its'.toArray[j] = u' := by
   have := (List.getElem?_eq_some_iff.mp eu).2
   simpa using this
  rw [hv, hu']
  exact ih x' y' v' u' _ _ _ m1 m2 rv1 ru1 hb
 have z1 : its.toArray.size = ds.length := by simp; omega
 have z2 : its'.toArray.size = es.length := by simp; omega
 by_cases hl : ds.length = es.length
 ·obtain ⟨e, q1, q2⟩ := eqsG_at hr hl
  refine ⟨e, fun j j1 j2 => pair j j1 j2 _ (by omega) (by omega) (q1 j _ _ (by simp) (by simp)), ?_⟩
  rw [q2, z1, z2, hl]
  simp
 ·have hr' := eqsG_len hr hl
  have each : ∀ (ds es : List D) (r : Bool), eqsG (eqN n) ds es = .ok r → ∀ j (q1 : j < ds.length) (q2 : j < es.length), ∃ b, eqN n ds[j] es[j] = .ok b := by
   intro ds
   induction ds with
   | nil => intro es r _ j q1; simp at q1
   | cons a ds ih =>
    intro es r h j q1 q2
    cases es with
    | nil => simp at q2
    | cons b es =>
     obtain ⟨x, hx, h⟩ := bnd_ok (show bnd (eqN n a b) (fun x => bnd (eqsG (eqN n) ds es) fun y => .ok (x && y)) = .ok r from h)
     obtain ⟨y, hy, h⟩ := bnd_ok h
     cases j with
     | zero => exact ⟨x, hx⟩
     | succ k => exact ih es y hy k (by simpa using q1) (by simpa using q2)
  refine ⟨fun j => if q : j < ds.length ∧ j < es.length then ((match eqN n (ds[j]'q.1) (es[j]'q.2) with | .ok b => b | .error _ => false)) else false, fun j j1 j2 => ?_, ?_⟩
  ·have d1 : j < ds.length := by omega
   have d2 : j < es.length := by omega
   obtain ⟨b, hb⟩ := each ds es r hr j d1 d2
   have q := pair j j1 j2 b d1 d2 hb
   show EqAt A.in1 s its.toArray[j] its'.toArray[j] (dite _ _ _)
   rw [dif_pos (show j < ds.length ∧ j < es.length from ⟨d1, d2⟩), hb]
   exact q
  ·rw [hr']
   have : (its.toArray.size == its'.toArray.size) = false := by
    rw [beq_eq_false_iff_ne, z1, z2]
    exact hl
   rw [this, Bool.and_false]
theorem lists_eq (I : Inv X pins σ H s) (n : Nat) (A : Around) (ih : ∀ (x y : V) (v u : Value) (d e : D) (r : Bool), HRep X.K S H x d → HRep X.K S H y e → RelV x v → RelV y u → eqN n d e = .ok r → EqAt A.in1 s v u r)
  {a b : Addr} {o o' : Bool} {xs ys : List V} {ds es : List D} {r : Bool} (ha : SqL X.K H a xs) (hb : SqL X.K H b ys) (h2 : HReps X.K S H xs ds) (k2 : HReps X.K S H ys es)
  (m1 : HRep X.K S H (.ref a) (.lst o ds)) (m2 : HRep X.K S H (.ref b) (.lst o' es)) (hr : eqsG (eqN n) ds es = .ok r) (hu0 : A.units < cLine) : EqAll A s (.ref a) (.ref b) r := by
 obtain ⟨its, rv, p, _⟩ := I.list ha
 obtain ⟨its', rv', p', _⟩ := I.list hb
 obtain ⟨e, he, hre⟩ := items_eq n A ih rv rv' h2 k2 hr
 have both : RcAt A s (.ref a) (.ref b) r ∧ RcNeAt A s (.ref a) (.ref b) (!r) := by
  by_cases hl : its.toArray.size = its'.toArray.size
  ·have hre' : r = (List.range its.toArray.size).all e := by
    rw [hre, ← hl, Nat.min_self]
    simp
   rw [hre']
   exact ⟨.lists p.isList p'.isList hl hu0 he, .lists p.isList p'.isList hl hu0 he⟩
  ·have hne : (its.toArray.size != its'.toArray.size) = true := by simpa using hl
   have hre' : r = false := by
    rw [hre]
    have : (its.toArray.size == its'.toArray.size) = false := by rw [beq_eq_false_iff_ne]; exact hl
    rw [this, Bool.and_false]
   rw [hre']
   exact ⟨.lists_lengths p.isList p'.isList hne hu0, .lists_lengths p.isList p'.isList hne hu0⟩
 refine ⟨?_, both.1, both.2⟩
 by_cases hab : a = b
 ·subst hab
  have hd := HRep.one I m1 m2
  rw [er, er] at hd
  injection hd with _ hd
  rw [eqsG_refl (eqN_refl n) hr hd]
  exact .same _
 ·exact .of_refs hab both.1
set_option maxHeartbeats 4000000 in
theorem eqN_ok (I : Inv X pins σ H s) : ∀ (n : Nat) (A : Around) (x y : V) (v u : Value) (d e : D) (r : Bool), HRep X.K S H x d → HRep X.K S H y e → RelV x v → RelV y u → eqN n d e = .ok r →
  A.units + n < cLine → EqAll A s v u r
 | 0, _, _, _, _, _, _, _, _, _, _, _, _, h, _ => by cases h
 | n + 1, A, x, y, v, u, d, e, r, hx, hy, rx, ry, h, hu => by
  have hu0 : A.units < cLine := by omega
  have hu1 : A.in1.units + n < cLine := by show A.units + 1 + n < cLine; omega
  have ih : ∀ (x y : V) (v u : Value) (d e : D) (r : Bool), HRep X.K S H x d → HRep X.K S H y e → RelV x v → RelV y u → eqN n d e = .ok r → EqAt A.in1 s v u r :=
   fun x y v u d e r a1 a2 a3 a4 a5 => (eqN_ok I n A.in1 x y v u d e r a1 a2 a3 a4 a5 hu1).eq
  cases d with
  | non =>
   cases hx.nonR; cases rx
   cases e with
   | non => cases hy.nonR; cases ry; cases h; exact ⟨.same _, .none_none, .none_none⟩
   | bl b' => cases hy.blR; cases ry; cases h; exact ⟨.none_bool _, .none_bool _, .none_bool _⟩
   | int i' => cases hy.intR; obtain ⟨t2, rfl⟩ := ry; cases h; exact ⟨.none_int _ _, .none_int _ _, .none_int _ _⟩
   | str z' => cases hy.strR; obtain ⟨t2, rfl⟩ := ry; cases h; exact ⟨.none_str _ _, .none_str _ _, .none_str _ _⟩
   | tup es => obtain ⟨a2, xs2, rfl, q2, m2⟩ := hy.tupR; cases ry; obtain ⟨its2, rv2, p2, _⟩ := I.tuple q2; cases h; exact ⟨.none_tuple p2 hu0, .none_tuple p2 hu0, .none_tuple p2 hu0⟩
   | lst o' es => obtain ⟨a2, xs2, rfl, q2, m2⟩ := hy.lstR; cases ry; obtain ⟨its2, rv2, p2, _⟩ := I.list q2; cases h; exact ⟨.none_list p2.isList hu0, .none_list p2.isList hu0, .none_list p2.isList hu0⟩
  | bl b =>
   cases hx.blR; cases rx
   cases e with
   | non => cases hy.nonR; cases ry; cases h; exact ⟨.bool_none _, .bool_none _, .bool_none _⟩
   | bl b' => cases hy.blR; cases ry; cases h; exact ⟨.bool_bool _ _, .bool_bool _ _, .bool_bool _ _⟩
   | int i' => cases hy.intR; obtain ⟨t2, rfl⟩ := ry; cases h; exact ⟨.bool_int _ _ _, .bool_int _ _ _, .bool_int _ _ _⟩
   | str z' => cases hy.strR; obtain ⟨t2, rfl⟩ := ry; cases h; exact ⟨.bool_str _ _ _, .bool_str _ _ _, .bool_str _ _ _⟩
   | tup es => obtain ⟨a2, xs2, rfl, q2, m2⟩ := hy.tupR; cases ry; obtain ⟨its2, rv2, p2, _⟩ := I.tuple q2; cases h; exact ⟨.bool_tuple _ p2 hu0, .bool_tuple _ p2 hu0, .bool_tuple _ p2 hu0⟩
   | lst o' es => obtain ⟨a2, xs2, rfl, q2, m2⟩ := hy.lstR; cases ry; obtain ⟨its2, rv2, p2, _⟩ := I.list q2; cases h; exact ⟨.bool_list _ p2.isList hu0, .bool_list _ p2.isList hu0, .bool_list _ p2.isList hu0⟩
  | int i =>
   cases hx.intR; obtain ⟨t1, rfl⟩ := rx
   cases e with
   | non => cases hy.nonR; cases ry; cases h; exact ⟨.int_none _ _, .int_none _ _, .int_none _ _⟩
   | bl b' => cases hy.blR; cases ry; cases h; exact ⟨.int_bool _ _ _, .int_bool _ _ _, .int_bool _ _ _⟩
   | int i' => cases hy.intR; obtain ⟨t2, rfl⟩ := ry; cases h; exact ⟨.int_int _ _ _ _, .int_int _ _ _ _, .int_int _ _ _ _⟩
   | str z' => cases hy.strR; obtain ⟨t2, rfl⟩ := ry; cases h; exact ⟨.int_str _ _ _ _, .int_str _ _ _ _, .int_str _ _ _ _⟩
   | tup es => obtain ⟨a2, xs2, rfl, q2, m2⟩ := hy.tupR; cases ry; obtain ⟨its2, rv2, p2, _⟩ := I.tuple q2; cases h; exact ⟨.int_tuple _ _ p2 hu0, .int_tuple _ _ p2 hu0, .int_tuple _ _ p2 hu0⟩
   | lst o' es => obtain ⟨a2, xs2, rfl, q2, m2⟩ := hy.lstR; cases ry; obtain ⟨its2, rv2, p2, _⟩ := I.list q2; cases h; exact ⟨.int_list _ _ p2.isList hu0, .int_list _ _ p2.isList hu0, .int_list _ _ p2.isList hu0⟩
  | str z =>
   cases hx.strR; obtain ⟨t1, rfl⟩ := rx
   cases e with
   | non => cases hy.nonR; cases ry; cases h; exact ⟨.str_none _ _, .str_none _ _, .str_none _ _⟩
   | bl b' => cases hy.blR; cases ry; cases h; exact ⟨.str_bool _ _ _, .str_bool _ _ _, .str_bool _ _ _⟩
   | int i' => cases hy.intR; obtain ⟨t2, rfl⟩ := ry; cases h; exact ⟨.str_int _ _ _ _, .str_int _ _ _ _, .str_int _ _ _ _⟩
   | str z' => cases hy.strR; obtain ⟨t2, rfl⟩ := ry; cases h; exact ⟨.str_str _ _ _ _, .str_str _ _ _ _, .str_str _ _ _ _⟩
   | tup es => obtain ⟨a2, xs2, rfl, q2, m2⟩ := hy.tupR; cases ry; obtain ⟨its2, rv2, p2, _⟩ := I.tuple q2; cases h; exact ⟨.str_tuple _ _ p2 hu0, .str_tuple _ _ p2 hu0, .str_tuple _ _ p2 hu0⟩
   | lst o' es => obtain ⟨a2, xs2, rfl, q2, m2⟩ := hy.lstR; cases ry; obtain ⟨its2, rv2, p2, _⟩ := I.list q2; cases h; exact ⟨.str_list _ _ p2.isList hu0, .str_list _ _ p2.isList hu0, .str_list _ _ p2.isList hu0⟩
  | tup ds =>
   obtain ⟨a1, xs1, rfl, q1, m1⟩ := hx.tupR; cases rx; obtain ⟨its1, rv1, p1, _⟩ := I.tuple q1
   cases e with
   | non => cases hy.nonR; cases ry; cases h; exact ⟨.tuple_none p1 hu0, .tuple_none p1 hu0, .tuple_none p1 hu0⟩
   | bl b' => cases hy.blR; cases ry; cases h; exact ⟨.tuple_bool _ p1 hu0, .tuple_bool _ p1 hu0, .tuple_bool _ p1 hu0⟩
   | int i' => cases hy.intR; obtain ⟨t2, rfl⟩ := ry; cases h; exact ⟨.tuple_int _ _ p1 hu0, .tuple_int _ _ p1 hu0, .tuple_int _ _ p1 hu0⟩
   | str z' => cases hy.strR; obtain ⟨t2, rfl⟩ := ry; cases h; exact ⟨.tuple_str _ _ p1 hu0, .tuple_str _ _ p1 hu0, .tuple_str _ _ p1 hu0⟩
   | tup es =>
    have hx' := hx
    have hy' := hy
    obtain ⟨a2, xs2, rfl, q2, m2⟩ := hy.tupR; cases ry; obtain ⟨its2, rv2, p2, _⟩ := I.tuple q2
    have hr : eqsG (eqN n) ds es = .ok r := h
    obtain ⟨e, he, hre⟩ := items_eq n A ih rv1 rv2 m1 m2 hr
    refine ⟨?_, ?_, ?_⟩
    ·by_cases hab : a1 = a2
     ·subst hab
      have hd := HRep.one I hx' hy'
      rw [er, er] at hd
      injection hd with hd
      rw [eqsG_refl (eqN_refl n) hr hd]
      exact .same _
     ·rw [hre]
      exact .of_refs hab (.tuples p1 p2 hu0 he)
    ·rw [hre]
     exact .tuples p1 p2 hu0 he
    ·rw [hre]
     exact .tuples p1 p2 hu0 he
   | lst o' es => obtain ⟨a2, xs2, rfl, q2, m2⟩ := hy.lstR; cases ry; obtain ⟨its2, rv2, p2, _⟩ := I.list q2; cases h; exact ⟨.tuple_list p1 p2.isList hu0, .tuple_list p1 p2.isList hu0, .tuple_list p1 p2.isList hu0⟩
  | lst o ds =>
   obtain ⟨a1, xs1, rfl, q1, m1⟩ := hx.lstR; cases rx; obtain ⟨its1, rv1, p1, _⟩ := I.list q1
   cases e with
   | non => cases hy.nonR; cases ry; cases h; exact ⟨.list_none p1.isList hu0, .list_none p1.isList hu0, .list_none p1.isList hu0⟩
   | bl b' => cases hy.blR; cases ry; cases h; exact ⟨.list_bool _ p1.isList hu0, .list_bool _ p1.isList hu0, .list_bool _ p1.isList hu0⟩
   | int i' => cases hy.intR; obtain ⟨t2, rfl⟩ := ry; cases h; exact ⟨.list_int _ _ p1.isList hu0, .list_int _ _ p1.isList hu0, .list_int _ _ p1.isList hu0⟩
   | str z' => cases hy.strR; obtain ⟨t2, rfl⟩ := ry; cases h; exact ⟨.list_str _ _ p1.isList hu0, .list_str _ _ p1.isList hu0, .list_str _ _ p1.isList hu0⟩
   | tup es => obtain ⟨a2, xs2, rfl, q2, m2⟩ := hy.tupR; cases ry; obtain ⟨its2, rv2, p2, _⟩ := I.tuple q2; cases h; exact ⟨.list_tuple p1.isList p2 hu0, .list_tuple p1.isList p2 hu0, .list_tuple p1.isList p2 hu0⟩
   | lst o' es =>
    have hx' := hx
    have hy' := hy
    obtain ⟨a2, xs2, rfl, q2, m2⟩ := hy.lstR; cases ry; obtain ⟨its2, rv2, p2, _⟩ := I.list q2
    exact lists_eq I n A ih q1 q2 m1 m2 hx' hy' h hu0
end
end L2
namespace L2
open PySem PySem.Spec PyProof.Rows PySem.SeqAt
noncomputable abbrev nw (S : Addr → Prop) (H : Hp) : Addr → Prop := fun a => S a ∨ H a = none
noncomputable abbrev Kk (K : PySem.W.Frag) (S : Addr → Prop) (H : Hp) (Q : VK) : D → Prop := fun d => ∀ w H', Same H H' → HRep K (nw S H) H' w d → Q w H'
theorem HRep.nw {K : PySem.W.Frag} {S : Addr → Prop} {H : Hp} {v : V} {d : D} (h : HRep K S H v d) : HRep K (nw S H) H v d := h.mono (fun _ => .inl) (.refl _)
theorem newT {K : PySem.W.Frag} {S : Addr → Prop} {H : Hp} {p : Addr} {vs : List V} {ds : List D} (hp : H p = none) (h : HReps K S H vs ds) : HRep K (nw S H) (upd H p (.tup vs)) (.ref p) (.tup ds) :=
 .tup (.inl (.inl upd_same)) (h.mono (fun _ => .inl) (.upd hp))
theorem newL {K : PySem.W.Frag} {S : Addr → Prop} {H : Hp} {p : Addr} {vs : List V} {ds : List D} {o : Bool} (hp : H p = none) (h : HReps K S H vs ds) : HRep K (nw S H) (upd H p (.lst vs)) (.ref p) (.lst o ds) :=
 .lst (.inr hp) (.inl upd_same) (h.mono (fun _ => .inl) (.upd hp))
noncomputable def bop : BOp → Operator
 | .add => .Add | .sub => .Sub | .mul => .Mult | .fdiv => .FloorDiv | .mod => .Mod | .pow => .Pow
noncomputable def cop : COp → CmpOp
 | .eq => .Eq | .ne => .NotEq | .lt => .Lt | .le => .LtE | .gt => .Gt | .ge => .GtE | .in_ => .In | .nin => .NotIn | .is_ => .Is | .isn => .IsNot
noncomputable def rBin (K : PySem.W.Frag) (ex : Str → Prop) (op : BOp) : R2 := fun x y H Q => ∃ S d e, HRep K S H x d ∧ HRep K S H y e ∧ PO' ex (opB op d e) (Kk K S H Q)
noncomputable def rCmp (K : PySem.W.Frag) (ex : Str → Prop) (op : COp) : R2 := fun x y H Q => ∃ S d e, HRep K S H x d ∧ HRep K S H y e ∧ PO' ex (opC op d e) fun r => Q (.bl r) H
section
variable {X : Cx} {ex : Str → Prop}
theorem szOk_le {n : Nat} (h : szOk n = true) : n ≤ sizeLine := of_decide_eq_true h
theorem szLt_lt {n : Nat} (h : szLt n = true) : n < sizeLine := of_decide_eq_true h
theorem op_catL : OpR X (binaryOp .Add) (fun x y H Q => ∃ l b xs zs, x = .ref l ∧ y = .ref b ∧ Ls X.K H l xs ∧ Ls X.K H b zs ∧ xs.length + zs.length ≤ sizeLine ∧ ∀ p, H p = none → Q (.ref p) (upd H p (.lst (xs ++ zs)))) := by
 intro pins s σ H x y v u Q I rx ry h
 obtain ⟨l, b, xs, zs, rfl, rfl, hH, hB, hz, q⟩ := h
 cases rx
 cases ry
 obtain ⟨hl, its, n, r, e⟩ := I.ls hH
 obtain ⟨hl2, its2, n2, r2, e'⟩ := I.ls hB
 have e1 := r.length
 have e2 := r2.length
 refine PySem.P.add_list e e' ?_ (by rw [List.size_toArray, List.size_toArray]; omega)
 have ea : its.toArray ++ its2.toArray = (its ++ its2).toArray := by simp
 rw [ea]
 exact ⟨.ref _, _, I.lnew (t' := s.toks) (r.append r2) (by rw [List.length_append]; omega), rfl, q _ I.fresh⟩
theorem opB_ok (op : BOp) : OpR X (binaryOp (bop op)) (rBin X.K ex op) := by
 intro pins s σ H x y v u Q I rx ry h
 obtain ⟨S, d, e, hx, hy, h⟩ := h
 have stuck : ∀ {P : Prop}, opB op d e = stk → P := fun z => by rw [z] at h; exact h.no.elim
 cases op with
 | add =>
  cases d with
  | int a =>
   cases e with
   | int b => cases hx.intR; cases hy.intR; exact op_add pins s σ H _ _ v u Q I rx ry ⟨a, b, rfl, rfl, h.ok _ _ (.refl _) (.int _)⟩
   | _ => exact stuck rfl
  | str a =>
   cases e with
   | str b =>
    cases hx.strR; cases hy.strR
    obtain ⟨g, h⟩ := PO'.grd h
    exact op_add_str pins s σ H _ _ v u Q I rx ry ⟨a, b, rfl, rfl, szOk_le g, h.ok _ _ (.refl _) (.str _)⟩
   | _ => exact stuck rfl
  | lst o a =>
   cases e with
   | lst o' b =>
    obtain ⟨p, xs, rfl, q1, m1⟩ := hx.lstL
    obtain ⟨p', ys, rfl, q2, m2⟩ := hy.lstL
    obtain ⟨g, h⟩ := PO'.grd h
    have g' := szOk_le g
    have l1 := m1.length
    have l2 := m2.length
    exact op_catL pins s σ H _ _ v u Q I rx ry ⟨p, p', xs, ys, rfl, rfl, q1, q2, by omega, fun z hz => h.ok _ _ (.upd hz) (newL hz (m1.append m2))⟩
   | _ => exact stuck rfl
  | _ => exact stuck rfl
 | sub =>
  cases d with
  | int a =>
   cases e with
   | int b => cases hx.intR; cases hy.intR; exact op_sub pins s σ H _ _ v u Q I rx ry ⟨a, b, rfl, rfl, h.ok _ _ (.refl _) (.int _)⟩
   | _ => exact stuck rfl
  | _ => exact stuck rfl
 | mul =>
  cases d with
  | int a =>
   cases e with
   | int b =>
    cases hx.intR; cases hy.intR
    obtain ⟨g, h⟩ := PO'.grd h
    rw [Bool.or_eq_true] at g
    exact op_mul pins s σ H _ _ v u Q I rx ry ⟨a, b, rfl, rfl, g.elim (fun z => .inl (of_decide_eq_true z)) (fun z => .inr (of_decide_eq_true z)), h.ok _ _ (.refl _) (.int _)⟩
   | _ => exact stuck rfl
  | str a =>
   cases e with
   | _ => exact stuck rfl
  | _ => exact stuck rfl
 | fdiv =>
  cases d with
  | int a =>
   cases e with
   | int b =>
    cases hx.intR; cases hy.intR
    obtain ⟨g, h⟩ := PO'.grd h
    exact op_fdiv pins s σ H _ _ v u Q I rx ry ⟨a, b, rfl, rfl, show 0 < b ∧ b < 1073741824 from of_decide_eq_true g, h.ok _ _ (.refl _) (.int _)⟩
   | _ => exact stuck rfl
  | _ => exact stuck rfl
 | mod =>
  cases d with
  | int a =>
   cases e with
   | int b =>
    cases hx.intR; cases hy.intR
    obtain ⟨g, h⟩ := PO'.grd h
    exact op_mod pins s σ H _ _ v u Q I rx ry ⟨a, b, rfl, rfl, of_decide_eq_true g, h.ok _ _ (.refl _) (.int _)⟩
   | _ => exact stuck rfl
  | _ => exact stuck rfl
 | pow =>
  cases d with
  | int a =>
   cases e with
   | int b =>
    cases hx.intR; cases hy.intR
    obtain ⟨g, h⟩ := PO'.grd h
    exact op_pow pins s σ H _ _ v u Q I rx ry ⟨a, b, rfl, rfl, show 0 ≤ b ∧ b ≤ 1000000 ∧ a.natAbs < 2 ^ 64 from of_decide_eq_true g, h.ok _ _ (.refl _) (.int _)⟩
   | _ => exact stuck rfl
  | _ => exact stuck rfl
theorem PO'.eqN {ex : Str → Prop} : ∀ {n : Nat} {d e : D} {k : Bool → Prop}, PO' ex (L2.eqN n d e) k → ∃ r, L2.eqN n d e = .ok r ∧ k r := by
 have no : ∀ (n : Nat) (d e : D) (c : Str), L2.eqN n d e ≠ .error (.exc c) := by
  intro n
  have seqs : ∀ (f : D → D → Res Bool), (∀ d e c, f d e ≠ .error (.exc c)) → ∀ (ds es : List D) (c : Str), eqsG f ds es ≠ .error (.exc c) := by
   intro f hf ds
   induction ds with
   | nil => intro es c h; cases es <;> cases h
   | cons a ds ih =>
    intro es c h
    cases es with
    | nil => cases h
    | cons b es =>
     have h' : L2.bnd (f a b) (fun x => L2.bnd (eqsG f ds es) fun y => .ok (x && y)) = .error (.exc c) := h
     cases q : f a b with
     | error z => rw [q] at h'; exact hf a b c (by rw [q]; exact h')
     | ok x =>
      rw [q] at h'
      have h2 : L2.bnd (eqsG f ds es) (fun y => .ok (x && y)) = .error (.exc c) := h'
      cases q2 : eqsG f ds es with
      | error z => rw [q2] at h2; exact ih es c (by rw [q2]; exact h2)
      | ok y => rw [q2] at h2; cases h2
  induction n with
  | zero => intro d e c h; cases h
  | succ n ih =>
   intro d e c h
   cases d <;> cases e <;> first | cases h | exact seqs _ ih _ _ _ h
 intro n d e k h
 cases q : L2.eqN n d e with
 | ok r => rw [q] at h; exact ⟨r, rfl, h⟩
 | error z =>
  rw [q] at h
  cases z with
  | stuck => exact h.no.elim
  | exc c => exact absurd q (no n d e c)
theorem PO'.anyN {ex : Str → Prop} {d : D} : ∀ {ds : List D} {k : Bool → Prop}, PO' ex (L2.anyN d ds) k → ∃ f : Nat → Bool, (∀ i e, ds[i]? = some e → L2.eqN 40 e d = .ok (f i)) ∧ k ((List.range ds.length).any f)
 | [], k, h => ⟨fun _ => false, fun i e z => by simp at z, h⟩
 | e :: r, k, h => by
  obtain ⟨x, ex', h1⟩ := PO'.eqN (PO'.bnd h)
  obtain ⟨f, h2, h3⟩ := PO'.anyN (PO'.bnd h1)
  refine ⟨fun i => match i with | 0 => x | j + 1 => f j, fun i e' z => ?_, ?_⟩
  ·cases i with
   | zero => simp at z; subst z; exact ex'
   | succ j => exact h2 j e' (by simpa using z)
  ·rw [List.length_cons, List.range_succ_eq_map, List.any_cons, List.any_map]
   exact h3
theorem any_choose {A : Around} {s : Shared} {v : Value} (its : List Value) (f : Nat → Bool) (h : ∀ i u, its[i]? = some u → EqAt A s u v (f i)) :
  ∃ e : Value → Bool, (∀ y, y ∈ its.toArray → EqAt A s y v (e y)) ∧ its.toArray.any e = (List.range its.length).any f := by
 classical
 refine ⟨fun y => decide (∃ i, its[i]? = some y ∧ f i = true), fun y hy => ?_, ?_⟩
 ·have hy' : y ∈ its := by simpa using hy
  obtain ⟨j, hj⟩ := List.getElem?_of_mem hy'
  show EqAt A s y v (decide (∃ i, its[i]? = some y ∧ f i = true))
  by_cases q : ∃ i, its[i]? = some y ∧ f i = true
  ·rw [decide_eq_true q]
   obtain ⟨i, hi, fi⟩ := q
   have := h i y hi
   rw [fi] at this
   exact this
  ·rw [decide_eq_false q]
   have := h j y hj
   have fj : f j = false := by
    cases z : f j with
    | false => rfl
    | true => exact absurd ⟨j, hj, z⟩ q
   rw [fj] at this
   exact this
 ·rw [Bool.eq_iff_iff]
  simp only [List.any_toArray, List.any_eq_true, List.mem_range, decide_eq_true_eq]
  constructor
  ·rintro ⟨y, hy, i, hi, fi⟩
   exact ⟨i, (List.getElem?_eq_some_iff.mp hi).1, fi⟩
  ·rintro ⟨i, hi, fi⟩
   exact ⟨its[i], List.getElem_mem hi, i, by simp [hi], fi⟩
theorem in_seq_ok (hu : X.A.units + 42 < cLine) {pins : List (Addr × Obj)} {s : Shared} {σ : St} {H : Hp} {S : Addr → Prop} {x : V} {v : Value} {d : D} {k : Bool → Prop} (I : Inv X pins σ H s) (rx : RelV x v) (hx : HRep X.K S H x d)
  {xs : List V} {its : List Value} {ds : List D} (rv : Vals xs its) (m : HReps X.K S H xs ds) (h : PO' ex (anyN d ds) k) :
  ∃ e : Value → Bool, (∀ y, y ∈ its.toArray → EqAt X.A.in1 s y v (e y)) ∧ k (its.toArray.any e) := by
 obtain ⟨f, h1, h2⟩ := PO'.anyN h
 have l1 := rv.length
 have l2 := m.length
 obtain ⟨e, h3, h4⟩ := any_choose (A := X.A.in1) (s := s) (v := v) its f fun i u hi => by
  have hlt : i < its.length := (List.getElem?_eq_some_iff.mp hi).1
  obtain ⟨y, hy, my⟩ := m.get (i := i) (d := ds[i]'(by omega)) (by simp)
  obtain ⟨u', hu', ru⟩ := rv.get hy
  rw [hi] at hu'; cases hu'
  exact (eqN_ok I 40 X.A.in1 y x u v _ d _ my hx ru rx (h1 i _ (by simp)) (by show X.A.units + 1 + 40 < cLine; omega)).eq
 refine ⟨e, h3, ?_⟩
 rw [h4, show its.length = ds.length by omega]
 exact h2
theorem opC_ok (hu : X.A.units + 42 < cLine) (op : COp) : OpR X (compareOp (cop op)) (rCmp X.K ex op) := by
 intro pins s σ H x y v u Q I rx ry h
 obtain ⟨S, d, e, hx, hy, h⟩ := h
 have stuck : ∀ {P : Prop}, opC op d e = stk → P := fun z => by rw [z] at h; exact h.no.elim
 have fin : ∀ {b : Bool}, Q (.bl b) H → EP X pins σ Q (.bool b) s := fun q => ⟨.bl _, H, I, rfl, q⟩
 cases op with
 | eq =>
  obtain ⟨r, h1, h2⟩ := PO'.eqN h
  exact (eqN_ok I 40 X.A x y v u d e r hx hy rx ry h1 (by omega)).rc _ _ _ _ (fin h2)
 | ne =>
  obtain ⟨r, h1, h2⟩ := PO'.eqN (PO'.bnd h)
  exact (eqN_ok I 40 X.A x y v u d e r hx hy rx ry h1 (by omega)).ne _ _ _ _ (fin h2.ok)
 | lt =>
  cases d with
  | int a =>
   cases e with
   | int b => cases hx.intR; cases hy.intR; obtain ⟨t, rfl⟩ := rx; obtain ⟨t', rfl⟩ := ry; exact lt_int (fin h.ok)
   | _ => exact stuck rfl
  | _ => exact stuck rfl
 | le =>
  cases d with
  | int a =>
   cases e with
   | int b => cases hx.intR; cases hy.intR; obtain ⟨t, rfl⟩ := rx; obtain ⟨t', rfl⟩ := ry; exact le_int (fin h.ok)
   | _ => exact stuck rfl
  | _ => exact stuck rfl
 | gt =>
  cases d with
  | int a =>
   cases e with
   | int b => cases hx.intR; cases hy.intR; obtain ⟨t, rfl⟩ := rx; obtain ⟨t', rfl⟩ := ry; exact gt_int (fin h.ok)
   | _ => exact stuck rfl
  | _ => exact stuck rfl
 | ge =>
  cases d with
  | int a =>
   cases e with
   | int b => cases hx.intR; cases hy.intR; obtain ⟨t, rfl⟩ := rx; obtain ⟨t', rfl⟩ := ry; exact ge_int (fin h.ok)
   | _ => exact stuck rfl
  | _ => exact stuck rfl
 | in_ =>
  cases e with
  | str b =>
   cases d with
   | str a => cases hx.strR; cases hy.strR; obtain ⟨t, rfl⟩ := rx; obtain ⟨t', rfl⟩ := ry; exact in_str (fin h.ok)
   | _ => exact stuck rfl
  | lst o ds =>
   obtain ⟨a, xs, rfl, q1, m1⟩ := hy.lstR
   cases ry
   obtain ⟨its, rv, pl, _⟩ := I.list q1
   obtain ⟨e, h1, h2⟩ := in_seq_ok (ex := ex) hu I rx hx rv m1 (by cases d <;> exact h)
   exact in_listAt e pl.isList h1 (fin h2)
  | tup ds =>
   obtain ⟨a, xs, rfl, q1, m1⟩ := hy.tupR
   cases ry
   obtain ⟨its, rv, pl, _⟩ := I.tuple q1
   obtain ⟨e, h1, h2⟩ := in_seq_ok (ex := ex) hu I rx hx rv m1 (by cases d <;> exact h)
   exact in_tupleAt e pl h1 (fin h2)
  | non => cases d <;> exact stuck rfl
  | bl _ => cases d <;> exact stuck rfl
  | int _ => cases d <;> exact stuck rfl
 | nin =>
  cases e with
  | str b =>
   cases d with
   | str a => cases hx.strR; cases hy.strR; obtain ⟨t, rfl⟩ := rx; obtain ⟨t', rfl⟩ := ry; exact notIn_str (fin h.ok)
   | _ => exact stuck rfl
  | lst o ds =>
   obtain ⟨a, xs, rfl, q1, m1⟩ := hy.lstR
   cases ry
   obtain ⟨its, rv, pl, _⟩ := I.list q1
   obtain ⟨e, h1, h2⟩ := in_seq_ok (ex := ex) (k := fun r => Q (.bl !r) H) hu I rx hx rv m1 ((PO'.bnd (show PO' ex (bnd (anyN d ds) fun r => .ok !r) (fun r => Q (.bl r) H) by cases d <;> exact h)).mono fun _ z => z)
   exact notIn_listAt e pl.isList h1 (fin h2)
  | tup ds =>
   obtain ⟨a, xs, rfl, q1, m1⟩ := hy.tupR
   cases ry
   obtain ⟨its, rv, pl, _⟩ := I.tuple q1
   obtain ⟨e, h1, h2⟩ := in_seq_ok (ex := ex) (k := fun r => Q (.bl !r) H) hu I rx hx rv m1 ((PO'.bnd (show PO' ex (bnd (anyN d ds) fun r => .ok !r) (fun r => Q (.bl r) H) by cases d <;> exact h)).mono fun _ z => z)
   exact notIn_tupleAt e pl h1 (fin h2)
  | non => cases d <;> exact stuck rfl
  | bl _ => cases d <;> exact stuck rfl
  | int _ => cases d <;> exact stuck rfl
 | is_ =>
  cases e with
  | non =>
   cases hy.nonR; cases ry
   have ev : isNon d = (v == Value.none) := by
    cases hx with
    | non => cases rx; rfl
    | bl b => cases rx; rfl
    | int i => obtain ⟨t, rfl⟩ := rx; rfl
    | str z => obtain ⟨t, rfl⟩ := rx; rfl
    | tup _ _ => cases rx; rfl
    | lst _ _ _ => cases rx; rfl
    | lstK _ _ => cases rx; rfl
   have h' : Q (.bl (isNon d)) H := by cases d <;> exact h
   rw [ev] at h'
   exact is_none_gen (fin h')
  | _ => cases d <;> exact stuck rfl
 | isn =>
  cases e with
  | non =>
   cases hy.nonR; cases ry
   have ev : isNon d = (v == Value.none) := by
    cases hx with
    | non => cases rx; rfl
    | bl b => cases rx; rfl
    | int i => obtain ⟨t, rfl⟩ := rx; rfl
    | str z => obtain ⟨t, rfl⟩ := rx; rfl
    | tup _ _ => cases rx; rfl
    | lst _ _ _ => cases rx; rfl
    | lstK _ _ => cases rx; rfl
   have h' : Q (.bl (!isNon d)) H := by cases d <;> exact h
   rw [ev] at h'
   exact isnot_none_gen (fin h')
  | _ => cases d <;> exact stuck rfl
theorem truD_ok {pins : List (Addr × Obj)} {s : Shared} {σ : St} {H : Hp} {S : Addr → Prop} {x : V} {v : Value} {d : D} {Q : Bool → Hp → Prop} (I : Inv X pins σ H s) (rx : RelV x v) (hx : HRep X.K S H x d) (h : PO' ex (truD d) fun b => Q b H) :
  wpAny (model X.prog X.w) X.A (truthy v) (TP X pins σ Q) X.xe s := by
 refine tru_ok pins s σ H x v Q I rx ?_
 cases d with
 | non => cases hx.nonR; exact ⟨false, rfl, h⟩
 | bl b => cases hx.blR; exact ⟨b, rfl, h⟩
 | int i => cases hx.intR; exact ⟨_, rfl, h⟩
 | str z =>
  cases hx.strR
  obtain ⟨g, h⟩ := PO'.grd h
  exact ⟨_, ⟨szOk_le g, rfl⟩, h⟩
 | tup ds =>
  obtain ⟨a, xs, rfl, q, m⟩ := hx.tupR
  refine ⟨!ds.isEmpty, .inr (.inl ⟨xs, q, ?_⟩), h⟩
  have := m.length
  cases xs <;> cases ds <;> simp_all
 | lst o ds =>
  obtain ⟨a, xs, rfl, q, m⟩ := hx.lstR
  refine ⟨!ds.isEmpty, .inl ⟨xs, q, ?_⟩, h⟩
  have := m.length
  cases xs <;> cases ds <;> simp_all
theorem atI_rep {K : PySem.W.Frag} {S : Addr → Prop} {H : Hp} {vs : List V} {ds : List D} {i : Int} {d : D} (m : HReps K S H vs ds) (h : atI ds i = some d) : ∃ v, atI vs i = some v ∧ HRep K S H v d := by
 unfold atI at h ⊢
 rw [m.length]
 cases q : ixN ds.length i with
 | none => rw [q] at h; cases h
 | some j => rw [q] at h; exact m.get h
noncomputable def rIdx (K : PySem.W.Frag) (ex : Str → Prop) : R2 := fun x y H Q => ∃ S d e, HRep K S H x d ∧ HRep K S H y e ∧ PO' ex (opIx d e) (Kk K S H Q)
theorem opIx_ok : IxR X (rIdx X.K ex) := by
 intro value slice pins s σ H x y v u Q I rx ry h hs
 obtain ⟨S, d, e, hx, hy, h⟩ := h
 refine ix_seq value slice pins s σ H x y v u Q I rx ry ?_ hs
 have stuck : ∀ {P : Prop}, opIx d e = stk → P := fun z => by rw [z] at h; exact h.no.elim
 cases e with
 | int i =>
  cases hy.intR
  cases d with
  | lst o ds =>
   obtain ⟨a, xs, rfl, q, m⟩ := hx.lstR
   have h' : PO' ex (match atI ds i with | some d => .ok d | none => stk) (Kk X.K S H Q) := h
   cases z : atI ds i with
   | none => rw [z] at h'; exact h'.no.elim
   | some d =>
    rw [z] at h'
    obtain ⟨w, ew, mw⟩ := atI_rep m z
    exact .inl ⟨a, xs, i, w, rfl, rfl, q, ew, h'.ok _ _ (.refl _) mw.nw⟩
  | tup ds =>
   obtain ⟨a, xs, rfl, q, m⟩ := hx.tupR
   have h' : PO' ex (match atI ds i with | some d => .ok d | none => stk) (Kk X.K S H Q) := h
   cases z : atI ds i with
   | none => rw [z] at h'; exact h'.no.elim
   | some d =>
    rw [z] at h'
    obtain ⟨w, ew, mw⟩ := atI_rep m z
    exact .inr (.inl ⟨a, xs, i, w, rfl, rfl, q, ew, h'.ok _ _ (.refl _) mw.nw⟩)
  | str z =>
   cases hx.strR
   obtain ⟨g, h⟩ := PO'.grd h
   cases q : atI z.cps.toList i with
   | none => rw [q] at h; exact h.no.elim
   | some c =>
    rw [q] at h
    exact .inr (.inr ⟨z, i, c, rfl, rfl, szOk_le g, q, h.ok _ _ (.refl _) (.str _)⟩)
  | _ => exact stuck rfl
 | _ => cases d <;> exact stuck rfl
noncomputable def rSli (K : PySem.W.Frag) (ex : Str → Prop) : V → Option Int → Option Int → Hp → VK → Prop := fun x lo hi H Q => ∃ S d, HRep K S H x d ∧ PO' ex (opSl d lo hi) (Kk K S H Q)
theorem sl_str : SlR X (fun x lo hi H Q => ∃ z, x = .str z ∧ z.length ≤ sizeLine ∧ Q (.str (Txt.slice z lo hi)) H) := by
 intro pins s σ H x v vl vu lo hi sl Q I rx hs pl pu h
 obtain ⟨z, rfl, hz, q⟩ := h
 obtain ⟨t, rfl⟩ := rx
 refine ⟨"str", _, F.slot_str_getitem.lookup, typeIs_str s z t, ?_⟩
 have fin : ∀ (l u : Option (Int × Tok)), vl = partValue l → vu = partValue u → l.map (·.1) = lo → u.map (·.1) = hi → wpAny (model X.prog X.w) X.A (getItem (.str z t) (.ref sl)) (EP X pins σ Q) X.xe s := by
  intro l u e1 e2 e3 e4
  subst e1 e2 e3 e4
  refine wpAny_getItem_str_slice (l := l) (u := u) (st := none) hs rfl ?_
  exact post_val_or_str ⟨Nat.le_trans (Txt.slice_le z _ _) hz, fun t' k => ⟨.str _, H, I.tok _, ⟨_, rfl⟩, q⟩⟩
 cases pl with
 | none =>
  cases pu with
  | none => exact fin none none rfl rfl rfl rfl
  | int j t' => exact fin none (some (j, t')) rfl rfl rfl rfl
 | int i t' =>
  cases pu with
  | none => exact fin (some (i, t')) none rfl rfl rfl rfl
  | int j t'' => exact fin (some (i, t')) (some (j, t'')) rfl rfl rfl rfl
end
end L2
namespace L2
open PySem PySem.Spec PyProof.Rows PySem.SeqAt
section
variable {X : Cx} {ex : Str → Prop}
theorem cut_rep {K : PySem.W.Frag} {S : Addr → Prop} {H : Hp} {vs : List V} {ds : List D} (lo hi : Option Int) (m : HReps K S H vs ds) : HReps K S H (cutV vs lo hi) (cutG ds lo hi) := by
 unfold cutV cutG
 rw [m.length]
 exact (m.drop _).take _
theorem opSl_ok : SlR X (rSli X.K ex) := by
 intro pins s σ H x v vl vu lo hi sl Q I rx hs pl pu h
 obtain ⟨S, d, hx, h⟩ := h
 cases d with
 | lst o ds =>
  obtain ⟨a, xs, rfl, q, m⟩ := hx.lstR
  exact sl_list pins s σ H _ v vl vu lo hi sl Q I rx hs pl pu ⟨a, xs, rfl, q, fun p hp => h.ok _ _ (.upd hp) (newL hp (cut_rep lo hi m))⟩
 | str z =>
  cases hx.strR
  obtain ⟨g, h⟩ := PO'.grd h
  exact sl_str pins s σ H _ v vl vu lo hi sl Q I rx hs pl pu ⟨z, rfl, szOk_le g, h.ok _ _ (.refl _) (.str _)⟩
 | _ => exact h.no.elim
theorem strsAre_ofV {ns : List Str} : ∀ {us : List Value}, Vals (ns.map V.str) us → StrsAre us ns := by
 induction ns with
 | nil => intro us r; rw [List.map_nil] at r; cases r; exact .nil
 | cons n ns ih =>
  intro us r
  rw [List.map_cons] at r
  cases r with
  | cons r1 r2 =>
   obtain ⟨t, e⟩ := r1
   subst e
   exact .cons n t (ih r2)
theorem asStrs_map : ∀ {ds : List D} {ns : List Str}, asStrs ds = some ns → ds = ns.map .str
 | [], ns, h => by cases h; rfl
 | .str i :: r, ns, h => by
  have h' : (asStrs r).map (i :: ·) = some ns := h
  cases q : asStrs r with
  | none => rw [q] at h'; cases h'
  | some ms =>
   rw [q] at h'
   cases h'
   rw [asStrs_map q]
   rfl
 | .non :: _, _, h => by cases h
 | .bl _ :: _, _, h => by cases h
 | .int _ :: _, _, h => by cases h
 | .tup _ :: _, _, h => by cases h
 | .lst _ _ :: _, _, h => by cases h
theorem asBls_map : ∀ {ds : List D} {ns : List Bool}, asBls ds = some ns → ds = ns.map .bl
 | [], ns, h => by cases h; rfl
 | .bl i :: r, ns, h => by
  have h' : (asBls r).map (i :: ·) = some ns := h
  cases q : asBls r with
  | none => rw [q] at h'; cases h'
  | some ms =>
   rw [q] at h'
   cases h'
   rw [asBls_map q]
   rfl
 | .non :: _, _, h => by cases h
 | .str _ :: _, _, h => by cases h
 | .int _ :: _, _, h => by cases h
 | .tup _ :: _, _, h => by cases h
 | .lst _ _ :: _, _, h => by cases h
theorem call_allL (hc : X.calm = true) : CallR X (.builtin "all") (fun xs H Q => ∃ (p : Addr) (bs : List Bool), xs = [.ref p] ∧ SqL X.K H p (bs.map V.bl) ∧ Q (.bl (bs.all id)) H) := by
 intro pins s σ H xs us Q I r h
 obtain ⟨p, bs, rfl, hq, q⟩ := h
 obtain ⟨u, rfl, rx⟩ := vals1 r
 cases rx
 obtain ⟨its, rv, pl, hz⟩ := I.list hq
 have hl := rv.length
 rw [List.length_map] at hl
 have hlt : p < s.heap.objs.size := by
  obtain ⟨o, e, _⟩ := pl.isList
  exact Heap.lt_size e
 refine call_all_walk (wpAny_pyIter_list pl.isList ?_)
 refine ⟨s.heap.objs.size, _, _, _, _, _, fun i => bs.getD i true, rfl, Walks.list (A := X.A.in1) (show X.A.in1.handled = none from I.ok.hd hc) s.heap.objs.size p (Nat.ne_of_lt hlt) its.toArray, ⟨⟨_, Heap.get?_push_size _ rfl, rfl, rfl⟩, ?_⟩, ?_, ?_⟩
 ·obtain ⟨o, e, c, n, d⟩ := pl.isList
  exact ⟨o, Heap.get?_push_of_some _ e, c, n, d⟩
 ·intro i v s' Q' E' hv hq'
  have hv' : its[i]? = some v := by simpa using hv
  have hlt' : i < bs.length := by
   have := (List.getElem?_eq_some_iff.mp hv').1
   omega
  obtain ⟨u, hu, ru⟩ := rv.get (i := i) (x := .bl bs[i]) (by rw [List.getElem?_map, List.getElem?_eq_getElem hlt']; rfl)
  rw [hv'] at hu
  cases hu
  cases ru
  refine wpAny_truthy_bool ?_
  have e : bs.getD i true = bs[i] := by simp [List.getD, hlt']
  rw [← e]
  exact hq'
 ·intro h' tk kp
  have hall : (List.range its.toArray.size).all (fun i => bs.getD i true) = bs.all id := by
   rw [show its.toArray.size = bs.length by simp [hl]]
   rw [Bool.eq_iff_iff, List.all_eq_true, List.all_eq_true]
   constructor
   ·intro z b hb
    obtain ⟨i, hi, rfl⟩ := List.getElem_of_mem hb
    have := z i (List.mem_range.mpr hi)
    simpa [List.getD, hi] using this
   ·intro z i hi
    have hi' := List.mem_range.mp hi
    have := z bs[i] (List.getElem_mem hi')
    simpa [List.getD, hi'] using this
  rw [hall]
  refine ⟨.bl (bs.all id), H, I.kept (t' := tk) fun b o e => kp b o ?_ (Heap.get?_push_of_some _ e), rfl, q⟩
  intro hm
  have hb : b = s.heap.objs.size := by simpa using hm
  subst hb
  exact absurd (Heap.lt_size e) (Nat.lt_irrefl _)
theorem call_anyL (hc : X.calm = true) : CallR X (.builtin "any") (fun xs H Q => ∃ (p : Addr) (bs : List Bool), xs = [.ref p] ∧ SqL X.K H p (bs.map V.bl) ∧ Q (.bl (bs.any id)) H) := by
 intro pins s σ H xs us Q I r h
 obtain ⟨p, bs, rfl, hq, q⟩ := h
 obtain ⟨u, rfl, rx⟩ := vals1 r
 cases rx
 obtain ⟨its, rv, pl, hz⟩ := I.list hq
 have hl := rv.length
 rw [List.length_map] at hl
 have hlt : p < s.heap.objs.size := by
  obtain ⟨o, e, _⟩ := pl.isList
  exact Heap.lt_size e
 refine call_any_walk (wpAny_pyIter_list pl.isList ?_)
 refine ⟨s.heap.objs.size, _, _, _, _, _, fun i => bs.getD i false, rfl, Walks.list (A := X.A.in1) (show X.A.in1.handled = none from I.ok.hd hc) s.heap.objs.size p (Nat.ne_of_lt hlt) its.toArray, ⟨⟨_, Heap.get?_push_size _ rfl, rfl, rfl⟩, ?_⟩, ?_, ?_⟩
 ·obtain ⟨o, e, c, n, d⟩ := pl.isList
  exact ⟨o, Heap.get?_push_of_some _ e, c, n, d⟩
 ·intro i v s' Q' E' hv hq'
  have hv' : its[i]? = some v := by simpa using hv
  have hlt' : i < bs.length := by
   have := (List.getElem?_eq_some_iff.mp hv').1
   omega
  obtain ⟨u, hu, ru⟩ := rv.get (i := i) (x := .bl bs[i]) (by rw [List.getElem?_map, List.getElem?_eq_getElem hlt']; rfl)
  rw [hv'] at hu
  cases hu
  cases ru
  refine wpAny_truthy_bool ?_
  have e : bs.getD i false = bs[i] := by simp [List.getD, hlt']
  rw [← e]
  exact hq'
 ·intro h' tk kp
  have hall : (List.range its.toArray.size).any (fun i => bs.getD i false) = bs.any id := by
   rw [show its.toArray.size = bs.length by simp [hl]]
   rw [Bool.eq_iff_iff, List.any_eq_true, List.any_eq_true]
   constructor
   ·rintro ⟨i, hi, z⟩
    have hi' := List.mem_range.mp hi
    exact ⟨bs[i], List.getElem_mem hi', by simpa [List.getD, hi'] using z⟩
   ·rintro ⟨b, hb, z⟩
    obtain ⟨i, hi, rfl⟩ := List.getElem_of_mem hb
    exact ⟨i, List.mem_range.mpr hi, by simpa [List.getD, hi] using z⟩
  rw [hall]
  refine ⟨.bl (bs.any id), H, I.kept (t' := tk) fun b o e => kp b o ?_ (Heap.get?_push_of_some _ e), rfl, q⟩
  intro hm
  have hb : b = s.heap.objs.size := by simpa using hm
  subst hb
  exact absurd (Heap.lt_size e) (Nat.lt_irrefl _)
noncomputable def biName : Bi → Str
 | .len => "len" | .sum => "sum" | .min2 => "min" | .max2 => "max" | .sorted => "sorted" | .list => "list" | .tuple => "tuple" | .ord => "ord" | .int => "int" | .all => "all" | .any => "any" | .str => "str" | .set => "set" | .abs => "abs"
noncomputable def biTy : Bi → Bool
 | .list => true | .tuple => true | .int => true | .str => true | .set => true
 | _ => false
noncomputable def biId : Bi → String
 | .len => "len" | .sum => "sum" | .min2 => "min" | .max2 => "max" | .sorted => "sorted" | .list => "list" | .tuple => "tuple" | .ord => "ord" | .int => "int" | .all => "all" | .any => "any" | .str => "str" | .set => "set" | .abs => "abs"
noncomputable def biVal (f : Bi) : Value := if biTy f = true then .type (biId f) else .builtin (biId f)
theorem bi_boot (f : Bi) : bootBuiltins (biName f) = some (biVal f) := by cases f <;> decide +kernel
noncomputable def rBi (K : PySem.W.Frag) (ex : Str → Prop) (f : Bi) : List V → Hp → VK → Prop := fun xs H Q => ∃ S ds, HReps K S H xs ds ∧ PO' ex (opBi f ds) (Kk K S H Q)
theorem HReps.one1 {K : PySem.W.Frag} {S : Addr → Prop} {H : Hp} {xs : List V} {d : D} (h : HReps K S H xs [d]) : ∃ x, xs = [x] ∧ HRep K S H x d := by
 cases h with
 | cons h1 h2 => cases h2; exact ⟨_, rfl, h1⟩
theorem HReps.two2 {K : PySem.W.Frag} {S : Addr → Prop} {H : Hp} {xs : List V} {d e : D} (h : HReps K S H xs [d, e]) : ∃ x y, xs = [x, y] ∧ HRep K S H x d ∧ HRep K S H y e := by
 cases h with
 | cons h1 h2 =>
  cases h2 with
  | cons h3 h4 => cases h4; exact ⟨_, _, rfl, h1, h3⟩
theorem chars_rep {K : PySem.W.Frag} {S : Addr → Prop} {H : Hp} (z : Str) : HReps K S H (charsV z) (charsD z) := by
 unfold charsV charsD
 induction z.cps.toList with
 | nil => exact .nil
 | cons c cs ih => exact .cons (.str _) ih
theorem opBi_ok (hc : X.calm = true) (f : Bi) : CallR X (biVal f) (rBi X.K ex f) := by
 intro pins s σ H xs us Q I r h
 obtain ⟨S, ds, hx, h⟩ := h
 have stuck : ∀ {P : Prop}, opBi f ds = stk → P := fun z => by rw [z] at h; exact h.no.elim
 have one : ∀ {d e : D} {r' : List D}, ds = d :: e :: r' → ¬ (f = .min2 ∨ f = .max2) → opBi f ds = stk := by
  intro d e r' z nf
  subst z
  cases f <;> first | rfl | (exfalso; exact nf (.inl rfl)) | (exfalso; exact nf (.inr rfl)) | (cases d <;> rfl)
 have two : ∀ {d e g : D} {r' : List D}, ds = d :: e :: g :: r' → opBi f ds = stk := by
  intro d e g r' z
  subst z
  cases f <;> first | rfl | (cases d <;> rfl) | (cases d <;> cases e <;> rfl)
 have nil : ds = [] → opBi f ds = stk := by
  intro z
  subst z
  cases f <;> rfl
 match ds, hx with
 | [], hx => exact stuck (nil rfl)
 | d :: e :: g :: r', hx => exact stuck (two rfl)
 | [d, e], hx =>
  by_cases nf : f = .min2 ∨ f = .max2
  ·obtain ⟨x, y, rfl, hd, he⟩ := hx.two2
   rcases nf with rfl | rfl
   ·cases d with
    | int a =>
     cases e with
     | int b => cases hd.intR; cases he.intR; exact call_min2 hc pins s σ H _ us Q I r ⟨a, b, rfl, h.ok _ _ (.refl _) (.int _)⟩
     | _ => exact stuck rfl
    | _ => exact stuck rfl
   ·cases d with
    | int a =>
     cases e with
     | int b => cases hd.intR; cases he.intR; exact call_max2 hc pins s σ H _ us Q I r ⟨a, b, rfl, h.ok _ _ (.refl _) (.int _)⟩
     | _ => exact stuck rfl
    | _ => exact stuck rfl
  ·exact stuck (one rfl nf)
 | [d], hx =>
  obtain ⟨x, rfl, hd⟩ := hx.one1
  cases f with
  | len =>
   cases d with
   | str z => cases hd.strR; obtain ⟨g, h⟩ := PO'.grd h; exact call_len pins s σ H _ us Q I r ⟨_, _, rfl, ⟨szOk_le g, rfl⟩, h.ok _ _ (.refl _) (.int _)⟩
   | tup ds =>
    obtain ⟨a, ys, rfl, q, m⟩ := hd.tupR
    exact call_len pins s σ H _ us Q I r ⟨_, ds.length, rfl, .inr ⟨ys, q, m.length.symm⟩, h.ok _ _ (.refl _) (.int _)⟩
   | lst o ds =>
    obtain ⟨a, ys, rfl, q, m⟩ := hd.lstR
    exact call_len pins s σ H _ us Q I r ⟨_, ds.length, rfl, .inl ⟨ys, q, m.length.symm⟩, h.ok _ _ (.refl _) (.int _)⟩
   | _ => exact stuck rfl
  | sum => cases d <;> exact stuck rfl
  | all =>
   cases d with
   | lst o ds =>
    obtain ⟨a, ys, rfl, q, m⟩ := hd.lstR
    have h' : PO' ex (match asBls ds with | some bs => .ok (.bl (bs.all id)) | none => stk) (Kk X.K S H Q) := h
    cases z : asBls ds with
    | none => rw [z] at h'; exact h'.no.elim
    | some ns =>
     rw [z] at h'
     rw [asBls_map z] at m
     rw [m.bls] at q
     exact call_allL hc pins s σ H _ us Q I r ⟨a, ns, rfl, q, h'.ok _ _ (.refl _) (.bl _)⟩
   | _ => exact stuck rfl
  | any =>
   cases d with
   | lst o ds =>
    obtain ⟨a, ys, rfl, q, m⟩ := hd.lstR
    have h' : PO' ex (match asBls ds with | some bs => .ok (.bl (bs.any id)) | none => stk) (Kk X.K S H Q) := h
    cases z : asBls ds with
    | none => rw [z] at h'; exact h'.no.elim
    | some ns =>
     rw [z] at h'
     rw [asBls_map z] at m
     rw [m.bls] at q
     exact call_anyL hc pins s σ H _ us Q I r ⟨a, ns, rfl, q, h'.ok _ _ (.refl _) (.bl _)⟩
   | _ => exact stuck rfl
  | ord => cases d <;> exact stuck rfl
  | int =>
   cases d with
   | int i => cases hd.intR; exact call_int1 pins s σ H _ us Q I r (.inl ⟨i, rfl, h.ok _ _ (.refl _) (.int _)⟩)
   | bl i => cases hd.blR; exact call_int1 pins s σ H _ us Q I r (.inr ⟨i, rfl, h.ok _ _ (.refl _) (.int _)⟩)
   | _ => exact stuck rfl
  | list =>
   cases d with
   | tup ds =>
    obtain ⟨a, ys, rfl, q, m⟩ := hd.tupR
    exact call_list_of pins s σ H _ us Q I r ⟨a, ys, rfl, .inr q, fun p hp => h.ok _ _ (.upd hp) (newL hp m)⟩
   | lst o ds =>
    obtain ⟨a, ys, rfl, q, m⟩ := hd.lstR
    exact call_list_of pins s σ H _ us Q I r ⟨a, ys, rfl, .inl q, fun p hp => h.ok _ _ (.upd hp) (newL hp m)⟩
   | str z =>
    cases hd.strR
    obtain ⟨g, h⟩ := PO'.grd h
    exact call_list_txt hc pins s σ H _ us Q I r ⟨z, rfl, szOk_le g, fun p hp => h.ok _ _ (.upd hp) (newL hp (chars_rep z))⟩
   | _ => exact stuck rfl
  | abs =>
   cases d with
   | int i => cases hd.intR; exact call_abs pins s σ H _ us Q I r ⟨i, rfl, h.ok _ _ (.refl _) (.int _)⟩
   | _ => exact stuck rfl
  | min2 => cases d <;> exact stuck rfl
  | max2 => cases d <;> exact stuck rfl
  | sorted => cases d <;> exact stuck rfl
  | tuple => exact stuck rfl
  | str => exact stuck rfl
  | set => exact stuck rfl
noncomputable def kdName : Kd → Str
 | .str => "str" | .int => "int" | .bool => "bool" | .list => "list" | .tuple => "tuple"
noncomputable def kdTy : Kd → Value
 | .str => .type "str" | .int => .type "int" | .bool => .type "bool" | .list => .type "list" | .tuple => .type "tuple"
theorem kd_boot (k : Kd) : bootBuiltins (kdName k) = some (kdTy k) := by cases k <;> decide +kernel
noncomputable def dTy : D → Value
 | .non => .type "NoneType" | .bl _ => .type "bool" | .int _ => .type "int" | .str _ => .type "str" | .tup _ => .type "tuple" | .lst _ _ => .type "list"
theorem kit_dTy (K : PySem.W.Frag) (k : Kd) (d : D) : PySem.W.kitOne K (dTy d) (kdTy k) = some (isiD k d) := by
 cases k <;> cases d <;> rfl
theorem isiD_ok {pins : List (Addr × Obj)} {s : Shared} {σ : St} {H : Hp} {S : Addr → Prop} {x : V} {v : Value} {d : D} {Q : VK} (I : Inv X pins σ H s) (rx : RelV x v) (hx : HRep X.K S H x d) (k : Kd) (h : Q (.bl (isiD k d)) H) :
  wpAny (model X.prog X.w) X.A (call (.builtin "isinstance") [v, kdTy k]) (EP X pins σ Q) X.xe s := by
 have e := kit_dTy X.K k d
 have fin : ∀ tk, EP X pins σ Q (.bool (isiD k d)) { s with toks := tk } := fun tk => ⟨.bl _, H, I.tok _, rfl, h⟩
 cases d with
 | non => cases hx.nonR; cases rx; exact PySem.W.kia_one PySem.W.kitx_none I.kIn True.intro e (fun z => nomatch z) fin
 | bl b => cases hx.blR; cases rx; exact PySem.W.kia_one PySem.W.kitx_bool I.kIn True.intro e (fun z => nomatch z) fin
 | int b => cases hx.intR; obtain ⟨t, rfl⟩ := rx; exact PySem.W.kia_one PySem.W.kitx_int I.kIn True.intro e (fun z => nomatch z) fin
 | str b => cases hx.strR; obtain ⟨t, rfl⟩ := rx; exact PySem.W.kia_one PySem.W.kitx_str I.kIn True.intro e (fun z => nomatch z) fin
 | tup ds =>
  obtain ⟨a, ys, rfl, q, m⟩ := hx.tupR
  cases rx
  obtain ⟨its, _, ⟨o, h1, h2, _⟩, _⟩ := I.tuple q
  exact PySem.W.kia_one PySem.W.kitx_tuple I.kIn ⟨o, h1, h2⟩ e (fun z => nomatch z) fin
 | lst o ds =>
  obtain ⟨a, ys, rfl, q, m⟩ := hx.lstR
  cases rx
  obtain ⟨its, _, pl, _⟩ := I.list q
  obtain ⟨o, h1, h2, _⟩ := pl.isList
  exact PySem.W.kia_one PySem.W.kitx_list I.kIn ⟨o, h1, h2⟩ e (fun z => nomatch z) fin
noncomputable def mtName : Mt → Str
 | .join => "join" | .index => "index" | .starts => "startswith"
noncomputable def mtId : Mt → String
 | .join => "str.join" | .index => "str.index" | .starts => "str.startswith"
noncomputable def rMt (K : PySem.W.Frag) (ex : Str → Prop) (m : Mt) : V → List V → Hp → VK → Prop := fun x xs H Q => ∃ S d ds, HRep K S H x d ∧ HReps K S H xs ds ∧ PO' ex (opMt m d ds) (Kk K S H Q)
theorem opMt_str {m : Mt} {d : D} {ds : List D} {k : D → Prop} (h : PO' ex (opMt m d ds) k) : ∃ x, d = .str x := by
 cases m <;> cases d <;> first | exact ⟨_, rfl⟩ | exact h.no.elim
theorem opMt_ok (hc : X.calm = true) (m : Mt) : MtR X (mtId m) (rMt X.K ex m) := by
 intro pins s σ H x xs v us Q I rx rs h
 obtain ⟨S, d, ds, hx, hs, h⟩ := h
 obtain ⟨z, rfl⟩ := opMt_str h
 cases hx.strR
 obtain ⟨t, rfl⟩ := rx
 have stuck : ∀ {P : Prop}, opMt m (.str z) ds = stk → P := fun z => by rw [z] at h; exact h.no.elim
 match ds, hs with
 | [], _ => cases m <;> exact stuck rfl
 | d :: e :: r, _ => cases m <;> cases d <;> exact stuck rfl
 | [d], hs =>
  obtain ⟨y, rfl, hd⟩ := hs.one1
  obtain ⟨u, rfl, ru⟩ := vals1 rs
  cases m with
  | join =>
   cases d with
   | lst o ds =>
    obtain ⟨a, ys, rfl, q, m⟩ := hd.lstR
    cases ru
    have h' : PO' ex (match asStrs ds with | some ys => grd (decide ((ys.map (·.length)).sum + ys.length * z.length ≤ 16777216)) (.ok (.str (Txt.join z ys))) | none => stk) (Kk X.K S H Q) := h
    cases w : asStrs ds with
    | none => rw [w] at h'; exact h'.no.elim
    | some ns =>
     rw [w] at h'
     obtain ⟨g, h'⟩ := PO'.grd h'
     rw [asStrs_map w] at m
     rw [m.strs] at q
     obtain ⟨its, rv, pl, _⟩ := I.list q
     exact join_list pl.isList (by simpa using strsAre_ofV rv) (of_decide_eq_true g) fun t' k => ⟨.str _, H, I.tok _, ⟨_, rfl⟩, h'.ok _ _ (.refl _) (.str _)⟩
   | _ => exact stuck rfl
  | index => cases d <;> exact stuck rfl
  | starts =>
   cases d with
   | str y =>
    cases hd.strR
    obtain ⟨t', rfl⟩ := ru
    exact SC.startswith ⟨.bl _, H, I, rfl, PO'.ok h _ _ (.refl _) (.bl _)⟩
   | _ => exact stuck rfl
noncomputable def Its (x : Str) : It := ⟨fun i _ => i < x.cps.size, fun i H v H' => H' = H ∧ ∃ c, x.cps[i]? = some c ∧ v = .str ⟨#[c]⟩, fun i _ => x.cps.size ≤ i⟩
theorem turn_str {P : Program} {w : World} {K : PySem.W.Frag} {tg : Expr} {it : Addr} {x : Str} {t : Tok} {ty : String} (hty : ty = "str_ascii_iterator" ∨ ty = "str_iterator")
  (W : ∀ A' : Around, A'.handled = none → Walks P w A' it [it] [it] x.cps.size (SignAt x) (fun i h => h.IsStrIter it ty x t i)) : Turn P w K tg (Its x) [it] it (fun i h => i ≤ x.cps.size ∧ h.IsStrIter it ty x t i) where
 mem := by simp
 obj := fun i h st b hb => by
  have e : b = it := by simpa using hb
  subst e
  obtain ⟨_, o, e, c, d⟩ := st
  exact ⟨o, e, fun v z => by rw [d] at z; cases z⟩
 keep := fun i h h' st k => by
  obtain ⟨l, o, e, c, d⟩ := st
  exact ⟨l, o, k it (by simp) o e, c, d⟩
 item := by
  intro X hP hw hK hc i pins s σ H E I hf st hg
  subst hP hw hK
  obtain ⟨f0, f1, f2, f3, f4, f5⟩ := hf it (by simp)
  refine (W X.A (I.ok.hd hc)).item i s _ _ hg st.2 fun v h' tk hv st' kk => ?_
  obtain ⟨c, u, hcx, rfl⟩ := hv
  have I1 : Inv X pins σ H { s with heap := h', toks := tk } := I.turned (fun b o hb e => kk b o (by simpa using hb) e) f0 f1 f3 f4 f5
  obtain ⟨o, e, cc, d⟩ := id st'
  refine ⟨_, rfl, go_of (s := { s with heap := h', toks := tk }) (n := ty) e cc d (by rcases hty with rfl | rfl <;> decide) ⟨.str ⟨#[c]⟩, H, I1, ⟨u, rfl⟩, ⟨rfl, c, hcx, rfl⟩, ⟨hg, st'⟩, fun b hb => (hf b hb).1⟩⟩
 done := by
  intro X hP hw hK hc i pins s σ H E I hf st hg
  subst hP hw hK
  obtain ⟨f0, f1, f2, f3, f4, f5⟩ := hf it (by simp)
  have e : i = x.cps.size := Nat.le_antisymm st.1 hg
  refine (W X.A (I.ok.hd hc)).done s _ _ (by rw [← e]; exact st.2) fun h' tk kk => ⟨rfl, I.turned (fun b o hb e => kk b o (by simpa using hb) e) f0 f1 f3 f4 f5⟩
 self := fun A i s Q E st h => by
  obtain ⟨_, st⟩ := st
  rcases hty with rfl | rfl
  ·exact wpAny_pyIter_striter_ascii st h
  ·exact wpAny_pyIter_striter_wide st h
theorem it_str {tg : Expr} {pins : List (Addr × Obj)} {s : Shared} {σ : St} {H : Hp} {x : Str} {t : Tok} {R : It → Hp → Prop} (I : Inv X pins σ H s) (q : R (Its x) H) : wpAny (model X.prog X.w) X.A (pyIter (.str x t)) (PIE X pins σ tg R) X.xe s := by
 have fin : ∀ ty, (ty = "str_ascii_iterator" ∨ ty = "str_iterator") → (∀ A' : Around, A'.handled = none → Walks X.prog X.w A' s.heap.objs.size [s.heap.objs.size] [s.heap.objs.size] x.cps.size (SignAt x) (fun i h => h.IsStrIter s.heap.objs.size ty x t i)) →
   PIE X pins σ tg R (.ref s.heap.objs.size) { s with heap := s.heap.push { cls := .type ty, data := .fields #[.str x t, .int 0 0] } } := fun ty hty W => by
  refine ⟨s.heap.objs.size, [s.heap.objs.size], _, _, H, rfl, I.kept (t' := s.toks) fun b o e => Heap.get?_push_of_some _ e, turn_str hty W, ⟨Nat.zero_le _, _, Heap.get?_push_size _ rfl, rfl, rfl⟩, fun b hb => ?_, q⟩
  have e : b = s.heap.objs.size := by simpa using hb
  subst e
  exact I.fpOk (Nat.le_refl _) (I.hok.fresh (Nat.le_refl _))
 cases ha : x.cps.all (· < 128)
 ·exact wpAny_pyIter_wide ha (fin _ (.inr rfl) fun A' hA => Walks.strWide hA _ x t)
 ·exact wpAny_pyIter_ascii ha (fin _ (.inl rfl) fun A' hA => Walks.strAscii hA _ x t)
end
end L2
namespace L2
open PySem PySem.Spec PyProof.Rows PySem.SeqAt
noncomputable def bnames : List Str := ["len", "sum", "min", "max", "sorted", "list", "tuple", "ord", "int", "all", "any", "str", "set", "abs", "isinstance", "range", "bool", "reversed"]
noncomputable def biNum : Bi → Nat
 | .len => 0 | .sum => 1 | .min2 => 2 | .max2 => 3 | .sorted => 4 | .list => 5 | .tuple => 6 | .ord => 7 | .int => 8 | .all => 9 | .any => 10 | .str => 11 | .set => 12 | .abs => 13
noncomputable def kdNum : Kd → Nat
 | .str => 11 | .int => 8 | .bool => 16 | .list => 5 | .tuple => 6
theorem bi_num (f : Bi) : bnames[biNum f]? = some (biName f) := by cases f <;> rfl
theorem kd_num (f : Kd) : bnames[kdNum f]? = some (kdName f) := by cases f <;> rfl
mutual
noncomputable def dbeq : D → D → Bool
 | .non, .non => true
 | .bl a, .bl b => a == b
 | .int a, .int b => a == b
 | .str a, .str b => a == b
 | .tup a, .tup b => dbeqs a b
 | .lst o a, .lst o' b => o == o' && dbeqs a b
 | _, _ => false
noncomputable def dbeqs : List D → List D → Bool
 | [], [] => true
 | a :: r, b :: s => dbeq a b && dbeqs r s
 | _, _ => false
end
mutual
theorem dbeq_eq : ∀ {a b : D}, dbeq a b = true → a = b
 | .non, b, h => by cases b <;> first | rfl | cases h
 | .bl a, b, h => by cases b <;> first | (rw [eq_of_beq (show (a == _) = true from h)]) | cases h
 | .int a, b, h => by cases b <;> first | (rw [eq_of_beq (show (a == _) = true from h)]) | cases h
 | .str a, b, h => by cases b <;> first | (rw [eq_of_beq (show (a == _) = true from h)]) | cases h
 | .tup a, b, h => by
  cases b with
  | tup b => rw [dbeqs_eq (show dbeqs a b = true from h)]
  | _ => cases h
 | .lst o a, b, h => by
  cases b with
  | lst o' b =>
   have h' : (o == o' && dbeqs a b) = true := h
   rw [Bool.and_eq_true] at h'
   rw [eq_of_beq h'.1, dbeqs_eq h'.2]
  | _ => cases h
theorem dbeqs_eq : ∀ {a b : List D}, dbeqs a b = true → a = b
 | [], b, h => by cases b <;> first | rfl | cases h
 | a :: r, b, h => by
  cases b with
  | nil => cases h
  | cons b s =>
   have h' : (dbeq a b && dbeqs r s) = true := h
   rw [Bool.and_eq_true] at h'
   rw [dbeq_eq h'.1, dbeqs_eq h'.2]
end
structure Sg where
 nm : List Str
 kst : List (Nat × D)
 fns : List Nat
noncomputable def Sg.name (Z : Sg) (n : Nat) : Option Str := (bnames ++ Z.nm)[n]?
noncomputable def notStar : Expr → Bool
 | .Starred .. => false
 | _ => true
noncomputable def notSlice : Expr → Bool
 | .Slice .. => false
 | _ => true
noncomputable def notCall0 : Expr → Bool
 | .Call _ [] [] _ => false
 | _ => true
noncomputable def chkV (G : Gm) (i : Nat) (x : Str) : Bool := G.N[i]? == some x && (G.kd[i]? == some .local || G.kd[i]? == some .cell || G.kd[i]? == some .free)
noncomputable def chkG (Z : Sg) (G : Gm) (n : Nat) (x : Str) : Bool := Z.name n == some x && G.gl.contains n
noncomputable def chkC : D → Const → Bool
 | .int i, .int j => i == j
 | .str x, .str y => x == y
 | .bl a, .bool b => a == b
 | .non, .none => true
 | _, _ => false
mutual
noncomputable def chkT (G : Gm) : Tg → Expr → Bool
 | .nm i, .Name x _ => G.N[i]? == some x && (G.kd[i]? == some .local || (G.df && G.kd[i]? == some .cell))
 | .tp ts, .Tuple es _ _ => chkTs G ts es
 | _, _ => false
noncomputable def chkTs (G : Gm) : List Tg → List Expr → Bool
 | [], [] => true
 | t :: ts, e :: es => notStar e && chkT G t e && chkTs G ts es
 | _, _ => false
end
mutual
noncomputable def tgs : Tg → List Nat
 | .nm i => [i]
 | .tp ts => tgss ts
noncomputable def tgss : List Tg → List Nat
 | [] => []
 | t :: ts => tgs t ++ tgss ts
end
noncomputable def chkScope (Z : Sg) (G : Gm) (scope : Scope) (G' : Gm) (fr : List Nat) : Bool :=
  scope.kind == .function && !G'.df && G'.kd.length == G'.N.length
  && scope.names.all (fun y => y.2 != .cell) && scope.names.all (fun y => y.2 != .local || scope.names.lookup y.1 == some .local)
  && scope.names.all (fun y => y.2 != .free || (List.range G.N.length).any fun i => G.N[i]? == some y.1 && (G.kd[i]? == some .cell || G.kd[i]? == some .free))
  && (List.range fr.length).all (fun j => G'.N[j]? == (fr[j]?).bind (G.N[·]?) && ((G'.N[j]?).bind (scope.names.lookup ·) == some .free) && ((fr[j]?).bind (G.kd[·]?) == some .cell || (fr[j]?).bind (G.kd[·]?) == some .free)
      && (G'.kd[j]? == some (if ((fr[j]?).bind (G.kd[·]?) == some .cell) then .cell else .free)))
  && decide (fr.length ≤ G'.N.length)
  && ((List.range G'.N.length).drop fr.length).all (fun j => (G'.N[j]?).bind (scope.names.lookup ·) == some .local && G'.kd[j]? == some .local)
  && G'.N.all (fun x => !(x == "__debug__") && !(x == "__classdict__"))
  && decide (G'.N.Nodup)
  && G'.gl.all (fun n => match Z.name n with | some x => scope.names.lookup x == some .globalImplicit | none => false)
theorem no_h {P : Prop} (h : false = true) : P := by cases h
noncomputable def gen0 : Comprehension → (Expr → Expr → List Expr → Bool) → Bool
 | ⟨t, it, fs, n⟩, k => n == 0 && k t it fs
noncomputable def gen1 : List Comprehension → (Expr → Expr → List Expr → Bool) → Bool
 | [], _ => false
 | g :: r, k => r.isEmpty && gen0 g k
theorem gen1_ok {gens : List Comprehension} {k : Expr → Expr → List Expr → Bool} (h : gen1 gens k = true) : ∃ t it fs, gens = [⟨t, it, fs, 0⟩] ∧ k t it fs = true := by
 cases gens with
 | nil => cases h
 | cons g r =>
  cases r with
  | cons _ _ => cases h
  | nil =>
   obtain ⟨t, it, fs, n⟩ := g
   have h : (n == 0 && k t it fs) = true := h
   rw [Bool.and_eq_true] at h
   have e := eq_of_beq h.1
   subst e
   exact ⟨t, it, fs, rfl, h.2⟩
mutual
noncomputable def chk (Z : Sg) (G : Gm) : IR → Expr → Bool
 | .c d, .Constant k _ _ => chkC d k
 | .g n d, .Name x _ => chkG Z G n x && Z.kst.any fun p => p.1 == n && dbeq p.2 d
 | .v i, .Name x _ => chkV G i x
 | .bin op a b, .BinOp l o r _ => o == bop op && chk Z G a l && chk Z G b r
 | .cmp op a b, .Compare l [o] [r] _ => o == cop op && chk Z G a l && chk Z G b r && !behindInMarks o r
 | .and_ a b, .BoolOp .And [e, e'] _ => chk Z G a e && chk Z G b e'
 | .and_ a b, .BoolOp .And (e :: e' :: e'' :: rest) p => chk Z G a e && chk Z G b (.BoolOp .And (e' :: e'' :: rest) p)
 | .or_ a b, .BoolOp .Or [e, e'] _ => chk Z G a e && chk Z G b e'
 | .or_ a b, .BoolOp .Or (e :: e' :: e'' :: rest) p => chk Z G a e && chk Z G b (.BoolOp .Or (e' :: e'' :: rest) p)
 | .not_ a, .UnaryOp .Not e _ => chk Z G a e
 | .tup es, .Tuple l _ _ => chks Z G es l
 | .lst es, .List l _ => chks Z G es l
 | .sl a lo hi, .Subscript e (.Slice l h none _) _ => chk Z G a e && chkO Z G lo l && chkO Z G hi h
 | .idx a i, .Subscript e s _ => notSlice s && chk Z G a e && chk Z G i s
 | .call f es, .Call (.Name x _) args [] _ => chkG Z G f x && Z.fns.contains f && chks Z G es args
 | .bi f es, .Call (.Name x _) (a :: args) [] _ => x == biName f && G.gl.contains (biNum f) && chks Z G es (a :: args)
 | .isi a k, .Call (.Name x _) [e, .Name y _] [] _ => x == "isinstance" && G.gl.contains 14 && y == kdName k && G.gl.contains (kdNum k) && notStar e && chk Z G a e
 | .mth m o es, .Call (.Attribute oe name apos) (a :: args) [] cpos => name == mtName m && notCall0 oe && apos.endLine == cpos.line && decide ((a :: args).length < 29) && chk Z G o oe && chks Z G es (a :: args)
 | .comp G' fr tg src ifs elt, .ListComp e gens scope _ => gen1 gens fun t it fs => chkScope Z G scope G' fr && chkT G' tg t && (tgs tg).all (fun i => decide (fr.length ≤ i)) && chkSr Z G src it && chks Z G' ifs fs && chk Z G' elt e
 | _, _ => false
noncomputable def chks (Z : Sg) (G : Gm) : List IR → List Expr → Bool
 | [], [] => true
 | a :: es, e :: l => notStar e && chk Z G a e && chks Z G es l
 | _, _ => false
noncomputable def chkO (Z : Sg) (G : Gm) : Option IR → Option Expr → Bool
 | none, none => true
 | some a, some e => chk Z G a e
 | _, _ => false
noncomputable def chkSr (Z : Sg) (G : Gm) : Sr → Expr → Bool
 | .rng1 n, .Call (.Name x _) [e] [] _ => x == "range" && G.gl.contains 15 && notStar e && chk Z G n e
 | .rng2 a b, .Call (.Name x _) [e, e'] [] _ => x == "range" && G.gl.contains 15 && notStar e && notStar e' && chk Z G a e && chk Z G b e'
 | .val a, e => chk Z G a e
 | _, _ => false
end
noncomputable def FOk (F : Addr → Prop) (H : Hp) : Prop := ∀ a, F a → H a ≠ none
structure Out (K : PySem.W.Frag) (F : Addr → Prop) (H : Hp) (F' : Addr → Prop) (H' : Hp) (v : V) (d : D) (fv : List Addr) : Prop where
 fok : FOk F' H'
 same : Same H H'
 rep : MRep K F' H' v d fv
 nod : fv.Nodup
 new : ∀ a ∈ fv, H a = none
 inn : ∀ a, F a → F' a
 out : ∀ a, F' a → F a ∨ H a = none
noncomputable def spF (K : PySem.W.Frag) (cl : Nat → List D → Res D) (xp : XK → Hp → Str → Prop) (f : Nat) (ps : List Str) : Sp := fun vs H Q E => vs.length = ps.length ∧ ∃ F ds, FOk F H ∧ HReps K F H vs ds ∧
 PO' (xp E H) (cl f (ers ds)) fun d => ∀ v H' F' fv, Out K F H F' H' v d fv → Q v H'
structure FnC (P : Program) (w : World) (K : PySem.W.Frag) (mg : Str → Option Value) (base : Heap) (CX : CXT) (A : Around) (cl : Nat → List D → Res D) (xp : XK → Hp → Str → Prop) (f : Nat) (x : Str) : Prop where
 ex : ∃ (k : Nat) (fa : Addr) (fd : FuncData) (ps : List Str), mg x = some (.ref fa) ∧ PySem.W.keepIn K (.ref fa) = true ∧ Binds K fd ps [] ∧ FnOk P w K mg base CX k fa fd ps (spF K cl xp f ps) ∧ Room k A ∧
  ∀ (ex : Str → Prop) ds (k : D → Prop), PO' ex (cl f ds) k → ds.length = ps.length
structure GOk (Z : Sg) (CX : CXT) (cl : Nat → List D → Res D) (xp : XK → Hp → Str → Prop) (X : Cx) (ex : Str → Prop) (G : Gm) : Prop where
 N : X.N = G.N
 nod : G.N.Nodup
 calm : X.calm = true
 fk : X.env.scope.kind = .function
 un : X.A.units + 42 < cLine
 own : PassesOwn (model X.prog X.w) X.A X.env X.xe
 kd : ∀ (i : Nat) (x : Str), G.N[i]? = some x → X.env.kindOf x = G.kd[i]?
 noD : ∀ (i : Nat) (x : Str), G.N[i]? = some x → (x == ("__debug__" : Str)) = false ∧ (x == ("__classdict__" : Str)) = false
 gl : ∀ n ∈ G.gl, ∀ x, Z.name n = some x → Gl X x
 nam : ∀ n x, Z.name n = some x → x ≠ "__name__" ∧ (x == ("__debug__" : Str)) = false
 df : G.df = true → ∀ x, X.fn x = true
 blt : ∀ (n : Nat) (x : Str), bnames[n]? = some x → X.mg x = none
 cst : ∀ n d x, (n, d) ∈ Z.kst → Z.name n = some x → ∃ u v, X.mg x = some u ∧ RelV v u ∧ ∀ S H, HRep X.K S H v d
 fns : ∀ f ∈ Z.fns, ∀ x, Z.name f = some x → FnC X.prog X.w X.K X.mg X.base CX X.A cl xp f x
 exs : ∃ E : XK, Passes CX X E ∧ ∀ c H, ex c → xp E H c
 exn : ∀ (H : Hp) (outer : List Env) (s : Shared) (e : Value) (s' : Shared), ¬ CX outer H s (fun _ _ _ => False) e s'
end L2
namespace L2
open PySem PySem.Spec PyProof.Rows PySem.SeqAt
noncomputable def Slots (K : PySem.W.Frag) (S : Addr → Prop) (H : Hp) (σ : St) (τ : Ev) (is : List Nat) : Prop := ∀ i ∈ is, ∀ d, slotD τ i = some d → ∃ v, σ[i]? = some (some v) ∧ HRep K S H v d
theorem Slots.sub {K : PySem.W.Frag} {S : Addr → Prop} {H : Hp} {σ : St} {τ : Ev} {is js : List Nat} (h : Slots K S H σ τ is) (s : ∀ i ∈ js, i ∈ is) : Slots K S H σ τ js := fun i hi d e => h i (s i hi) d e
theorem Slots.left {K : PySem.W.Frag} {S : Addr → Prop} {H : Hp} {σ : St} {τ : Ev} {is js : List Nat} (h : Slots K S H σ τ (is ++ js)) : Slots K S H σ τ is := h.sub fun _ hi => List.mem_append_left _ hi
theorem Slots.right {K : PySem.W.Frag} {S : Addr → Prop} {H : Hp} {σ : St} {τ : Ev} {is js : List Nat} (h : Slots K S H σ τ (is ++ js)) : Slots K S H σ τ js := h.sub fun _ hi => List.mem_append_right _ hi
theorem Slots.go {K : PySem.W.Frag} {S : Addr → Prop} {H H' : Hp} {σ : St} {τ : Ev} {is : List Nat} (h : Slots K S H σ τ is) (e : Same H H') : Slots K (nw S H) H' σ τ is := fun i hi d z => by
 obtain ⟨v, h1, h2⟩ := h i hi d z
 exact ⟨v, h1, h2.mono (fun _ => .inl) e⟩
noncomputable def RD (K : PySem.W.Frag) (ex : Str → Prop) (is : List Nat) (f : Ev → Res D) : TE := fun σ H Q => ∃ S τ, Slots K S H σ τ is ∧ PO' ex (f τ) (Kk K S H Q)
noncomputable def RT (K : PySem.W.Frag) (ex : Str → Prop) (is : List Nat) (f : Ev → Res Bool) : TT := fun σ H Q => ∃ S τ, Slots K S H σ τ is ∧ PO' ex (f τ) fun b => ∀ H', Same H H' → Q b H'
noncomputable def RA (K : PySem.W.Frag) (ex : Str → Prop) (is : List Nat) (f : Ev → Res (List D)) : TA := fun σ H Q => ∃ S τ, Slots K S H σ τ is ∧ PO' ex (f τ) fun ds => ∀ vs H', Same H H' → HReps K (nw S H) H' vs ds → Q vs H'
noncomputable def ROp (K : PySem.W.Frag) (ex : Str → Prop) (is : List Nat) (f : Ev → Res (Option Int)) : TO := fun σ H Q => ∃ S τ, Slots K S H σ τ is ∧ PO' ex (f τ) fun o => ∀ H', Same H H' → Q o H'
inductive Wlk (K : PySem.W.Frag) (S : Addr → Prop) (H : Hp) : It → List D → Prop where
 | lst {a : Addr} {xs : List V} {ds : List D} : S a → Rd H a (.lst xs) → HReps K S H xs ds → Wlk K S H (Itl K a) ds
 | lstK {a : Addr} {xs : List V} {ds : List D} : KL K a xs → HReps K S H xs ds → Wlk K S H (Itl K a) ds
 | tup {a : Addr} {xs : List V} {ds : List D} : SqT K H a xs → HReps K S H xs ds → Wlk K S H (Itt K a) ds
 | rng (lo hi : Int) : Wlk K S H (Itr lo (hi - lo).toNat) (rngD lo hi)
 | str (x : Str) : Wlk K S H (Its x) (charsD x)
noncomputable def RI (K : PySem.W.Frag) (ex : Str → Prop) (is : List Nat) (f : Ev → Res (List D)) : TI := fun σ H R => ∃ S τ, Slots K S H σ τ is ∧ PO' ex (f τ) fun ds => ∀ J H', Same H H' → Wlk K (nw S H) H' J ds → R J H'
theorem nw_nw {S : Addr → Prop} {H H1 : Hp} (e : Same H H1) : ∀ a, nw (nw S H) H1 a → nw S H a := fun a h => by
 rcases h with h | h
 ·exact h
 ·exact .inr (e.free h)
section
variable {Z : Sg} {CX : CXT} {cl : Nat → List D → Res D} {xp : XK → Hp → Str → Prop} {X : Cx} {ex : Str → Prop} {G : Gm}
theorem Kk.fit {K : PySem.W.Frag} {S : Addr → Prop} {H H1 : Hp} {Q : VK} {d : D} (e : Same H H1) (h : Kk K S H Q d) : Kk K (nw S H) H1 Q d := fun w H' e' m => h w H' (e.trans e') (m.mono (nw_nw e) (.refl _))
theorem gl_of (g : GOk Z CX cl xp X ex G) {n : Nat} {x : Str} (h : chkG Z G n x = true) : Gl X x ∧ Z.name n = some x ∧ x ≠ "__name__" ∧ (x == ("__debug__" : Str)) = false := by
 unfold chkG at h
 rw [Bool.and_eq_true] at h
 have e : Z.name n = some x := eq_of_beq h.1
 exact ⟨g.gl n (by simpa using h.2) x e, e, g.nam n x e⟩
theorem bname (Z : Sg) {n : Nat} {x : Str} (h : bnames[n]? = some x) : Z.name n = some x := by
 unfold Sg.name
 rw [List.getElem?_append_left (List.getElem?_eq_some_iff.mp h).1]
 exact h
theorem gb_of (g : GOk Z CX cl xp X ex G) {n : Nat} {x : Str} (h : bnames[n]? = some x) (hc : G.gl.contains n = true) : Gl X x ∧ X.mg x = none ∧ x ≠ "__name__" ∧ (x == ("__debug__" : Str)) = false :=
 ⟨g.gl n (by simpa using hc) x (bname Z h), g.blt n x h, g.nam n x (bname Z h)⟩
theorem star_cons {e : Expr} (h : notStar e = true) (es : List Expr) (env : Env) : starEach (e :: es) env = (false, eval e env) :: starEach es env := by
 cases e <;> first | rfl | cases h
theorem star_none (Z : Sg) (G : Gm) : ∀ {es : List IR} {l : List Expr} (p : Pos) (env : Env), chks Z G es l = true → (backTo p (starEach l env)).any (·.1) = false
 | [], [], _, _, _ => rfl
 | a :: es, e :: l, p, env, h => by
  have h' : (notStar e && chk Z G a e && chks Z G es l) = true := h
  simp only [Bool.and_eq_true] at h'
  rw [star_cons h'.1.1]
  have ih := star_none Z G (es := es) (l := l) p env h'.2
  show (false || (backTo p (starEach l env)).any (·.1)) = false
  rw [ih]
  rfl
 | [], _ :: _, _, _, h => by cases h
 | _ :: _, [], _, _, h => by cases h
theorem rd_c {d : D} {v : V} (h : ∀ S H, HRep X.K S H v d) {σ : St} {H : Hp} {Q : VK} {is : List Nat} (q : RD X.K ex is (fun _ => .ok d) σ H Q) : Q v H := by
 obtain ⟨S, τ, _, q⟩ := q
 exact q.ok _ _ (.refl _) (h _ _)
theorem pt_of {e : Expr} {is : List Nat} {f : Ev → Res D} (h : PE X e (RD X.K ex is f)) (he : ∀ whole, isTrue e X.env whole = (do let v ← whole; standAt e.pos; holding [v] (truthy v))) : PT X e (RT X.K ex is fun τ => bnd (f τ) truD) := by
 intro pins s σ H Q I hw
 obtain ⟨S, τ, hs, hw⟩ := hw
 refine isTrue_plain (thn (h pins s σ H (fun v H' => ∃ d, Same H H' ∧ HRep X.K (nw S H) H' v d ∧ PO' ex (truD d) fun b => ∀ H', Same H H' → Q b H') I ⟨S, τ, hs, (PO'.bnd hw).mono fun d hd v H' e m => ⟨d, e, m, hd⟩⟩) fun v s1 ⟨x, H1, I1, r1, d, e, m, hd⟩ => ?_) (he _)
 exact truD_ok I1 r1 m (hd.mono fun b z => z H1 e)
end
end L2
namespace L2
open PySem PySem.Spec PyProof.Rows PySem.SeqAt
section
variable {Z : Sg} {CX : CXT} {cl : Nat → List D → Res D} {xp : XK → Hp → Str → Prop} {X : Cx} {ex : Str → Prop} {G : Gm} {K : PySem.W.Frag} {S : Addr → Prop} {H H1 : Hp} {σ : St} {τ : Ev}
theorem rdAt {is : List Nat} {f : Ev → Res D} {Kt : D → Prop} {Q : VK} (e : Same H H1) (hs : Slots K S H σ τ is) (h : PO' ex (f τ) Kt) (k : ∀ x v H2, Same H H2 → Same H1 H2 → HRep K (nw S H) H2 v x → Kt x → Q v H2) : RD K ex is f σ H1 Q :=
 ⟨nw S H, τ, hs.go e, h.mono fun x hx v H2 e2 m => k x v H2 (e.trans e2) e2 (m.mono (nw_nw e) (.refl _)) hx⟩
theorem rtAt {is : List Nat} {f : Ev → Res Bool} {Kt : Bool → Prop} {Q : Bool → Hp → Prop} (e : Same H H1) (hs : Slots K S H σ τ is) (h : PO' ex (f τ) Kt) (k : ∀ x H2, Same H H2 → Same H1 H2 → Kt x → Q x H2) : RT K ex is f σ H1 Q :=
 ⟨nw S H, τ, hs.go e, h.mono fun x hx H2 e2 => k x H2 (e.trans e2) e2 hx⟩
theorem raAt {is : List Nat} {f : Ev → Res (List D)} {Kt : List D → Prop} {Q : List V → Hp → Prop} (e : Same H H1) (hs : Slots K S H σ τ is) (h : PO' ex (f τ) Kt) (k : ∀ x v H2, Same H H2 → Same H1 H2 → HReps K (nw S H) H2 v x → Kt x → Q v H2) : RA K ex is f σ H1 Q :=
 ⟨nw S H, τ, hs.go e, h.mono fun x hx v H2 e2 m => k x v H2 (e.trans e2) e2 (m.mono (nw_nw e) (.refl _)) hx⟩
theorem roAt {is : List Nat} {f : Ev → Res (Option Int)} {Kt : Option Int → Prop} {Q : Option Int → Hp → Prop} (e : Same H H1) (hs : Slots K S H σ τ is) (h : PO' ex (f τ) Kt) (k : ∀ x H2, Same H H2 → Same H1 H2 → Kt x → Q x H2) : ROp K ex is f σ H1 Q :=
 ⟨nw S H, τ, hs.go e, h.mono fun x hx H2 e2 => k x H2 (e.trans e2) e2 hx⟩
theorem HRep.later {v : V} {d : D} {H2 : Hp} (h : HRep K (L2.nw S H) H1 v d) (e : Same H1 H2) : HRep K (L2.nw S H) H2 v d := h.mono (fun _ z => z) e
theorem HReps.later {v : List V} {d : List D} {H2 : Hp} (h : HReps K (L2.nw S H) H1 v d) (e : Same H1 H2) : HReps K (L2.nw S H) H2 v d := h.mono (fun _ z => z) e
theorem s_v (g : GOk Z CX cl xp X ex G) {i : Nat} {x : Str} {pos : Pos} (h : chkV G i x = true) : PE X (.Name x pos) (RD X.K ex [i] (evR cl (.v i))) := by
 unfold chkV at h
 rw [Bool.and_eq_true] at h
 have hx : G.N[i]? = some x := eq_of_beq h.1
 have hk := g.kd i x hx
 have hv : Vis X.env.scope x := by
  have h2 := h.2
  rw [Bool.or_eq_true, Bool.or_eq_true] at h2
  rcases h2 with (h2 | h2) | h2
  ·exact .inl (hk.trans (eq_of_beq h2))
  ·exact .inr (.inl (hk.trans (eq_of_beq h2)))
  ·exact .inr (.inr (hk.trans (eq_of_beq h2)))
 refine peMono (pe_var (i := i) (by rw [g.N]; exact hx) hv (g.noD i x hx).1 (g.noD i x hx).2) fun σ H Q q => ?_
 obtain ⟨S, τ, hs, q⟩ := q
 rw [evR_v] at q
 cases z : slotD τ i with
 | none => rw [z] at q; exact q.no.elim
 | some d =>
  rw [z] at q
  obtain ⟨v, h1, h2⟩ := hs i (by simp) d z
  exact ⟨v, h1, q.ok _ _ (.refl _) h2.nw⟩
theorem s_c {d : D} {k : Const} {j : Nat} {pos : Pos} (h : chkC d k = true) : PE X (.Constant k j pos) (RD X.K ex [] (evR cl (.c d))) := by
 cases d with
 | non =>
  cases k with
  | none => exact peMono pe_non fun σ H Q q => rd_c (fun _ _ => .non) q
  | _ => cases h
 | bl b =>
  cases k with
  | bool b' =>
   have e : b = b' := eq_of_beq h
   subst e
   exact peMono pe_bl fun σ H Q q => rd_c (fun _ _ => .bl _) q
  | _ => cases h
 | int b =>
  cases k with
  | int b' =>
   have e : b = b' := eq_of_beq h
   subst e
   exact peMono pe_int fun σ H Q q => rd_c (fun _ _ => .int _) q
  | _ => cases h
 | str b =>
  cases k with
  | str b' =>
   have e : b = b' := eq_of_beq h
   subst e
   exact peMono pe_str fun σ H Q q => rd_c (fun _ _ => .str _) q
  | _ => cases h
 | tup _ => cases k <;> cases h
 | lst _ _ => cases k <;> cases h
theorem s_g (g : GOk Z CX cl xp X ex G) {n : Nat} {d : D} {x : Str} {pos : Pos} (h : chkG Z G n x = true) (hk : Z.kst.any (fun p => p.1 == n && dbeq p.2 d) = true) : PE X (.Name x pos) (RD X.K ex [] (evR cl (.g n d))) := by
 obtain ⟨h1, h2, h3, h4⟩ := gl_of g h
 rw [List.any_eq_true] at hk
 obtain ⟨⟨m, d'⟩, hm, hk⟩ := hk
 rw [Bool.and_eq_true] at hk
 have e1 : m = n := eq_of_beq hk.1
 have e2 : d' = d := dbeq_eq hk.2
 subst e1 e2
 obtain ⟨u, v, hu, r, hr⟩ := g.cst m d' x hm h2
 exact peMono (pe_glob h1 hu r h4) fun σ H Q q => rd_c hr q
theorem s_bin {op : BOp} {a b : Expr} {pos : Pos} {va vb : List Nat} {fa fb : Ev → Res D} (ha : PE X a (RD X.K ex va fa)) (hb : PE X b (RD X.K ex vb fb)) :
  PE X (.BinOp a (bop op) b pos) (RD X.K ex (va ++ vb) fun τ => bnd (fa τ) fun x => bnd (fb τ) fun y => opB op x y) := by
 refine peMono (pe_op (opB_ok (ex := ex) op) ha hb) fun σ H Q ⟨S, τ, hs, q⟩ => ?_
 refine rdAt (.refl _) hs.left (PO'.bnd q) fun x v H1 e1 _ m1 q1 => ?_
 refine rdAt e1 hs.right (PO'.bnd q1) fun y w H2 e2 e2' m2 q2 => ?_
 exact ⟨nw S H, x, y, m1.later e2', m2, q2.mono fun d hd => hd.fit e2⟩
theorem s_cmp (g : GOk Z CX cl xp X ex G) {op : COp} {a b : Expr} {pos : Pos} {va vb : List Nat} {fa fb : Ev → Res D} (ha : PE X a (RD X.K ex va fa)) (hb : PE X b (RD X.K ex vb fb)) (hm : behindInMarks (cop op) b = false) :
  PE X (.Compare a [cop op] [b] pos) (RD X.K ex (va ++ vb) fun τ => bnd (fa τ) fun x => bnd (fb τ) fun y => bnd (opC op x y) fun r => .ok (.bl r)) ∧
  PT X (.Compare a [cop op] [b] pos) (RT X.K ex (va ++ vb) fun τ => bnd (bnd (fa τ) fun x => bnd (fb τ) fun y => bnd (opC op x y) fun r => .ok (.bl r)) truD) := by
 refine ⟨peMono (pe_cmpR (opC_ok (ex := ex) g.un op) ha hb hm) fun σ H Q ⟨S, τ, hs, q⟩ => ?_, ptMono (pt_cmpR (opC_ok (ex := ex) g.un op) ha hb hm) fun σ H Q ⟨S, τ, hs, q⟩ => ?_⟩
 ·refine rdAt (.refl _) hs.left (PO'.bnd q) fun x v H1 e1 _ m1 q1 => ?_
  refine rdAt e1 hs.right (PO'.bnd q1) fun y w H2 e2 e2' m2 q2 => ?_
  exact ⟨nw S H, x, y, m1.later e2', m2, (PO'.bnd q2).mono fun d hd => hd.ok _ _ e2 (.bl _)⟩
 ·refine rdAt (.refl _) hs.left (PO'.bnd (PO'.bnd q)) fun x v H1 e1 _ m1 q1 => ?_
  refine rdAt e1 hs.right (PO'.bnd q1) fun y w H2 e2 e2' m2 q2 => ?_
  exact ⟨nw S H, x, y, m1.later e2', m2, (PO'.bnd q2).mono fun d hd => ⟨d, rfl, hd.ok.ok H2 e2⟩⟩
theorem s_and {a b : Expr} {rest : List Expr} {pos : Pos} {va vb : List Nat} {fa fb : Ev → Res D} (ha : PE X a (RD X.K ex va fa)) (hb : PE X (.BoolOp .And (b :: rest) pos) (RD X.K ex vb fb)) :
  PE X (.BoolOp .And (a :: b :: rest) pos) (RD X.K ex (va ++ vb) fun τ => bnd (fa τ) fun x => bnd (truD x) fun r => if r = true then fb τ else .ok x) := by
 intro pins s σ H Q I h
 obtain ⟨S, τ, hs, q⟩ := h
 refine BoolOp_and (thn (ha pins s σ H (fun v H' => ∃ d, Same H H' ∧ HRep X.K (nw S H) H' v d ∧ _) I (rdAt (.refl _) hs.left (PO'.bnd q) fun x v H1 e1 _ m1 q1 => ⟨x, e1, m1, q1⟩)) fun v s1 ⟨x, H1, I1, r1, d, e1, m1, q1⟩ => ?_)
 refine thn (truD_ok (Q := fun b H' => H' = H1 ∧ PO' ex (if b = true then fb τ else .ok d) (Kk X.K S H Q)) I1 r1 m1 ((PO'.bnd q1).mono fun b z => ⟨rfl, z⟩)) fun c s2 ⟨H2, I2, e2, q2⟩ => ?_
 subst e2
 cases c with
 | true =>
  rw [if_pos rfl] at q2 ⊢
  exact hb pins s2 σ _ Q I2 (rdAt e1 hs.right q2 fun y w H3 e3 _ m3 q3 => q3 _ _ e3 m3)
 | false =>
  rw [if_neg Bool.false_ne_true] at q2 ⊢
  exact ⟨x, _, I2, r1, q2.ok _ _ e1 m1⟩
theorem s_or {a b : Expr} {rest : List Expr} {pos : Pos} {va vb : List Nat} {fa fb : Ev → Res D} (ha : PE X a (RD X.K ex va fa)) (hb : PE X (.BoolOp .Or (b :: rest) pos) (RD X.K ex vb fb)) :
  PE X (.BoolOp .Or (a :: b :: rest) pos) (RD X.K ex (va ++ vb) fun τ => bnd (fa τ) fun x => bnd (truD x) fun r => if r = true then .ok x else fb τ) := by
 intro pins s σ H Q I h
 obtain ⟨S, τ, hs, q⟩ := h
 refine BoolOp_or (thn (ha pins s σ H (fun v H' => ∃ d, Same H H' ∧ HRep X.K (nw S H) H' v d ∧ _) I (rdAt (.refl _) hs.left (PO'.bnd q) fun x v H1 e1 _ m1 q1 => ⟨x, e1, m1, q1⟩)) fun v s1 ⟨x, H1, I1, r1, d, e1, m1, q1⟩ => ?_)
 refine thn (truD_ok (Q := fun b H' => H' = H1 ∧ PO' ex (if b = true then .ok d else fb τ) (Kk X.K S H Q)) I1 r1 m1 ((PO'.bnd q1).mono fun b z => ⟨rfl, z⟩)) fun c s2 ⟨H2, I2, e2, q2⟩ => ?_
 subst e2
 cases c with
 | false =>
  rw [if_neg Bool.false_ne_true] at q2 ⊢
  exact hb pins s2 σ _ Q I2 (rdAt e1 hs.right q2 fun y w H3 e3 _ m3 q3 => q3 _ _ e3 m3)
 | true =>
  rw [if_pos rfl] at q2 ⊢
  exact ⟨x, _, I2, r1, q2.ok _ _ e1 m1⟩
theorem s_not {a : Expr} {pos : Pos} {va : List Nat} {fa : Ev → Res D} (ha : PE X a (RD X.K ex va fa)) (ht : PT X a (RT X.K ex va fun τ => bnd (fa τ) truD)) :
  PE X (.UnaryOp .Not a pos) (RD X.K ex va fun τ => bnd (fa τ) fun x => bnd (truD x) fun r => .ok (.bl !r)) ∧ PT X (.UnaryOp .Not a pos) (RT X.K ex va fun τ => bnd (bnd (fa τ) fun x => bnd (truD x) fun r => .ok (.bl !r)) truD) := by
 constructor
 ·intro pins s σ H Q I h
  obtain ⟨S, τ, hs, q⟩ := h
  refine UnaryOp_ (thn (ha pins s σ H (fun v H' => ∃ d, Same H H' ∧ HRep X.K (nw S H) H' v d ∧ _) I (rdAt (.refl _) hs (PO'.bnd q) fun x v H1 e1 _ m1 q1 => ⟨x, e1, m1, q1⟩)) fun v s1 ⟨x, H1, I1, r1, d, e1, m1, q1⟩ => ?_)
  refine not_of (thn (truD_ok (Q := fun b H' => Q (.bl !b) H') I1 r1 m1 ((PO'.bnd q1).mono fun b z => z.ok _ _ e1 (.bl _))) fun c s2 ⟨H2, I2, q2⟩ => ⟨.bl !c, H2, I2, rfl, q2⟩)
 ·refine ptMono (pt_not ht) fun σ H Q ⟨S, τ, hs, q⟩ => ?_
  exact rtAt (.refl _) hs (PO'.mk ((PO'.bnd (PO'.bnd q)).mono fun x hx => (PO'.bnd hx).mono fun r hr => hr.ok.ok)) fun x H2 e2 _ k => k H2 e2
theorem pt_any {e : Expr} {pos : Pos} {op : BoolOp} {es : List Expr} {t : TT} (h : PT X (.BoolOp op es pos) t) : PW X (.BoolOp op es pos) t := fun _ pins s σ H Q I q => h pins s σ H Q I q
theorem t_and {a b : Expr} {rest : List Expr} {pos : Pos} {va vb : List Nat} {fa fb : Ev → Res D} (ha : PT X a (RT X.K ex va fun τ => bnd (fa τ) truD)) (hb : PW X (.BoolOp .And (b :: rest) pos) (RT X.K ex vb fun τ => bnd (fb τ) truD)) :
  PT X (.BoolOp .And (a :: b :: rest) pos) (RT X.K ex (va ++ vb) fun τ => bnd (bnd (fa τ) fun x => bnd (truD x) fun r => if r = true then fb τ else .ok x) truD) := by
 refine ptMono (pw_and ha hb).pt fun σ H Q ⟨S, τ, hs, q⟩ => ?_
 refine rtAt (.refl _) hs.left (Kt := fun r => PO' ex (if r = true then bnd (fb τ) truD else .ok false) fun b => ∀ H', Same H H' → Q b H') (PO'.mk ((PO'.bnd (PO'.bnd q)).mono fun x hx => (PO'.bnd hx).eq.mono fun r hr => ?_)) fun r H2 e2 _ k => ?_
 ·obtain ⟨er, hr⟩ := hr
  cases r with
  | true => rw [if_pos rfl] at hr ⊢; exact PO'.mk hr
  | false =>
   rw [if_neg Bool.false_ne_true] at hr ⊢
   have hr' : PO' ex (truD x) _ := hr
   rw [er] at hr'
   exact hr'
 ·cases r with
  | true => rw [if_pos rfl] at k ⊢; exact rtAt e2 hs.right k fun b H3 e3 _ z => z H3 e3
  | false => rw [if_neg Bool.false_ne_true] at k ⊢; exact k.ok H2 e2
theorem t_or {a b : Expr} {rest : List Expr} {pos : Pos} {va vb : List Nat} {fa fb : Ev → Res D} (ha : PT X a (RT X.K ex va fun τ => bnd (fa τ) truD)) (hb : PW X (.BoolOp .Or (b :: rest) pos) (RT X.K ex vb fun τ => bnd (fb τ) truD)) :
  PT X (.BoolOp .Or (a :: b :: rest) pos) (RT X.K ex (va ++ vb) fun τ => bnd (bnd (fa τ) fun x => bnd (truD x) fun r => if r = true then .ok x else fb τ) truD) := by
 refine ptMono (pw_or ha hb).pt fun σ H Q ⟨S, τ, hs, q⟩ => ?_
 refine rtAt (.refl _) hs.left (Kt := fun r => PO' ex (if r = true then .ok true else bnd (fb τ) truD) fun b => ∀ H', Same H H' → Q b H') (PO'.mk ((PO'.bnd (PO'.bnd q)).mono fun x hx => (PO'.bnd hx).eq.mono fun r hr => ?_)) fun r H2 e2 _ k => ?_
 ·obtain ⟨er, hr⟩ := hr
  cases r with
  | false => rw [if_neg Bool.false_ne_true] at hr ⊢; exact PO'.mk hr
  | true =>
   rw [if_pos rfl] at hr ⊢
   have hr' : PO' ex (truD x) _ := hr
   rw [er] at hr'
   exact hr'
 ·cases r with
  | false => rw [if_neg Bool.false_ne_true] at k ⊢; exact rtAt e2 hs.right k fun b H3 e3 _ z => z H3 e3
  | true => rw [if_pos rfl] at k ⊢; exact k.ok H2 e2
theorem s_tup {es : List Expr} {n : Nat} {pos : Pos} {va : List Nat} {fa : Ev → Res (List D)} (h : PA X es (RA X.K ex va fa)) : PE X (.Tuple es n pos) (RD X.K ex va fun τ => bnd (fa τ) fun ds => grd (szOk ds.length) (.ok (.tup ds))) := by
 refine peMono (pe_tup h) fun σ H Q ⟨S, τ, hs, q⟩ => ?_
 refine raAt (.refl _) hs (PO'.bnd q) fun ds vs H1 e1 _ m1 q1 => ?_
 obtain ⟨g, q1⟩ := PO'.grd q1
 exact ⟨by rw [m1.length]; exact szOk_le g, fun p hp => q1.ok _ _ (e1.trans (.upd hp)) ((newT hp m1).mono (nw_nw e1) (.refl _))⟩
theorem s_lst {es : List Expr} {pos : Pos} {va : List Nat} {fa : Ev → Res (List D)} (h : PA X es (RA X.K ex va fa)) : PE X (.List es pos) (RD X.K ex va fun τ => bnd (fa τ) fun ds => grd (szOk ds.length) (.ok (.lst true ds))) := by
 refine peMono (pe_lst h) fun σ H Q ⟨S, τ, hs, q⟩ => ?_
 refine raAt (.refl _) hs (PO'.bnd q) fun ds vs H1 e1 _ m1 q1 => ?_
 obtain ⟨g, q1⟩ := PO'.grd q1
 exact ⟨by rw [m1.length]; exact szOk_le g, fun p hp => q1.ok _ _ (e1.trans (.upd hp)) ((newL hp m1).mono (nw_nw e1) (.refl _))⟩
theorem s_idx {a b : Expr} {pos : Pos} {va vb : List Nat} {fa fb : Ev → Res D} (ha : PE X a (RD X.K ex va fa)) (hb : PE X b (RD X.K ex vb fb)) (hp : notSlice b = true) :
  PE X (.Subscript a b pos) (RD X.K ex (va ++ vb) fun τ => bnd (fa τ) fun x => bnd (fb τ) fun y => opIx x y) := by
 refine peMono (pe_ix (opIx_ok (ex := ex)) ha hb fun o i => by cases b <;> first | rfl | cases hp) fun σ H Q ⟨S, τ, hs, q⟩ => ?_
 refine rdAt (.refl _) hs.left (PO'.bnd q) fun x v H1 e1 _ m1 q1 => ?_
 refine rdAt e1 hs.right (PO'.bnd q1) fun y w H2 e2 e2' m2 q2 => ?_
 exact ⟨nw S H, x, y, m1.later e2', m2, q2.mono fun d hd => hd.fit e2⟩
theorem s_sl {a : Expr} {lo hi : Option Expr} {pos p2 : Pos} {va vl vh : List Nat} {fa : Ev → Res D} {fl fh : Ev → Res (Option Int)} (ha : PE X a (RD X.K ex va fa)) (hl : PO X lo (ROp X.K ex vl fl)) (hh : PO X hi (ROp X.K ex vh fh)) :
  PE X (.Subscript a (.Slice lo hi none p2) pos) (RD X.K ex (va ++ vl ++ vh) fun τ => bnd (fa τ) fun x => bnd (fl τ) fun l => bnd (fh τ) fun h => opSl x l h) := by
 refine peMono (pe_slice (opSl_ok (ex := ex)) ha hl hh) fun σ H Q ⟨S, τ, hs, q⟩ => ?_
 refine rdAt (.refl _) hs.left.left (PO'.bnd q) fun x v H1 e1 _ m1 q1 => ?_
 refine roAt e1 hs.left.right (PO'.bnd q1) fun l H2 e2 e2' q2 => ?_
 refine roAt e2 hs.right (PO'.bnd q2) fun h H3 e3 e3' q3 => ?_
 exact ⟨nw S H, x, m1.later (e2'.trans e3'), q3.mono fun d hd => hd.fit e3⟩
theorem s_call (g : GOk Z CX cl xp X ex G) {f : Nat} {x : Str} {p pos : Pos} {es : List IR} {args : List Expr} (h1 : chkG Z G f x = true) (h2 : Z.fns.contains f = true) (hst : chks Z G es args = true) (h : PA X args (RA X.K ex (varss es) (evRs cl es))) :
  PE X (.Call (.Name x p) args [] pos) (RD X.K ex (varss es) fun τ => bnd (evRs cl es τ) fun ds => cl f (ers ds)) := by
 obtain ⟨k1, k2, k3, k4⟩ := gl_of g h1
 obtain ⟨k, fa', fd, ps, hm, hkp, hb, F, hr, hlen⟩ := (g.fns f (by simpa using h2) x k2).ex
 obtain ⟨E, hP, hE⟩ := g.exs
 intro pins s σ H Q I q
 obtain ⟨S, τ, hs, q⟩ := q
 have fin : ∀ (us : List Value) (s1 : Shared) (vs : List V) (H1 : Hp) (ds : List D), Inv X pins σ H1 s1 → Vals vs us → Same H H1 → HReps X.K (nw S H) H1 vs ds → PO' ex (cl f (ers ds)) (Kk X.K S H Q) → wpAny (model X.prog X.w) X.A (call (.ref fa') us) (EP X pins σ Q) X.xe s1 := by
  intro us s1 vs H1 ds I1 r e m q1
  refine run_fn F hr hb (.nil : Vals [] []) hP I1 r ?_
  rw [List.append_nil]
  have hl := hlen ex _ _ q1
  rw [ers_length] at hl
  refine ⟨by rw [m.length]; exact hl, fun a => nw S H a ∧ H1 a ≠ none, ds, fun a z => z.2, m.tight, ?_⟩
  cases z : cl f (ers ds) with
  | error er =>
   rw [z] at q1
   cases er with
   | stuck => exact q1.no.elim
   | exc c => exact hE c _ q1
  | ok d =>
   rw [z] at q1
   intro v H' F' fv o
   refine q1.ok _ _ (e.trans o.same) (o.rep.read (fun a ha => ?_) fun a ha => ?_)
   ·rcases o.out a ha with z | z
    ·exact z.1
    ·exact .inr (e.free z)
   ·exact .inr (e.free (o.new a ha))
 refine wpAny_Call_Name_kw (ld_glob I k1 hm ?_ k4)
 cases args with
 | nil =>
  cases es with
  | cons _ _ => cases hst
  | nil =>
   exact PySem.W.callWith_K0 I.kIn hkp (fin [] s [] H [] I .nil (.refl _) .nil q)
 | cons e l =>
  cases es with
  | nil => cases hst
  | cons a es =>
   have hst' : (notStar e && chk Z G a e && chks Z G es l) = true := hst
   simp only [Bool.and_eq_true] at hst'
   refine PySem.W.callWith_K (h₀ := X.base) I.ok.mod.kin hkp (thn (h pos pins s σ H (fun vs H1 => ∃ ds, Same H H1 ∧ HReps X.K (nw S H) H1 vs ds ∧ PO' ex (cl f (ers ds)) (Kk X.K S H Q)) I ⟨S, τ, hs, (PO'.bnd q).mono fun ds hd vs H1 e m => ⟨ds, e, m, hd⟩⟩) fun us s1 ⟨vs, H1, I1, r, ds, e, m, q1⟩ => ⟨I1.kIn, ?_⟩) (star_cons hst'.1.1 l X.env) (star_none Z G (es := es) pos X.env hst'.2)
   exact fin us s1 vs H1 ds I1 r e m q1
theorem s_bi (g : GOk Z CX cl xp X ex G) {f : Bi} {p pos : Pos} {es : List IR} {a : Expr} {args : List Expr} (hg : G.gl.contains (biNum f) = true) (hst : chks Z G es (a :: args) = true) (h : PA X (a :: args) (RA X.K ex (varss es) (evRs cl es))) :
  PE X (.Call (.Name (biName f) p) (a :: args) [] pos) (RD X.K ex (varss es) fun τ => bnd (evRs cl es τ) fun ds => opBi f ds) := by
 obtain ⟨k1, k2, k3, k4⟩ := gb_of g (bi_num f) hg
 cases es with
 | nil => cases hst
 | cons b es =>
  have hst' : (notStar a && chk Z G b a && chks Z G es args) = true := hst
  simp only [Bool.and_eq_true] at hst'
  have mono : ∀ σ H Q, RD X.K ex (varss (b :: es)) (fun τ => bnd (evRs cl (b :: es) τ) fun ds => opBi f ds) σ H Q → tCB (rBi X.K ex f) (RA X.K ex (varss (b :: es)) (evRs cl (b :: es))) σ H Q := by
   rintro σ H Q ⟨S, τ, hs, q⟩
   refine raAt (.refl _) hs (PO'.bnd q) fun ds vs H1 e1 _ m1 q1 => ?_
   exact ⟨nw S H, ds, m1, q1.mono fun d hd => hd.fit e1⟩
  refine peMono ?_ mono
  have hv := bi_boot f
  have hc := opBi_ok (X := X) (ex := ex) g.calm f
  unfold biVal at hv hc
  cases z : biTy f with
  | true =>
   rw [z, if_pos rfl] at hv hc
   exact pe_callTy hc k1 k2 hv h k3 k4 (star_cons hst'.1.1 args X.env) (star_none Z G (es := es) pos X.env hst'.2)
  | false =>
   rw [z, if_neg Bool.false_ne_true] at hv hc
   exact pe_callB hc k1 k2 hv h k3 k4 (star_cons hst'.1.1 args X.env) (star_none Z G (es := es) pos X.env hst'.2)
noncomputable def kdV : Kd → V
 | .str => .ty "str" | .int => .ty "int" | .bool => .ty "bool" | .list => .ty "list" | .tuple => .ty "tuple"
theorem kdV_rel (k : Kd) : RelV (kdV k) (kdTy k) := by cases k <;> rfl
theorem call_isi (k : Kd) : CallR X (.builtin "isinstance") (fun xs H Q => ∃ S x d, xs = [x, kdV k] ∧ HRep X.K S H x d ∧ Q (.bl (isiD k d)) H) := by
 intro pins s σ H xs us Q I r h
 obtain ⟨S, x, d, rfl, m, q⟩ := h
 obtain ⟨u, w', rfl, r1, r2⟩ := vals2 r
 have e : w' = kdTy k := by
  have := r2.abs
  have h2 := (kdV_rel k).abs
  cases k <;> (revert r2; intro r2; exact r2)
 subst e
 exact isiD_ok I r1 m k q
theorem s_isi (g : GOk Z CX cl xp X ex G) {k : Kd} {e : Expr} {p p' pos : Pos} {va : List Nat} {fa : Ev → Res D} (hg : G.gl.contains 14 = true) (hk : G.gl.contains (kdNum k) = true) (hn : notStar e = true) (ha : PE X e (RD X.K ex va fa)) :
  PE X (.Call (.Name "isinstance" p) [e, .Name (kdName k) p'] [] pos) (RD X.K ex va fun τ => bnd (fa τ) fun x => .ok (.bl (isiD k x))) := by
 obtain ⟨k1, k2, k3, k4⟩ := gb_of g (show bnames[14]? = some ("isinstance" : Str) from rfl) hg
 obtain ⟨j1, j2, j3, j4⟩ := gb_of g (kd_num k) hk
 have pa : PA X [e, .Name (kdName k) p'] (tCons (RD X.K ex va fa) (tCons (tC (kdV k)) tNil)) := pa_cons ha (pa_cons (pe_bltn j1 j2 (kd_boot k) (kdV_rel k) j3 j4) pa_nil rfl) (star_cons hn _ _)
 refine peMono (pe_callB (call_isi k) k1 k2 PyProof.Rows.boot_isinstance pa k3 k4 (star_cons hn _ _) rfl) fun σ H Q ⟨S, τ, hs, q⟩ => ?_
 refine rdAt (.refl _) hs (PO'.bnd q) fun x v H1 e1 _ m1 q1 => ?_
 exact ⟨nw S H, v, x, rfl, m1, q1.ok _ _ e1 (.bl _)⟩
theorem isStrD_str {d : D} (h : isStrD d = true) : ∃ x, d = .str x := by
 cases d <;> first | exact ⟨_, rfl⟩ | cases h
theorem s_mth (g : GOk Z CX cl xp X ex G) {m : Mt} {o : Expr} {apos cpos : Pos} {vo : List Nat} {fo : Ev → Res D} {es : List IR} {a : Expr} {args : List Expr} (hn : notCall0 o = true) (hl : (apos.endLine == cpos.line) = true) (hlen : (a :: args).length < 29)
  (hst : chks Z G es (a :: args) = true) (ho : PE X o (RD X.K ex vo fo)) (h : PA X (a :: args) (RA X.K ex (varss es) (evRs cl es))) :
  PE X (.Call (.Attribute o (mtName m) apos) (a :: args) [] cpos) (RD X.K ex (vo ++ varss es) fun τ => bnd (fo τ) fun x => grd (isStrD x) (bnd (evRs cl es τ) fun ds => opMt m x ds)) := by
 cases es with
 | nil => cases hst
 | cons b es =>
  have hst' : (notStar a && chk Z G b a && chks Z G es args) = true := hst
  simp only [Bool.and_eq_true] at hst'
  have star := star_none Z G (es := es) cpos X.env hst'.2
  have mono : ∀ σ H Q, RD X.K ex (vo ++ varss (b :: es)) (fun τ => bnd (fo τ) fun x => grd (isStrD x) (bnd (evRs cl (b :: es) τ) fun ds => opMt m x ds)) σ H Q → tBM X.K "str" (rMt X.K ex m) (RD X.K ex vo fo) (RA X.K ex (varss (b :: es)) (evRs cl (b :: es))) σ H Q := by
   rintro σ H Q ⟨S, τ, hs, q⟩
   refine rdAt (.refl _) hs.left (PO'.bnd q) fun x v H1 e1 _ m1 q1 => ?_
   obtain ⟨gd, q1⟩ := PO'.grd q1
   obtain ⟨z, rfl⟩ := isStrD_str gd
   cases m1.strR
   refine ⟨rfl, raAt e1 hs.right (PO'.bnd q1) fun ds vs H2 e2 e2' m2 q2 => ?_⟩
   exact ⟨nw S H, .str z, ds, .str z, m2, q2.mono fun d hd => hd.fit e2⟩
  have hbase : attributeBase o (mtName m) X.env (eval o X.env) = eval o X.env := by
   cases o with
   | Call f args kws pos =>
    cases args with
    | nil =>
     cases kws with
     | nil => cases hn
     | cons _ _ => cases f <;> rfl
    | cons _ _ => cases f <;> rfl
   | _ => rfl
  have all0 : (backTo cpos (starEach (a :: args) X.env)).all (fun x => !x.1) = true := by
   rw [star_cons hst'.1.1]
   show (true && (backTo cpos (starEach args X.env)).all (fun x => !x.1)) = true
   rw [Bool.true_and, List.all_eq_true]
   intro y hy
   have := List.any_eq_false.mp star y hy
   simpa using this
  have hfew : ((backTo cpos (starEach (a :: args) X.env)).all (fun x => !x.1) && (backToKw cpos (keywordEach [] X.env)).all (fun x => x.1.isSome) && decide ((a :: args).length + ([] : List Keyword).length + (if ([] : List Keyword).isEmpty then 0 else 1) < 30)) = true := by
   rw [all0]
   have : decide ((a :: args).length + ([] : List Keyword).length + (if ([] : List Keyword).isEmpty then 0 else 1) < 30) = true := decide_eq_true (by simp at hlen ⊢; omega)
   rw [this]
   rfl
  refine peMono ?_ mono
  cases m with
  | join => exact pe_bm PySem.F.plainAttrs_str PySem.F.slot_str_join PySem.F.type_str_join (opMt_ok (ex := ex) g.calm .join) ho h hbase hfew hl (star_cons hst'.1.1 args X.env) star
  | index => exact pe_bm PySem.F.plainAttrs_str PySem.F.slot_str_index PySem.F.type_str_index (opMt_ok (ex := ex) g.calm .index) ho h hbase hfew hl (star_cons hst'.1.1 args X.env) star
  | starts => exact pe_bm PySem.F.plainAttrs_str PySem.F.slot_str_startswith PySem.F.type_str_startswith (opMt_ok (ex := ex) g.calm .starts) ho h hbase hfew hl (star_cons hst'.1.1 args X.env) star
end
end L2
namespace L2
open PySem PySem.Spec PyProof.Rows PySem.SeqAt
section
variable {prog : Program} {w : World} {A : Around} {E : Value → Shared → Prop} {s : Shared}
theorem draw_listU {it t : Addr} {items : Array Value} (hne : t ≠ it) : ∀ (n i : Nat) (s : Shared) (Q : List Value → Shared → Prop), s.heap.IsListIter it t i → s.heap.IsList t items → i + n ≤ items.size →
  (∀ h', h'.IsListIter it t (i + n) → Heap.SameBut it s.heap h' → Q ((items.toList.drop i).take n) { s with heap := h' }) → wpAny (model prog w) A (draw (.ref it) n) Q E s
 | 0, i, s, Q, hit, _, _, hQ => by
  show wpAny _ _ (pure []) Q E s
  exact wpAny_pure (by simpa using hQ s.heap hit (Heap.SameBut.refl ..))
 | n + 1, i, s, Q, hit, ht, hle, hQ => by
  have hlt : i < items.size := by omega
  show wpAny _ _ (pyNext (.ref it) >>= _) Q E s
  refine wpAny_bind (wpAny_pyNext_list_item hit ht (x := items[i]) (by simp [hlt]) fun h₁ hit₁ hs₁ => ?_)
  refine wpAny_bind (wpAny_holding (draw_listU hne n (i + 1) _ _ hit₁ (ht.extBut hs₁.extBut hne) (by omega) fun h₂ hit₂ hs₂ => wpAny_pure ?_))
  have hd : items.toList.drop i = items[i] :: items.toList.drop (i + 1) := by simp [List.drop_eq_getElem_cons, hlt]
  have := hQ h₂ (by rw [show i + (n + 1) = i + 1 + n by omega]; exact hit₂) (hs₁.trans hs₂)
  rw [hd, List.take_succ_cons] at this
  exact this
theorem unpackItems_list {t : Addr} {items : Array Value} {Q : List Value → Shared → Prop} (hh : A.handled = none) (ht : s.heap.IsList t items)
  (hQ : ∀ h', Heap.ExtBut s.heap.objs.size s.heap h' → Q items.toList { s with heap := h' }) : wpAny (model prog w) A (unpackItems (.ref t) items.size none) Q E s := by
 have hlt : t ≠ s.heap.objs.size := by obtain ⟨o, ho, _⟩ := ht; exact Nat.ne_of_lt (Heap.lt_size ho)
 have push : ∀ o, (s.heap.push o).IsList t items := fun o => by
  obtain ⟨ob, e, c, n, d⟩ := ht
  exact ⟨ob, Heap.get?_push_of_some _ e, c, n, d⟩
 unfold unpackItems
 refine wpAny_bind ?_
 ·unfold notIterableAtAll
  refine wpAny_bind (wpAny_specialOf ht.typeIs slot_list_iter.lookup ?_)
  refine wpAny_pure ?_
  simp only [Bool.false_eq_true, if_false]
  refine wpAny_bind (wpAny_holding (wpAny_pyIter_list ht ?_))
  refine wpAny_bind (wpAny_holding (draw_listU hlt items.size 0 _ _ ⟨_, Heap.get?_push_size _ rfl, rfl, rfl⟩ (push _) (by omega) fun h₁ hit₁ hs₁ => ?_))
  have hall : List.take items.size (List.drop 0 items.toList) = items.toList := by
   rw [List.drop_zero]; exact List.take_of_length_le (by simp)
  rw [hall]
  rw [if_neg (by simp)]
  have ht₁ : h₁.IsList t items := (push _).extBut hs₁.extBut hlt
  refine wpAny_bind (wpAny_holding (wpAny_pyNext_list_end hh hit₁ ht₁ (by simp) fun h₂ he₂ => ?_))
  simp only [Option.isSome_none, Bool.false_eq_true, if_false]
  refine wpAny_pure (hQ h₂ fun b o hb e => he₂ b o hb (hs₁.extBut b o hb (Heap.get?_push_of_some _ e)))
end
noncomputable def gSeq (K : PySem.W.Frag) (n : Nat) (t : TGs) : TG := fun v σ H Q => ∃ a xs, v = .ref a ∧ (SqT K H a xs ∨ SqL K H a xs) ∧ xs.length = n ∧ t xs σ H Q
theorem pg_seq {X : Cx} {pos : Pos} {es : List Expr} {k : Nat} {t : TGs} {n : Nat} (hc : X.calm = true) (h : PGs X es t) (hn : (assignEach es X.env).length = n) (hst : (assignEach es X.env).findIdx? (·.1) = none) : PG X (.Tuple es k pos) (gSeq X.K n t) := by
 intro pins s σ H v u Q I r hw
 obtain ⟨a, xs, e1, hq, hl, hw⟩ := hw
 subst e1
 cases r
 rcases hq with hq | hq
 ·obtain ⟨its, rv, ht, hz⟩ := I.tuple hq
  refine assign_Tuple_tuple (I.ok.hd hc) ht (by simp [hn, ← hl, rv.length]) hst fun h' hx => ?_
  have I1 : Inv X pins σ H { s with heap := h' } := I.kept (t' := s.toks) fun b o e => hx b o (Nat.ne_of_lt (Heap.lt_size e)) e
  exact h pins _ σ H xs _ Q I1 (by simpa using rv) hw
 ·obtain ⟨its, rv, pl, hz⟩ := I.list hq
  rw [assign_Tuple]
  refine wpAny_bind (wpAny_standAt ?_)
  unfold unpack
  have hlen : (assignEach es X.env).length = its.toArray.size := by simp [hn, ← hl, rv.length]
  rw [hlen, hst]
  refine wpAny_bind (wpAny_holding (unpackItems_list (I.ok.hd hc) pl.isList fun h' hx => ?_))
  have I1 : Inv X pins σ H { s with heap := h' } := I.kept (t' := s.toks) fun b o e => hx b o (Nat.ne_of_lt (Heap.lt_size e)) e
  exact h pins _ σ H xs _ Q I1 (by simpa using rv) hw
mutual
noncomputable def gT (K : PySem.W.Frag) : Tg → TG
 | .nm i => gName i
 | .tp ts => gSeq K ts.length (gTs K ts)
noncomputable def gTs (K : PySem.W.Frag) : List Tg → TGs
 | [] => gNil
 | t :: ts => gCons (gT K t) (gTs K ts)
end
theorem asgEach_cons {e : Expr} (h : notStar e = true) (es : List Expr) (env : Env) : assignEach (e :: es) env = (false, assign e env) :: assignEach es env := by
 cases e <;> first | rfl | cases h
section
variable {Z : Sg} {CX : CXT} {cl : Nat → List D → Res D} {xp : XK → Hp → Str → Prop} {X : Cx} {ex : Str → Prop} {G : Gm}
theorem chkTs_each (G : Gm) : ∀ {ts : List Tg} {es : List Expr} (env : Env), chkTs G ts es = true → (assignEach es env).length = ts.length ∧ (assignEach es env).findIdx? (·.1) = none
 | [], [], _, _ => ⟨rfl, rfl⟩
 | t :: ts, e :: es, env, h => by
  have h' : (notStar e && chkT G t e && chkTs G ts es) = true := h
  simp only [Bool.and_eq_true] at h'
  obtain ⟨h1, h2⟩ := chkTs_each G (ts := ts) (es := es) env h'.2
  rw [asgEach_cons h'.1.1]
  refine ⟨by rw [List.length_cons, h1, List.length_cons], ?_⟩
  rw [List.findIdx?_cons, if_neg (by simp), h2]
  rfl
 | [], _ :: _, _, h => by cases h
 | _ :: _, [], _, h => by cases h
mutual
theorem pgT (g : GOk Z CX cl xp X ex G) : ∀ (t : Tg) (e : Expr), chkT G t e = true → PG X e (gT X.K t)
 | .nm i, e, h => by
  cases e with
  | Name x pos =>
   have h' : (G.N[i]? == some x && (G.kd[i]? == some .local || (G.df && G.kd[i]? == some .cell))) = true := h
   rw [Bool.and_eq_true, Bool.or_eq_true, Bool.and_eq_true] at h'
   obtain ⟨h1, h2⟩ := h'
   have hx : G.N[i]? = some x := eq_of_beq h1
   have hk := g.kd i x hx
   refine pg_name (by rw [g.N]; exact g.nod) (by rw [g.N]; exact hx) ?_ ?_
   ·rcases h2 with h2 | h2
    ·exact .inl (hk.trans (eq_of_beq h2))
    ·exact .inr (hk.trans (eq_of_beq h2.2))
   ·rcases h2 with h2 | h2
    ·exact .inr (hk.trans (eq_of_beq h2))
    ·exact .inl (g.df h2.1 x)
  | _ => cases h
 | .tp ts, e, h => by
  cases e with
  | Tuple es k pos =>
   have h' : chkTs G ts es = true := h
   obtain ⟨h1, h2⟩ := chkTs_each G X.env h'
   exact pg_seq g.calm (pgTs g ts es h') h1 h2
  | _ => cases h
theorem pgTs (g : GOk Z CX cl xp X ex G) : ∀ (ts : List Tg) (es : List Expr), chkTs G ts es = true → PGs X es (gTs X.K ts)
 | [], [], _ => pgs_nil
 | t :: ts, e :: es, h => by
  have h' : (notStar e && chkT G t e && chkTs G ts es) = true := h
  simp only [Bool.and_eq_true] at h'
  exact pgs_cons (pgT g t e h'.1.2) (pgTs g ts es h'.2) (by rw [asgEach_cons h'.1.1]; rfl)
 | [], _ :: _, h => by cases h
 | _ :: _, [], h => by cases h
end
end
noncomputable def SlA (K : PySem.W.Frag) (S : Addr → Prop) (H : Hp) (σ : St) (τ : Ev) : Prop := τ.length = σ.length ∧ ∀ i d, slotD τ i = some d → ∃ v, σ[i]? = some (some v) ∧ HRep K S H v d
theorem slotD_set {τ : Ev} {i j : Nat} {o : Option D} : slotD (τ.set i o) j = if i = j ∧ i < τ.length then o else slotD τ j := by
 unfold slotD
 rw [List.getElem?_set]
 by_cases h : i = j
 ·subst h
  by_cases h2 : i < τ.length
  ·simp [h2]
  ·rw [if_pos rfl, if_neg h2, if_neg (by omega)]
   rw [List.getElem?_eq_none (by omega)]
 ·rw [if_neg h, if_neg (by omega)]
section
variable {K : PySem.W.Frag} {S : Addr → Prop} {H : Hp} {ex : Str → Prop}
mutual
theorem gT_read : ∀ (t : Tg) {σ : St} {τ : Ev} {v : V} {d : D} {Kt : Ev → Prop} {Q : St → Hp → Prop}, SlA K S H σ τ → HRep K S H v d → PO' ex (setT t d τ) Kt →
  (∀ τ' σ', SlA K S H σ' τ' → σ'.length = σ.length → (∀ j, j ∉ tgs t → σ'[j]? = σ[j]?) → Kt τ' → Q σ' H) → gT K t v σ H Q
 | .nm i, σ, τ, v, d, Kt, Q, hs, m, h, k => by
  refine k (τ.set i (some d)) (σ.set i (some v)) ⟨by rw [List.length_set, List.length_set, hs.1], fun j e z => ?_⟩ (by rw [List.length_set]) (fun j hj => ?_) h.ok
  ·rw [slotD_set] at z
   by_cases q : i = j ∧ i < τ.length
   ·rw [if_pos q] at z
    obtain ⟨rfl, q⟩ := q
    cases z
    exact ⟨v, by rw [List.getElem?_set_self (by rw [← hs.1]; exact q)], m⟩
   ·rw [if_neg q] at z
    obtain ⟨w, h1, h2⟩ := hs.2 j e z
    refine ⟨w, ?_, h2⟩
    by_cases q2 : i = j
    ·subst q2
     exfalso
     have : i < σ.length := by
      have := (List.getElem?_eq_some_iff.mp h1).1
      exact this
     exact q ⟨rfl, by rw [hs.1]; exact this⟩
    ·rw [List.getElem?_set_ne q2]; exact h1
  ·have : i ≠ j := fun z => hj (by subst z; simp [tgs])
   rw [List.getElem?_set_ne this]
 | .tp ts, σ, τ, v, d, Kt, Q, hs, m, h, k => by
  cases d with
  | tup ds =>
   obtain ⟨a, xs, rfl, q, ms⟩ := m.tupR
   obtain ⟨g, h⟩ := PO'.grd h
   have g' : ds.length = ts.length := of_decide_eq_true g
   exact ⟨a, xs, rfl, .inl q, by rw [ms.length, g'], gTs_read ts hs ms h k⟩
  | lst o ds =>
   obtain ⟨a, xs, rfl, q, ms⟩ := m.lstR
   obtain ⟨g, h⟩ := PO'.grd h
   have g' : ds.length = ts.length := of_decide_eq_true g
   exact ⟨a, xs, rfl, .inr q, by rw [ms.length, g'], gTs_read ts hs ms h k⟩
  | _ => exact h.no.elim
theorem gTs_read : ∀ (ts : List Tg) {σ : St} {τ : Ev} {vs : List V} {ds : List D} {Kt : Ev → Prop} {Q : St → Hp → Prop}, SlA K S H σ τ → HReps K S H vs ds → PO' ex (setTs ts ds τ) Kt →
  (∀ τ' σ', SlA K S H σ' τ' → σ'.length = σ.length → (∀ j, j ∉ tgss ts → σ'[j]? = σ[j]?) → Kt τ' → Q σ' H) → gTs K ts vs σ H Q
 | [], σ, τ, vs, ds, Kt, Q, hs, m, h, k => by
  cases m with
  | nil => exact ⟨rfl, k τ σ hs rfl (fun _ _ => rfl) h.ok⟩
  | cons _ _ => exact h.no.elim
 | t :: ts, σ, τ, vs, ds, Kt, Q, hs, m, h, k => by
  cases m with
  | nil => exact h.no.elim
  | cons m1 m2 =>
   refine ⟨_, _, rfl, gT_read t hs m1 (PO'.bnd h) fun τ' σ' hs' hn hk h' => ?_⟩
   refine gTs_read ts hs' m2 h' fun τ'' σ'' hs'' hn' hk' h'' => k τ'' σ'' hs'' (hn'.trans hn) (fun j hj => ?_) h''
   have hj' : j ∉ tgs t ∧ j ∉ tgss ts := by
    constructor <;> (intro z; apply hj; simp [tgss, z])
   rw [hk' j hj'.2, hk j hj'.1]
end
end
section
variable {K : PySem.W.Frag} {S S' : Addr → Prop} {H H' : Hp} {J : It} {ds : List D}
theorem Wlk.step (hl : ∀ a xs, S a → Rd H a (.lst xs) → S' a ∧ Rd H' a (.lst xs)) (ht : ∀ a xs, SqT K H a xs → SqT K H' a xs) (h : Wlk K S H J ds) : Wlk K S' H' J ds := by
 cases h with
 | lst h0 h1 h2 => exact .lst (hl _ _ h0 h1).1 (hl _ _ h0 h1).2 (h2.step hl ht)
 | lstK h1 h2 => exact .lstK h1 (h2.step hl ht)
 | tup h1 h2 => exact .tup (ht _ _ h1) (h2.step hl ht)
 | rng lo hi => exact .rng lo hi
 | str x => exact .str x
theorem Wlk.mono (h : Wlk K S H J ds) (hS : ∀ a, S a → S' a) (e : Same H H') : Wlk K S' H' J ds := h.step (fun a xs s r => ⟨hS a s, e.rd r⟩) fun a xs s => e.seqT s
theorem charsD_len (x : Str) : (charsD x).length = x.cps.size := by unfold charsD; simp
theorem rngD_len (a b : Int) : (rngD a b).length = (b - a).toNat := by unfold rngD; simp
theorem Wlk.stop (h : Wlk K S H J ds) {i : Nat} (hi : ds.length ≤ i) : J.stop i H := by
 cases h with
 | lst h0 h1 h2 => exact ⟨_, .inl h1, by rw [h2.length]; exact hi⟩
 | lstK h1 h2 => exact ⟨_, h1.sq, by rw [h2.length]; exact hi⟩
 | tup h1 h2 => exact ⟨_, h1, by rw [h2.length]; exact hi⟩
 | rng lo hi' => rw [rngD_len] at hi; exact hi
 | str x => rw [charsD_len] at hi; exact hi
theorem Wlk.go (h : Wlk K S H J ds) {i : Nat} (hi : i < ds.length) : J.go i H := by
 cases h with
 | lst h0 h1 h2 => obtain ⟨v, hv, _⟩ := h2.get (i := i) (d := ds[i]) (by simp [hi]); exact ⟨_, v, .inl h1, hv⟩
 | lstK h1 h2 => obtain ⟨v, hv, _⟩ := h2.get (i := i) (d := ds[i]) (by simp [hi]); exact ⟨_, v, h1.sq, hv⟩
 | tup h1 h2 => obtain ⟨v, hv, _⟩ := h2.get (i := i) (d := ds[i]) (by simp [hi]); exact ⟨_, v, h1, hv⟩
 | rng lo hi' => rw [rngD_len] at hi; exact hi
 | str x => rw [charsD_len] at hi; exact hi
theorem Wlk.yld (h : Wlk K S H J ds) {i : Nat} {x : V} {H2 : Hp} (y : J.yld i H x H2) {d : D} (hd : ds[i]? = some d) : H2 = H ∧ HRep K S H x d := by
 have fin : ∀ {xs : List V}, HReps K S H xs ds → xs[i]? = some x → HRep K S H x d := fun m e => by
  obtain ⟨d', e', m'⟩ := m.getV e
  rw [hd] at e'; cases e'; exact m'
 cases h with
 | lst h0 h1 h2 => exact ⟨y.1, fin h2 (y.2 _ (.inl h1))⟩
 | lstK h1 h2 => exact ⟨y.1, fin h2 (y.2 _ h1.sq)⟩
 | tup h1 h2 => exact ⟨y.1, fin h2 (y.2 _ h1)⟩
 | rng lo hi' =>
  obtain ⟨e1, e2⟩ := y
  refine ⟨e1, ?_⟩
  subst e2
  unfold rngD at hd
  rw [List.getElem?_map] at hd
  have hi : i < (hi' - lo).toNat := by
   have := (Option.map_eq_some_iff.mp hd)
   obtain ⟨z, h1, _⟩ := this
   have := (List.getElem?_eq_some_iff.mp h1).1
   simpa using this
  rw [List.getElem?_range hi] at hd
  cases hd
  exact .int _
 | str x =>
  obtain ⟨e1, c, h1, e2⟩ := y
  refine ⟨e1, ?_⟩
  subst e2
  unfold charsD at hd
  rw [List.getElem?_map] at hd
  have h2 : x.cps.toList[i]? = some c := by simpa using h1
  rw [h2] at hd
  cases hd
  exact .str _
end
end L2
namespace L2
open PySem PySem.Spec PyProof.Rows PySem.SeqAt
section
variable {Z : Sg} {CX : CXT} {cl : Nat → List D → Res D} {xp : XK → Hp → Str → Prop} {X : Cx} {ex : Str → Prop} {G : Gm} {K : PySem.W.Frag} {S : Addr → Prop} {H H1 : Hp} {σ : St} {τ : Ev}
theorem riAt {is : List Nat} {f : Ev → Res (List D)} {Kt : List D → Prop} {R : It → Hp → Prop} (e : Same H H1) (hs : Slots K S H σ τ is) (h : PO' ex (f τ) Kt) (k : ∀ ds J H2, Same H H2 → Same H1 H2 → Wlk K (nw S H) H2 J ds → Kt ds → R J H2) : RI K ex is f σ H1 R :=
 ⟨nw S H, τ, hs.go e, h.mono fun x hx J H2 e2 m => k x J H2 (e.trans e2) e2 (m.mono (nw_nw e) (.refl _)) hx⟩
theorem it_list {tg : Expr} {pins : List (Addr × Obj)} {s : Shared} {a : Addr} {xs : List V} {R : It → Hp → Prop} (I : Inv X pins σ H s) (hq : SqL X.K H a xs) (q : R (Itl X.K a) H) : wpAny (model X.prog X.w) X.A (pyIter (.ref a)) (PIE X pins σ tg R) X.xe s := by
 obtain ⟨its, rv, p, hz⟩ := I.list hq
 refine wpAny_pyIter_list p.isList ?_
 refine ⟨s.heap.objs.size, [s.heap.objs.size], _, _, H, rfl, I.kept (t' := s.toks) fun b o e => Heap.get?_push_of_some _ e, turn_list a _, ⟨_, Heap.get?_push_size _ rfl, rfl, rfl⟩, fun b hb => ?_, q⟩
 have e : b = s.heap.objs.size := by simpa using hb
 subst e
 exact I.fpOk (Nat.le_refl _) (I.hok.fresh (Nat.le_refl _))
theorem it_tuple {tg : Expr} {pins : List (Addr × Obj)} {s : Shared} {a : Addr} {xs : List V} {R : It → Hp → Prop} (I : Inv X pins σ H s) (hq : SqT X.K H a xs) (q : R (Itt X.K a) H) : wpAny (model X.prog X.w) X.A (pyIter (.ref a)) (PIE X pins σ tg R) X.xe s := by
 obtain ⟨its, rv, p, hz⟩ := I.tuple hq
 refine wpAny_pyIter_tuple (show s.heap.IsTuple a its.toArray from p) ?_
 refine ⟨s.heap.objs.size, [s.heap.objs.size], _, _, H, rfl, I.kept (t' := s.toks) fun b o e => Heap.get?_push_of_some _ e, turn_tuple a _, ⟨_, Heap.get?_push_size _ rfl, rfl, rfl⟩, fun b hb => ?_, q⟩
 have e : b = s.heap.objs.size := by simpa using hb
 subst e
 exact I.fpOk (Nat.le_refl _) (I.hok.fresh (Nat.le_refl _))
theorem i_val {tg e : Expr} {va : List Nat} {fa : Ev → Res D} (ha : PE X e (RD X.K ex va fa)) : PI X tg e (RI X.K ex va fun τ => bnd (fa τ) itemsD) := by
 intro pins s σ H R I h
 obtain ⟨S, τ, hs, q⟩ := h
 refine thn (ha pins s σ H (fun v H' => ∃ d, Same H H' ∧ HRep X.K (nw S H) H' v d ∧ _) I (rdAt (.refl _) hs (PO'.bnd q) fun x v H1 e1 _ m1 q1 => ⟨x, e1, m1, q1⟩)) fun v s1 ⟨x, H1, I1, r1, d, e1, m1, q1⟩ => ?_
 cases d with
 | lst o ds =>
  cases m1 with
  | lst h0 h1 h2 => cases r1; exact it_list I1 (.inl h1) (q1.ok _ _ e1 (.lst h0 h1 h2))
  | lstK h1 h2 => cases r1; exact it_list I1 h1.sq (q1.ok _ _ e1 (.lstK h1 h2))
 | tup ds =>
  obtain ⟨a, xs, rfl, h1, h2⟩ := m1.tupR
  cases r1
  exact it_tuple I1 h1 (q1.ok _ _ e1 (.tup h1 h2))
 | str z =>
  cases m1.strR
  obtain ⟨t, rfl⟩ := r1
  obtain ⟨_, q1⟩ := PO'.grd q1
  exact it_str I1 (q1.ok _ _ e1 (.str z))
 | _ => exact q1.no.elim
theorem i_rng1 (g : GOk Z CX cl xp X ex G) {tg e : Expr} {p pos : Pos} {va : List Nat} {fa : Ev → Res D} (hg : G.gl.contains 15 = true) (hn : notStar e = true) (ha : PE X e (RD X.K ex va fa)) :
  PI X tg (.Call (.Name "range" p) [e] [] pos) (RI X.K ex va fun τ => bnd (fa τ) fun | .int i => grd (rngOk i) (.ok (rngD 0 i)) | _ => stk) := by
 obtain ⟨k1, k2, _, _⟩ := gb_of g (show bnames[15]? = some ("range" : Str) from rfl) hg
 refine piMono (pi_range1 k1 k2 (pa_cons ha pa_nil (star_cons hn _ _)) (star_cons hn _ _)) fun σ H Q ⟨S, τ, hs, q⟩ => ?_
 refine rdAt (.refl _) hs (PO'.bnd q) fun x v H1 e1 _ m1 q1 => ?_
 cases x with
 | int i =>
  cases m1.intR
  obtain ⟨gd, q1⟩ := PO'.grd q1
  have gd' : -(2 ^ 62) ≤ i ∧ i < 2 ^ 62 := of_decide_eq_true gd
  refine ⟨i, rfl, gd'.1, gd'.2, ?_⟩
  have := q1.ok _ _ e1 (.rng 0 i)
  rw [Int.sub_zero] at this
  exact this
 | _ => exact q1.no.elim
theorem i_rng2 (g : GOk Z CX cl xp X ex G) {tg e e' : Expr} {p pos : Pos} {va vb : List Nat} {fa fb : Ev → Res D} (hg : G.gl.contains 15 = true) (hn : notStar e = true) (hn' : notStar e' = true) (ha : PE X e (RD X.K ex va fa)) (hb : PE X e' (RD X.K ex vb fb)) :
  PI X tg (.Call (.Name "range" p) [e, e'] [] pos) (RI X.K ex (va ++ vb) fun τ => bnd (fa τ) fun x => bnd (fb τ) fun y => match x, y with | .int i, .int j => grd (rngOk i && rngOk j) (.ok (rngD i j)) | _, _ => stk) := by
 obtain ⟨k1, k2, _, _⟩ := gb_of g (show bnames[15]? = some ("range" : Str) from rfl) hg
 refine piMono (pi_range2 k1 k2 (pa_cons ha (pa_cons hb pa_nil (star_cons hn' _ _)) (star_cons hn _ _)) (by rw [star_cons hn, star_cons hn']; rfl) (star_cons hn' _ _)) fun σ H Q ⟨S, τ, hs, q⟩ => ?_
 refine rdAt (.refl _) hs.left (PO'.bnd q) fun x v H1 e1 _ m1 q1 => ?_
 refine rdAt e1 hs.right (PO'.bnd q1) fun y w H2 e2 e2' m2 q2 => ?_
 cases x with
 | int i =>
  cases y with
  | int j =>
   cases m1.intR; cases m2.intR
   obtain ⟨gd, q2⟩ := PO'.grd q2
   rw [Bool.and_eq_true] at gd
   have g1 : -(2 ^ 62) ≤ i ∧ i < 2 ^ 62 := of_decide_eq_true gd.1
   have g2 : -(2 ^ 62) ≤ j ∧ j < 2 ^ 62 := of_decide_eq_true gd.2
   exact ⟨i, j, rfl, ⟨g1.1, g1.2, g2.1, g2.2⟩, q2.ok _ _ e2 (.rng i j)⟩
  | _ => exact q2.no.elim
 | _ => cases y <;> exact q2.no.elim
theorem lookup_rl {env : Env} {x : Str} : ∀ (names : List (Str × NameKind)),
  (names.map fun (n, k) => if (k == NameKind.free && env.scope.kind == .function && env.kindOf n == some .cell) then (n, NameKind.cell) else (n, k)).lookup x =
   (names.lookup x).map fun k => if (k == NameKind.free && env.scope.kind == .function && env.kindOf x == some .cell) then NameKind.cell else k
 | [] => rfl
 | (n, k) :: r => by
  have ih := lookup_rl (env := env) (x := x) r
  rw [List.map_cons]
  show List.lookup x ((if (k == NameKind.free && env.scope.kind == .function && env.kindOf n == some .cell) = true then (n, NameKind.cell) else (n, k)) :: _) = _
  by_cases hc : (k == NameKind.free && env.scope.kind == .function && env.kindOf n == some .cell) = true
  ·rw [if_pos hc, List.lookup_cons, List.lookup_cons]
   cases hx : x == n with
   | true =>
    have e : x = n := eq_of_beq hx
    subst e
    show some NameKind.cell = some (if _ then _ else _)
    rw [if_pos hc]
   | false => exact ih
  ·rw [if_neg hc, List.lookup_cons, List.lookup_cons]
   cases hx : x == n with
   | true =>
    have e : x = n := eq_of_beq hx
    subst e
    show some k = some (if _ then _ else _)
    rw [if_neg hc]
   | false => exact ih
theorem closure_ex {scope : Scope} {env : Env} (h : ∀ y ∈ scope.names, y.2 = .free → ∃ c, env.cells.lookup y.1 = some c) :
  ∃ cl', closureFor scope env = pure cl' ∧ (∀ x c, cl'.lookup x = some c → env.cells.lookup x = some c) ∧ ∀ y ∈ scope.names, y.2 = .free → ∃ c, cl'.lookup y.1 = some c := by
 have key : ∀ (names : List (Str × NameKind)) (acc : List (Str × Addr)), (∀ y ∈ names, y.2 = .free → ∃ c, env.cells.lookup y.1 = some c) → (∀ x c, acc.lookup x = some c → env.cells.lookup x = some c) →
   ∃ cl', (forIn names acc fun (p : Str × NameKind) (r : List (Str × Addr)) => (if (p.2 == NameKind.free) = true then do let a ← cellOf env p.1; pure (ForInStep.yield ((p.1, a) :: r)) else pure (ForInStep.yield r) : Sem (ForInStep (List (Str × Addr))))) = pure cl' ∧ (∀ x c, cl'.lookup x = some c → env.cells.lookup x = some c) ∧
    (∀ y ∈ names, y.2 = .free → ∃ c, cl'.lookup y.1 = some c) ∧ ∀ x c, acc.lookup x = some c → ∃ c', cl'.lookup x = some c' := by
  intro names
  induction names with
  | nil => intro acc _ h2; exact ⟨acc, rfl, h2, fun y hy => absurd hy (by simp), fun x c e => ⟨c, e⟩⟩
  | cons p names ih =>
   intro acc h1 h2
   rw [List.forIn_cons]
   by_cases hp : p.2 = .free
   ·obtain ⟨c, hc⟩ := h1 p (by simp) hp
    have hb : (p.2 == NameKind.free) = true := by rw [hp]; rfl
    have h2' : ∀ x c', ((p.1, c) :: acc).lookup x = some c' → env.cells.lookup x = some c' := by
     intro x c' e
     rw [List.lookup_cons] at e
     cases hx : x == p.1 with
     | true =>
      rw [hx] at e
      cases e
      rw [eq_of_beq hx]
      exact hc
     | false => rw [hx] at e; exact h2 x c' e
    obtain ⟨cl', e1, e2, e3, e4⟩ := ih ((p.1, c) :: acc) (fun y hy => h1 y (List.mem_cons_of_mem _ hy)) h2'
    refine ⟨cl', ?_, e2, fun y hy hf => ?_, fun x c' e => ?_⟩
    ·rw [if_pos hb]
     have : cellOf env p.1 = pure c := by unfold cellOf; rw [hc]
     rw [this]
     exact e1
    ·rcases List.mem_cons.mp hy with rfl | hy
     ·exact e4 y.1 c (by rw [List.lookup_cons]; simp)
     ·exact e3 y hy hf
    ·rcases hx : x == p.1 with _ | _
     ·exact e4 x c' (by rw [List.lookup_cons, hx]; exact e)
     ·exact e4 x c (by rw [List.lookup_cons, hx])
   ·have hb : ¬ (p.2 == NameKind.free) = true := fun z => hp (eq_of_beq z)
    obtain ⟨cl', e1, e2, e3, e4⟩ := ih acc (fun y hy => h1 y (List.mem_cons_of_mem _ hy)) h2
    refine ⟨cl', ?_, e2, fun y hy hf => ?_, e4⟩
    ·rw [if_neg hb]
     exact e1
    ·rcases List.mem_cons.mp hy with rfl | hy
     ·exact absurd hf hp
     ·exact e3 y hy hf
 obtain ⟨cl', e1, e2, e3, _⟩ := key scope.names [] h (fun x c e => by cases e)
 refine ⟨cl', ?_, e2, e3⟩
 unfold closureFor
 exact congrArg (fun (m : Sem (List (Str × Addr))) => m >>= fun r => pure r) e1
structure ScOk (Z : Sg) (G : Gm) (scope : Scope) (G' : Gm) (fr : List Nat) : Prop where
 kind : scope.kind = .function
 df : G'.df = false
 kdl : G'.kd.length = G'.N.length
 nocell : ∀ y ∈ scope.names, y.2 ≠ .cell
 loc : ∀ y ∈ scope.names, y.2 = .local → scope.names.lookup y.1 = some .local
 fre : ∀ y ∈ scope.names, y.2 = .free → ∃ i : Nat, G.N[i]? = some y.1 ∧ (G.kd[i]? = some .cell ∨ G.kd[i]? = some .free)
 frs : ∀ (j : Nat) (i : Nat), fr[j]? = some i → ∃ x, G.N[i]? = some x ∧ G'.N[j]? = some x ∧ scope.names.lookup x = some .free ∧ (G.kd[i]? = some .cell ∨ G.kd[i]? = some .free) ∧ G'.kd[j]? = some (if (G.kd[i]? == some .cell) = true then .cell else .free)
 fle : fr.length ≤ G'.N.length
 tgs : ∀ (j : Nat) (x : Str), fr.length ≤ j → G'.N[j]? = some x → scope.names.lookup x = some .local ∧ G'.kd[j]? = some .local
 noD : ∀ x ∈ G'.N, (x == ("__debug__" : Str)) = false ∧ (x == ("__classdict__" : Str)) = false
 nod : G'.N.Nodup
 gl : ∀ n ∈ G'.gl, ∃ x, Z.name n = some x ∧ scope.names.lookup x = some .globalImplicit
theorem scOk_of {Z : Sg} {G : Gm} {scope : Scope} {G' : Gm} {fr : List Nat} (h : chkScope Z G scope G' fr = true) : ScOk Z G scope G' fr := by
 unfold chkScope at h
 simp only [Bool.and_eq_true] at h
 obtain ⟨⟨⟨⟨⟨⟨⟨⟨⟨⟨⟨h1, h2⟩, h3⟩, h4⟩, h5⟩, h6⟩, h7⟩, h8⟩, h9⟩, h10⟩, h11⟩, h12⟩ := h
 rw [List.all_eq_true] at h4 h5 h6 h7 h9 h10 h12
 refine ⟨eq_of_beq h1, by simpa using h2, eq_of_beq h3, fun y hy => by simpa using h4 y hy, fun y hy e => ?_, fun y hy e => ?_, fun j i e => ?_, of_decide_eq_true h8, fun j x hj e => ?_, fun x hx => by simpa using h10 x hx, of_decide_eq_true h11, fun n hn => ?_⟩
 ·have := h5 y hy
  rw [e] at this
  simpa using this
 ·have := h6 y hy
  rw [e] at this
  simp only [bne_self_eq_false, Bool.false_or, List.any_eq_true, Bool.and_eq_true, Bool.or_eq_true] at this
  obtain ⟨i, _, hi, hk⟩ := this
  exact ⟨i, eq_of_beq hi, hk.elim (fun z => .inl (eq_of_beq z)) fun z => .inr (eq_of_beq z)⟩
 ·have hj : j < fr.length := (List.getElem?_eq_some_iff.mp e).1
  have := h7 j (List.mem_range.mpr hj)
  simp only [e, Option.bind_some, Bool.and_eq_true, Bool.or_eq_true] at this
  obtain ⟨⟨⟨a1, a2⟩, a3⟩, a4⟩ := this
  have a1' := eq_of_beq a1
  have a2' := eq_of_beq a2
  cases q : G'.N[j]? with
  | none => rw [q] at a2'; cases a2'
  | some x =>
   rw [q] at a2' a1'
   exact ⟨x, a1'.symm, rfl, a2', a3.elim (fun z => .inl (eq_of_beq z)) fun z => .inr (eq_of_beq z), eq_of_beq a4⟩
 ·have hlt : j < G'.N.length := (List.getElem?_eq_some_iff.mp e).1
  have hm : j ∈ (List.range G'.N.length).drop fr.length := by
   rw [List.mem_drop_iff_getElem]
   exact ⟨j - fr.length, by simp; omega, by simp; omega⟩
  have := h9 j hm
  rw [e] at this
  simp only [Option.bind_some, Bool.and_eq_true] at this
  exact ⟨eq_of_beq this.1, eq_of_beq this.2⟩
 ·have := h12 n hn
  cases q : Z.name n with
  | none => rw [q] at this; cases this
  | some x =>
   rw [q] at this
   exact ⟨x, rfl, eq_of_beq this⟩
noncomputable def frN (G : Gm) (fr : List Nat) : List (Str × Nat) := fr.map fun i => (G.N.getD i "", i)
theorem frN_N {scope : Scope} {G' : Gm} {fr : List Nat} (s : ScOk Z G scope G' fr) : (frN G fr).map (·.1) ++ G'.N.drop fr.length = G'.N := by
 have e : (frN G fr).map (·.1) = G'.N.take fr.length := by
  apply List.ext_getElem?
  intro j
  unfold frN
  rw [List.map_map, List.getElem?_map, List.getElem?_take]
  cases q : fr[j]? with
  | none =>
   have : ¬ j < fr.length := by
    intro z
    rw [List.getElem?_eq_getElem z] at q
    cases q
   rw [if_neg this]
   rfl
  | some i =>
   have : j < fr.length := (List.getElem?_eq_some_iff.mp q).1
   rw [if_pos this]
   obtain ⟨x, h1, h2, _⟩ := s.frs j i q
   rw [h2]
   show some (G.N.getD i "") = some x
   rw [List.getD_eq_getElem?_getD, h1]
   rfl
 rw [e, List.take_append_drop]
theorem compSc_of (g : GOk Z CX cl xp X ex G) (ok : X.Ok) {scope : Scope} {G' : Gm} {fr : List Nat} (s : ScOk Z G scope G' fr) : ∃ cl', CompSc X scope cl' (frN G fr) (G'.N.drop fr.length) := by
 have hfree : ∀ y ∈ scope.names, y.2 = .free → ∃ c, X.env.cells.lookup y.1 = some c := fun y hy hf => by
  obtain ⟨i, h1, h2⟩ := s.fre y hy hf
  have hk := g.kd i y.1 h1
  exact ok.has y.1 (h2.elim (fun z => .inl (hk.trans z)) fun z => .inr (hk.trans z))
 obtain ⟨cl', e1, e2, e3⟩ := closure_ex hfree
 refine ⟨cl', e1, s.kind, s.nocell, s.loc, e2, fun x hx => ?_, fun p hp => ?_⟩
 ·have hl := lookup_rl (env := X.env) (x := x) scope.names
  have hx' : ((scope.names.lookup x).map fun k => if (k == NameKind.free && X.env.scope.kind == .function && X.env.kindOf x == some .cell) = true then NameKind.cell else k) = some .cell ∨
    ((scope.names.lookup x).map fun k => if (k == NameKind.free && X.env.scope.kind == .function && X.env.kindOf x == some .cell) = true then NameKind.cell else k) = some .free := by
   rcases hx with hx | hx
   ·exact .inl (hl.symm.trans hx)
   ·exact .inr (hl.symm.trans hx)
  cases q : scope.names.lookup x with
  | none => rw [q] at hx'; rcases hx' with z | z <;> cases z
  | some k =>
   have hm : (x, k) ∈ scope.names := PySem.mem_of_lookup q
   have hk : k = .free := by
    rw [q] at hx'
    rcases hx' with z | z
    ·have z' : (if (k == NameKind.free && X.env.scope.kind == .function && X.env.kindOf x == some .cell) = true then NameKind.cell else k) = .cell := Option.some.inj z
     split at z'
     ·rename_i hc
      simp only [Bool.and_eq_true] at hc
      exact eq_of_beq hc.1.1
     ·exact absurd z' (s.nocell _ hm)
    ·have z' : (if (k == NameKind.free && X.env.scope.kind == .function && X.env.kindOf x == some .cell) = true then NameKind.cell else k) = .free := Option.some.inj z
     split at z'
     ·cases z'
     ·exact z'
   exact e3 (x, k) hm hk
 ·unfold frN at hp
  rw [List.mem_map] at hp
  obtain ⟨i, hi, rfl⟩ := hp
  obtain ⟨j, hj⟩ := List.getElem?_of_mem hi
  obtain ⟨x, h1, h2, h3, h4, h5⟩ := s.frs j i hj
  have hn : G.N.getD i "" = x := by rw [List.getD_eq_getElem?_getD, h1]; rfl
  show X.N[i]? = some (G.N.getD i "") ∧ _
  rw [hn]
  have hk := g.kd i x h1
  refine ⟨by rw [g.N]; exact h1, h4.elim (fun z => .inl (hk.trans z)) fun z => .inr (hk.trans z), ?_⟩
  have hl := lookup_rl (env := X.env) (x := x) scope.names
  rw [h3] at hl
  have hl' : (relabel scope X.env).names.lookup x = some (if (NameKind.free == NameKind.free && X.env.scope.kind == .function && X.env.kindOf x == some .cell) = true then NameKind.cell else NameKind.free) := hl
  rw [hl']
  split
  ·exact .inl rfl
  ·exact .inr rfl
theorem gok_comp (g : GOk Z CX cl xp X ex G) {scope : Scope} {G' : Gm} {fr : List Nat} (s : ScOk Z G scope G' fr) (cl' : List (Str × Addr)) (C : Addr) (s3 : Shared) (H3 : Hp) (fp : List Addr) :
  GOk Z CX cl xp (cxC X scope cl' ((frN G fr).map (·.1) ++ G'.N.drop fr.length) C s3 H3 fp) (fun _ => False) G' where
 N := frN_N s
 nod := s.nod
 calm := g.calm
 fk := s.kind
 un := g.un
 own := PassesOwn.never
 kd := fun j x hx => by
  show (relabel scope X.env).names.lookup x = _
  have hl := lookup_rl (env := X.env) (x := x) scope.names
  by_cases hj : j < fr.length
  ·obtain ⟨y, h1, h2, h3, h4, h5⟩ := s.frs j fr[j] (by simp [hj])
   rw [hx] at h2
   cases h2
   rw [h3] at hl
   rw [h5]
   refine hl.trans ?_
   have hk := g.kd fr[j] x h1
   show some (if (NameKind.free == NameKind.free && X.env.scope.kind == .function && X.env.kindOf x == some .cell) = true then NameKind.cell else NameKind.free) = _
   rw [hk, g.fk]
   rfl
  ·obtain ⟨h1, h2⟩ := s.tgs j x (by omega) hx
   rw [h1] at hl
   rw [h2]
   exact hl
 noD := fun j x hx => s.noD x (List.mem_of_getElem? hx)
 gl := fun n hn x e => by
  obtain ⟨y, h1, h2⟩ := s.gl n hn
  rw [e] at h1
  cases h1
  show (relabel scope X.env).names.lookup x = _
  have hl := lookup_rl (env := X.env) (x := x) scope.names
  rw [h2] at hl
  exact hl
 nam := g.nam
 df := fun z => by rw [s.df] at z; cases z
 blt := g.blt
 cst := g.cst
 fns := g.fns
 exs := ⟨fun _ _ _ => False, fun pins σ H s e s' _ h => (g.exn _ _ _ _ _ h).elim, fun c _ z => z.elim⟩
 exn := g.exn
end
end L2
namespace L2
open PySem PySem.Spec PyProof.Rows PySem.SeqAt
noncomputable abbrev nox : Str → Prop := fun _ => False
theorem PO'.noX {α : Type} {ex : Str → Prop} {x : Res α} {k : α → Prop} (h : PO' ex (L2.noX x) k) : PO' nox x k := by
 cases x with
 | ok a => exact h
 | error e => exact False.elim h
section
variable {K : PySem.W.Frag} {S : Addr → Prop} {H : Hp} {σ : St} {τ : Ev} {ex : Str → Prop} {cl : Nat → List D → Res D} {G G' : Gm} {fr : List Nat}
noncomputable def blk (G' : Gm) (fr : List Nat) (τ : Ev) : Ev := fr.map (slotD τ) ++ List.replicate (G'.N.length - fr.length) none
theorem blk_len (hl : fr.length ≤ G'.N.length) : (blk G' fr τ).length = G'.N.length := by
 unfold blk
 rw [List.length_append, List.length_map, List.length_replicate]
 omega
theorem stC_len (Tg : List Str) (σ : St) : (stC (frN G fr) Tg σ).length = fr.length + Tg.length := by
 unfold stC frN
 rw [List.length_append, List.length_map, List.length_map, List.length_replicate]
theorem blk_slot {j : Nat} {d : D} (h : slotD (blk G' fr τ) j = some d) : ∃ i, fr[j]? = some i ∧ slotD τ i = some d := by
 unfold slotD blk at h
 by_cases hj : j < fr.length
 ·rw [List.getElem?_append_left (by simpa using hj), List.getElem?_map, List.getElem?_eq_getElem hj] at h
  exact ⟨fr[j], by simp [hj], h⟩
 ·rw [List.getElem?_append_right (by simpa using hj), List.getElem?_replicate] at h
  split at h <;> cases h
theorem blk_sla {vs : List Nat} {σ' : St} (hl : fr.length ≤ G'.N.length) (hs : Slots K S H σ τ (fr ++ vs)) (hn : σ'.length = G'.N.length) (hσ : ∀ j, j < fr.length → σ'[j]? = (stC (frN G fr) (G'.N.drop fr.length) σ)[j]?) : SlA K S H σ' (blk G' fr τ) := by
 refine ⟨by rw [blk_len hl, hn], fun j d h => ?_⟩
 obtain ⟨i, hi, hd⟩ := blk_slot h
 have hj : j < fr.length := (List.getElem?_eq_some_iff.mp hi).1
 obtain ⟨v, h1, h2⟩ := hs i (List.mem_append_left _ (List.mem_of_getElem? hi)) d hd
 refine ⟨v, ?_, h2⟩
 rw [hσ j hj]
 unfold stC frN
 rw [List.getElem?_append_left (by simpa using hj), List.getElem?_map, List.getElem?_map, hi]
 show some ((σ[i]?).join) = some (some v)
 rw [h1]
 rfl
noncomputable def bodyM (cl : Nat → List D → Res D) (T : Tg) (I : List IR) (E : IR) (τ0 : Ev) (x : D) : Res (Option D) := bnd (setT T x τ0) fun τ1 => bnd (evTs cl I τ1) fun r => if r = true then bnd (evR cl E τ1) fun d => .ok (some d) else .ok none
theorem comp_core {vs : List Nat} {fs : Ev → Res (List D)} {T : Tg} {I : List IR} {E : IR} {Kt : D → Prop} {Q : VK} (hl : fr.length ≤ G'.N.length) (ha : ∀ i ∈ tgs T, fr.length ≤ i) (hs : Slots K S H σ τ (fr ++ vs))
  (q : PO' ex (bnd (fs τ) fun its => grd (szLt its.length) (bnd (noX (fmapM (bodyM cl T I E (blk G' fr τ)) its)) fun ds => .ok (.lst true ds))) Kt)
  (fin : ∀ A ys ds H', Same H H' → H A = none → H' A = some (.lst ys) → HReps K (fun a => nw S H a ∧ a ≠ A) H' ys ds → Kt (.lst true ds) → Q (.ref A) H') :
  tCmpr (RI K ex vs fs) (stC (frN G fr) (G'.N.drop fr.length)) (gT K T) (RT K nox (varss I) (evTs cl I)) (RD K nox (vars E) (evR cl E)) σ H Q := by
 refine riAt (.refl _) hs.right (PO'.bnd q) fun its J H1 e1 _ w1 q1 A hA => ?_
 obtain ⟨gd, q1⟩ := PO'.grd q1
 have q2 := PO'.noX (PO'.bnd q1)
 have hsz := szLt_lt gd
 have hHA : H A = none := e1.free hA
 -- what is read stands apart from the new list
 have tight : ∀ a, nw S H a → H1 a ≠ none → nw S H a ∧ a ≠ A := fun a h1 h2 => ⟨h1, fun z => h2 (by rw [z]; exact hA)⟩
 have w2 : Wlk K (fun a => nw S H a ∧ a ≠ A) H1 J its := w1.step (fun a xs h r => ⟨tight a h r.some, r⟩) fun a xs h => h
 have hs2 : Slots K (fun a => nw S H a ∧ a ≠ A) H1 σ τ (fr ++ vs) := fun i hi d z => by
  obtain ⟨v, h1, h2⟩ := (hs.go e1) i hi d z
  exact ⟨v, h1, h2.step (fun a xs h r => ⟨tight a h r.some, r⟩) fun a xs h => h⟩
 refine ⟨fun i m σ' H' => m = its.length - i ∧ i ≤ its.length ∧ ∃ ys acc, H' A = some (.lst ys) ∧ HReps K (fun a => nw S H a ∧ a ≠ A) H' ys acc ∧ ys.length ≤ i ∧ Same H1 H' ∧ σ'.length = G'.N.length ∧
   (∀ j, j < fr.length → σ'[j]? = (stC (frN G fr) (G'.N.drop fr.length) σ)[j]?) ∧ PO' nox (fmapM (bodyM cl T I E (blk G' fr τ)) (its.drop i)) fun ds => Kt (.lst true (acc ++ ds)), ⟨its.length, by simp, Nat.zero_le _, [], [], upd_same, .nil, Nat.le_refl _, .upd hA, ?_, fun _ _ => rfl, ?_⟩, ?_⟩
 ·rw [stC_len, List.length_drop]; omega
 ·rw [List.drop_zero]
  exact q2.mono fun ds z => z.ok
 ·rintro i m σ' H' ⟨rfl, hi, ys, acc, hy, my, ly, e2, hn, hσ, q3⟩
  by_cases hlt : i < its.length
  ·refine .inr ⟨(w2.mono (fun _ z => z) e2).go hlt, fun x H2 hy2 => ?_⟩
   obtain ⟨eH, mx⟩ := (w2.mono (fun _ z => z) e2).yld hy2 (d := its[i]) (by simp [hlt])
   subst eH
   have hd : its.drop i = its[i] :: its.drop (i + 1) := List.drop_eq_getElem_cons hlt
   rw [hd] at q3
   have q4 := PO'.bnd q3
   have q5 : PO' nox (setT T its[i] (blk G' fr τ)) _ := PO'.bnd q4
   have sl : SlA K (fun a => nw S H a ∧ a ≠ A) H2 σ' (blk G' fr τ) := blk_sla (G := G) (vs := vs) (σ := σ) hl (fun i hi d z => by
    obtain ⟨v, h1, h2⟩ := hs2 i hi d z
    exact ⟨v, h1, h2.mono (fun _ z => z) e2⟩) hn hσ
   refine gT_read T sl mx q5 fun τ' σ2 sl2 hn' hk q6 => ?_
   have hn2 : σ2.length = G'.N.length := hn'.trans hn
   have hσ2 : ∀ j, j < fr.length → σ2[j]? = (stC (frN G fr) (G'.N.drop fr.length) σ)[j]? := fun j hj => by
    rw [hk j (fun z => by have := ha j z; omega)]
    exact hσ j hj
   have sl3 : ∀ is, Slots K (fun a => nw S H a ∧ a ≠ A) H2 σ2 τ' is := fun is i _ d z => sl2.2 i d z
   refine rtAt (.refl _) (sl3 _) (PO'.bnd q6) fun r H4 e4 _ q7 => ?_
   cases r with
   | false =>
    rw [if_neg Bool.false_ne_true] at q7 ⊢
    have q8 : PO' nox (fmapM (bodyM cl T I E (blk G' fr τ)) (its.drop (i + 1))) fun ds => Kt (.lst true (acc ++ ds)) := q7
    refine ⟨its.length - (i + 1), by omega, rfl, hlt, ys, acc, e4 _ _ hy, my.mono (fun _ z => z) e4, by omega, e2.trans e4, hn2, hσ2, q8⟩
   | true =>
    rw [if_pos rfl] at q7 ⊢
    refine rdAt e4 (sl3 _) (PO'.bnd q7) fun d v H5 e5 e5' m5 q8 => ?_
    have q9 : PO' nox (bnd (fmapM (bodyM cl T I E (blk G' fr τ)) (its.drop (i + 1))) fun r => .ok (d :: r)) fun ds => Kt (.lst true (acc ++ ds)) := q8
    have q10 := PO'.bnd q9
    have hy5 : H5 A = some (.lst ys) := e5 _ _ hy
    refine ⟨ys, hy5, by omega, its.length - (i + 1), by omega, rfl, hlt, ys ++ [v], acc ++ [d], upd_same, ?_, by rw [List.length_append, List.length_singleton]; omega, ?_, hn2, hσ2, ?_⟩
    ·have hl5 : ∀ a xs, (nw S H a ∧ a ≠ A) → Rd H5 a (.lst xs) → (nw S H a ∧ a ≠ A) ∧ Rd (upd H5 A (.lst (ys ++ [v]))) a (.lst xs) := fun a xs h r => by
      refine ⟨h, ?_⟩
      unfold Rd
      rw [upd_ne h.2]
      exact r
     have ht5 : ∀ a xs, SqT K H5 a xs → SqT K (upd H5 A (.lst (ys ++ [v]))) a xs := fun a xs h => by
      rcases h with h | h
      ·have : a ≠ A := by
        rintro rfl
        rcases h with h | ⟨o, h⟩ <;> (rw [hy5] at h; cases h)
       refine .inl ?_
       unfold Rd
       rw [upd_ne this]
       exact h
      ·exact .inr h
     have m6 : HRep K (fun a => nw S H a ∧ a ≠ A) H5 v d := m5.step (fun a xs h r => ⟨by
      rcases h with h | h
      ·exact h
      ·have : H a = none := e1.free (e2.free h)
       exact ⟨.inr this, fun z => by rw [z, hy] at h; cases h⟩, r⟩) fun a xs h => h
     exact (((my.mono (fun _ z => z) e5).step hl5 ht5)).append (.cons (m6.step hl5 ht5) .nil)
    ·exact fun b o hb => by
      have : b ≠ A := by rintro rfl; rw [hA] at hb; cases hb
      rw [upd_ne this]
      exact e5 _ _ (e2 _ _ hb)
    ·refine q10.mono fun ds z => ?_
     have z' := z.ok
     rw [List.append_assoc]
     exact z'
  ·have e : i = its.length := by omega
   subst e
   refine .inl ⟨(w2.mono (fun _ z => z) e2).stop (Nat.le_refl _), ?_⟩
   rw [List.drop_length] at q3
   have q4 := q3.ok
   rw [List.append_nil] at q4
   exact fin A ys acc H' (e1.trans e2) hHA hy my q4
end
section
variable {Z : Sg} {CX : CXT} {cl : Nat → List D → Res D} {xp : XK → Hp → Str → Prop} {X : Cx} {ex : Str → Prop} {G G' : Gm} {fr : List Nat}
theorem evR_comp {T : Tg} {s : Sr} {I : List IR} {E : IR} : evR cl (.comp G' fr T s I E) = fun τ => bnd (evSr cl s τ) fun its => grd (szLt its.length) (bnd (noX (fmapM (bodyM cl T I E (blk G' fr τ)) its)) fun ds => .ok (.lst true ds)) := rfl
theorem s_comp (g : GOk Z CX cl xp X ex G) {scope : Scope} {tg iter elt : Expr} {ifs : List Expr} {pos : Pos} {T : Tg} {s : Sr} {I : List IR} {E : IR} (hs : ScOk Z G scope G' fr) (hT : chkT G' T tg = true) (ha : ∀ i ∈ tgs T, fr.length ≤ i)
  (hi : PI X tg iter (RI X.K ex (varsS s) (evSr cl s))) (ht : ∀ X', GOk Z CX cl xp X' nox G' → PTs X' ifs (RT X'.K nox (varss I) (evTs cl I))) (he : ∀ X', GOk Z CX cl xp X' nox G' → PE X' elt (RD X'.K nox (vars E) (evR cl E)))
  (hf : ∀ x, foldedSetIterable iter X.env x = pure x) : PE X (.ListComp elt [⟨tg, iter, ifs, 0⟩] scope pos) (RD X.K ex (fr ++ varsS s) (evR cl (.comp G' fr T s I E))) := by
 intro pins s' σ H Q Iv h
 obtain ⟨cl', S⟩ := compSc_of g Iv.ok hs
 have p := pe_comp (pos := pos) (elt := elt) (ifs := ifs) (tg := tg) (g := gT X.K T) (tt := RT X.K nox (varss I) (evTs cl I)) (te := RD X.K nox (vars E) (evR cl E)) g.calm S hi (fun C s H fp => pgT (gok_comp g hs cl' C s H fp) T tg hT) (fun C s H fp => ht _ (gok_comp g hs cl' C s H fp)) (fun C s H fp => he _ (gok_comp g hs cl' C s H fp)) hf
 refine p pins s' σ H Q Iv ?_
 obtain ⟨S0, τ, hsl, q⟩ := h
 rw [evR_comp] at q
 exact comp_core hs.fle ha hsl q fun A ys ds H' e hA hA' m k => k _ _ e (.lst (.inr hA) (.inl hA') (m.mono (fun _ z => z.1) (.refl _)))
end
end L2
namespace L2
open PySem PySem.Spec PyProof.Rows PySem.SeqAt
section
variable {Z : Sg} {CX : CXT} {cl : Nat → List D → Res D} {xp : XK → Hp → Str → Prop}
theorem folded_of {e : Expr} {a : IR} {G : Gm} (h : chk Z G a e = true) (env : Env) (x : Value) : foldedSetIterable e env x = pure x := by
 cases e <;> first | rfl | (cases a <;> cases h)
theorem folded_src {e : Expr} {a : Sr} {G : Gm} (h : chkSr Z G a e = true) (env : Env) (x : Value) : foldedSetIterable e env x = pure x := by
 cases a with
 | val a => exact folded_of (show chk Z G a e = true from h) env x
 | _ => cases e <;> first | rfl | cases h
theorem both {X : Cx} {ex : Str → Prop} {e : Expr} {is : List Nat} {f : Ev → Res D} (h : PE X e (RD X.K ex is f)) (he : ∀ whole, isTrue e X.env whole = (do let v ← whole; standAt e.pos; holding [v] (truthy v)) := by intro _; rfl) :
  PE X e (RD X.K ex is f) ∧ PT X e (RT X.K ex is fun τ => bnd (f τ) truD) := ⟨h, pt_of h he⟩
mutual
theorem snd : ∀ (a : IR) (X : Cx) (ex : Str → Prop) (G : Gm) (e : Expr), GOk Z CX cl xp X ex G → chk Z G a e = true → PE X e (RD X.K ex (vars a) (evR cl a)) ∧ PT X e (RT X.K ex (vars a) fun τ => bnd (evR cl a τ) truD)
 | .c d, X, ex, G, e, g, h => by
  cases e with
  | Constant k j pos => exact both (s_c h)
  | _ => first | exact no_h h | cases h
 | .g n d, X, ex, G, e, g, h => by
  cases e with
  | Name x pos =>
   have h' : (chkG Z G n x && Z.kst.any fun p => p.1 == n && dbeq p.2 d) = true := h
   rw [Bool.and_eq_true] at h'
   exact both (s_g g h'.1 h'.2)
  | _ => first | exact no_h h | cases h
 | .v i, X, ex, G, e, g, h => by
  cases e with
  | Name x pos => exact both (s_v g h)
  | _ => first | exact no_h h | cases h
 | .bin op a b, X, ex, G, e, g, h => by
  cases e with
  | BinOp l o r pos =>
   have h' : (o == bop op && chk Z G a l && chk Z G b r) = true := h
   simp only [Bool.and_eq_true] at h'
   have e1 : o = bop op := eq_of_beq h'.1.1
   subst e1
   exact both (s_bin (snd a X ex G l g h'.1.2).1 (snd b X ex G r g h'.2).1)
  | _ => first | exact no_h h | cases h
 | .neg a, X, ex, G, e, g, h => by cases e <;> exact no_h h
 | .cmp op a b, X, ex, G, e, g, h => by
  cases e with
  | Compare l os rs pos =>
   match os, rs, h with
   | [o], [r], h =>
    have h' : (o == cop op && chk Z G a l && chk Z G b r && !behindInMarks o r) = true := h
    simp only [Bool.and_eq_true] at h'
    have e1 : o = cop op := eq_of_beq h'.1.1.1
    subst e1
    exact s_cmp g (snd a X ex G l g h'.1.1.2).1 (snd b X ex G r g h'.1.2).1 (by simpa using h'.2)
   | [], _, h => first | exact no_h h | cases h
   | [_], [], h => first | exact no_h h | cases h
   | [_], _ :: _ :: _, h => first | exact no_h h | cases h
   | _ :: _ :: _, _, h => first | exact no_h h | cases h
  | _ => first | exact no_h h | cases h
 | .chain op op' a b c, X, ex, G, e, g, h => by cases e <;> exact no_h h
 | .and_ a b, X, ex, G, e, g, h => by
  cases e with
  | BoolOp o es pos =>
   match o, es, h with
   | .And, [l, r], h =>
    have h' : (chk Z G a l && chk Z G b r) = true := h
    rw [Bool.and_eq_true] at h'
    obtain ⟨pa, ta⟩ := snd a X ex G l g h'.1
    obtain ⟨pb, tb⟩ := snd b X ex G r g h'.2
    exact ⟨s_and pa (pe_one pb), t_and ta (pw_and1 tb)⟩
   | .And, l :: r :: r' :: rest, h =>
    have h' : (chk Z G a l && chk Z G b (.BoolOp .And (r :: r' :: rest) pos)) = true := h
    rw [Bool.and_eq_true] at h'
    obtain ⟨pa, ta⟩ := snd a X ex G l g h'.1
    obtain ⟨pb, tb⟩ := snd b X ex G _ g h'.2
    exact ⟨s_and pa pb, t_and ta (pt_any (e := l) tb)⟩
   | .And, [], h => first | exact no_h h | cases h
   | .And, [_], h => first | exact no_h h | cases h
   | .Or, _, h => first | exact no_h h | cases h
  | _ => first | exact no_h h | cases h
 | .or_ a b, X, ex, G, e, g, h => by
  cases e with
  | BoolOp o es pos =>
   match o, es, h with
   | .Or, [l, r], h =>
    have h' : (chk Z G a l && chk Z G b r) = true := h
    rw [Bool.and_eq_true] at h'
    obtain ⟨pa, ta⟩ := snd a X ex G l g h'.1
    obtain ⟨pb, tb⟩ := snd b X ex G r g h'.2
    exact ⟨s_or pa (pe_one pb), t_or ta (pw_or1 tb)⟩
   | .Or, l :: r :: r' :: rest, h =>
    have h' : (chk Z G a l && chk Z G b (.BoolOp .Or (r :: r' :: rest) pos)) = true := h
    rw [Bool.and_eq_true] at h'
    obtain ⟨pa, ta⟩ := snd a X ex G l g h'.1
    obtain ⟨pb, tb⟩ := snd b X ex G _ g h'.2
    exact ⟨s_or pa pb, t_or ta (pt_any (e := l) tb)⟩
   | .Or, [], h => first | exact no_h h | cases h
   | .Or, [_], h => first | exact no_h h | cases h
   | .And, _, h => first | exact no_h h | cases h
  | _ => first | exact no_h h | cases h
 | .not_ a, X, ex, G, e, g, h => by
  cases e with
  | UnaryOp o l pos =>
   cases o with
   | Not =>
    obtain ⟨pa, ta⟩ := snd a X ex G l g h
    exact s_not pa ta
   | _ => first | exact no_h h | cases h
  | _ => first | exact no_h h | cases h
 | .ite t a b, X, ex, G, e, g, h => by cases e <;> exact no_h h
 | .tup es, X, ex, G, e, g, h => by
  cases e with
  | Tuple l n pos => exact both (s_tup (snds es X ex G l g h))
  | _ => first | exact no_h h | cases h
 | .lst es, X, ex, G, e, g, h => by
  cases e with
  | List l pos => exact both (s_lst (snds es X ex G l g h))
  | _ => first | exact no_h h | cases h
 | .idx a i, X, ex, G, e, g, h => by
  cases e with
  | Subscript o s pos =>
   have h' : (notSlice s && chk Z G a o && chk Z G i s) = true := by
    cases s <;> first | exact h | (rename_i l u st p; cases st <;> exact h)
   simp only [Bool.and_eq_true] at h'
   exact both (s_idx (snd a X ex G o g h'.1.2).1 (snd i X ex G s g h'.2).1 h'.1.1)
  | _ => first | exact no_h h | cases h
 | .sl a lo hi, X, ex, G, e, g, h => by
  cases e with
  | Subscript o s pos =>
   match s, h with
   | .Slice l u none p, h =>
    have h' : (chk Z G a o && chkO Z G lo l && chkO Z G hi u) = true := h
    simp only [Bool.and_eq_true] at h'
    exact both (s_sl (snd a X ex G o g h'.1.1).1 (sndO lo X ex G l g h'.1.2) (sndO hi X ex G u g h'.2))
   | .Slice _ _ (some _) _, h => first | exact no_h h | cases h
   | .BoolOp .., h => first | exact no_h h | cases h
   | .NamedExpr .., h => first | exact no_h h | cases h
   | .BinOp .., h => first | exact no_h h | cases h
   | .UnaryOp .., h => first | exact no_h h | cases h
   | .Lambda .., h => first | exact no_h h | cases h
   | .IfExp .., h => first | exact no_h h | cases h
   | .Dict .., h => first | exact no_h h | cases h
   | .Set .., h => first | exact no_h h | cases h
   | .ListComp .., h => first | exact no_h h | cases h
   | .SetComp .., h => first | exact no_h h | cases h
   | .DictComp .., h => first | exact no_h h | cases h
   | .GeneratorExp .., h => first | exact no_h h | cases h
   | .Await .., h => first | exact no_h h | cases h
   | .Yield .., h => first | exact no_h h | cases h
   | .YieldFrom .., h => first | exact no_h h | cases h
   | .Compare .., h => first | exact no_h h | cases h
   | .Call .., h => first | exact no_h h | cases h
   | .FormattedValue .., h => first | exact no_h h | cases h
   | .JoinedStr .., h => first | exact no_h h | cases h
   | .Constant .., h => first | exact no_h h | cases h
   | .Attribute .., h => first | exact no_h h | cases h
   | .Subscript .., h => first | exact no_h h | cases h
   | .Starred .., h => first | exact no_h h | cases h
   | .Name .., h => first | exact no_h h | cases h
   | .List .., h => first | exact no_h h | cases h
   | .Tuple .., h => first | exact no_h h | cases h
  | _ => first | exact no_h h | cases h
 | .call f es, X, ex, G, e, g, h => by
  cases e with
  | Call fn args kws pos =>
   cases fn with
   | Name x p =>
    cases kws with
    | nil =>
     have h' : (chkG Z G f x && Z.fns.contains f && chks Z G es args) = true := h
     simp only [Bool.and_eq_true] at h'
     exact both (s_call g h'.1.1 h'.1.2 h'.2 (snds es X ex G args g h'.2))
    | cons _ _ => first | exact no_h h | cases h
   | _ => first | exact no_h h | cases h
  | _ => first | exact no_h h | cases h
 | .bi f es, X, ex, G, e, g, h => by
  cases e with
  | Call fn args kws pos =>
   cases fn with
   | Name x p =>
    cases kws with
    | nil =>
     cases args with
     | nil => first | exact no_h h | cases h
     | cons a args =>
      have h' : (x == biName f && G.gl.contains (biNum f) && chks Z G es (a :: args)) = true := h
      simp only [Bool.and_eq_true] at h'
      have e1 : x = biName f := eq_of_beq h'.1.1
      subst e1
      exact both (s_bi g h'.1.2 h'.2 (snds es X ex G _ g h'.2))
    | cons _ _ => cases args <;> first | exact no_h h | cases h
   | _ => first | exact no_h h | cases h
  | _ => first | exact no_h h | cases h
 | .lrev a, X, ex, G, e, g, h => by cases e <;> exact no_h h
 | .isi a k, X, ex, G, e, g, h => by
  cases e with
  | Call fn args kws pos =>
   cases fn with
   | Name x p =>
    match args, kws, h with
    | [o, .Name y p'], [], h =>
     have h' : (x == "isinstance" && G.gl.contains 14 && y == kdName k && G.gl.contains (kdNum k) && notStar o && chk Z G a o) = true := h
     simp only [Bool.and_eq_true] at h'
     have e1 : x = "isinstance" := eq_of_beq h'.1.1.1.1.1
     have e2 : y = kdName k := eq_of_beq h'.1.1.1.2
     subst e1 e2
     exact both (s_isi g h'.1.1.1.1.2 h'.1.1.2 h'.1.2 (snd a X ex G o g h'.2).1)
    | [], _, h => first | exact no_h h | cases h
    | [_], _, h => first | exact no_h h | cases h
    | _ :: b :: _ :: _, k, h => cases b <;> cases k <;> first | exact no_h h | cases h
    | [_, .Name _ _], _ :: _, h => first | exact no_h h | cases h
    | [_, .BoolOp ..], _, h => first | exact no_h h | cases h
    | [_, .NamedExpr ..], _, h => first | exact no_h h | cases h
    | [_, .BinOp ..], _, h => first | exact no_h h | cases h
    | [_, .UnaryOp ..], _, h => first | exact no_h h | cases h
    | [_, .Lambda ..], _, h => first | exact no_h h | cases h
    | [_, .IfExp ..], _, h => first | exact no_h h | cases h
    | [_, .Dict ..], _, h => first | exact no_h h | cases h
    | [_, .Set ..], _, h => first | exact no_h h | cases h
    | [_, .ListComp ..], _, h => first | exact no_h h | cases h
    | [_, .SetComp ..], _, h => first | exact no_h h | cases h
    | [_, .DictComp ..], _, h => first | exact no_h h | cases h
    | [_, .GeneratorExp ..], _, h => first | exact no_h h | cases h
    | [_, .Await ..], _, h => first | exact no_h h | cases h
    | [_, .Yield ..], _, h => first | exact no_h h | cases h
    | [_, .YieldFrom ..], _, h => first | exact no_h h | cases h
    | [_, .Compare ..], _, h => first | exact no_h h | cases h
    | [_, .Call ..], _, h => first | exact no_h h | cases h
    | [_, .FormattedValue ..], _, h => first | exact no_h h | cases h
    | [_, .JoinedStr ..], _, h => first | exact no_h h | cases h
    | [_, .Constant ..], _, h => first | exact no_h h | cases h
    | [_, .Attribute ..], _, h => first | exact no_h h | cases h
    | [_, .Subscript ..], _, h => first | exact no_h h | cases h
    | [_, .Starred ..], _, h => first | exact no_h h | cases h
    | [_, .Slice ..], _, h => first | exact no_h h | cases h
    | [_, .List ..], _, h => first | exact no_h h | cases h
    | [_, .Tuple ..], _, h => first | exact no_h h | cases h
   | _ => first | exact no_h h | cases h
  | _ => first | exact no_h h | cases h
 | .mth m o es, X, ex, G, e, g, h => by
  cases e with
  | Call fn args kws pos =>
   cases fn with
   | Attribute oe name apos =>
    match args, kws, h with
    | a :: args, [], h =>
     have h' : (name == mtName m && notCall0 oe && apos.endLine == pos.line && decide ((a :: args).length < 29) && chk Z G o oe && chks Z G es (a :: args)) = true := h
     simp only [Bool.and_eq_true] at h'
     have e1 : name = mtName m := eq_of_beq h'.1.1.1.1.1
     subst e1
     exact both (s_mth g h'.1.1.1.1.2 h'.1.1.1.2 (of_decide_eq_true h'.1.1.2) h'.2 (snd o X ex G oe g h'.1.2).1 (snds es X ex G _ g h'.2))
    | [], _, h => first | exact no_h h | cases h
    | _ :: _, _ :: _, h => first | exact no_h h | cases h
   | _ => first | exact no_h h | cases h
  | _ => first | exact no_h h | cases h
 | .comp G' fr tg src ifs elt, X, ex, G, e, g, h => by
  cases e with
  | ListComp el gens scope pos =>
   have h : gen1 gens (fun t it fs => chkScope Z G scope G' fr && chkT G' tg t && (tgs tg).all (fun i => decide (fr.length ≤ i)) && chkSr Z G src it && chks Z G' ifs fs && chk Z G' elt el) = true := h
   obtain ⟨t, it, fs, rfl, h⟩ := gen1_ok h
   have h' : (chkScope Z G scope G' fr && chkT G' tg t && (tgs tg).all (fun i => decide (fr.length ≤ i)) && chkSr Z G src it && chks Z G' ifs fs && chk Z G' elt el) = true := h
   simp only [Bool.and_eq_true] at h'
   exact both (s_comp g (scOk_of h'.1.1.1.1.1) h'.1.1.1.1.2 (fun i hi => of_decide_eq_true (List.all_eq_true.mp h'.1.1.1.2 i hi)) (sndS src X ex G it t g h'.1.1.2)
    (fun X' g' => sndT ifs X' nox G' fs g' h'.1.2) (fun X' g' => (snd elt X' nox G' el g' h'.2).1) (fun x => folded_src h'.1.1.2 X.env x))
  | _ => first | exact no_h h | cases h
theorem snds : ∀ (as : List IR) (X : Cx) (ex : Str → Prop) (G : Gm) (l : List Expr), GOk Z CX cl xp X ex G → chks Z G as l = true → PA X l (RA X.K ex (varss as) (evRs cl as))
 | [], X, ex, G, l, g, h => by
  cases l with
  | nil => exact paMono pa_nil fun σ H Q ⟨S, τ, hs, q⟩ => q.ok _ _ (.refl _) .nil
  | cons _ _ => first | exact no_h h | cases h
 | a :: as, X, ex, G, l, g, h => by
  cases l with
  | nil => first | exact no_h h | cases h
  | cons e l =>
   have h' : (notStar e && chk Z G a e && chks Z G as l) = true := h
   simp only [Bool.and_eq_true] at h'
   refine paMono (pa_cons (snd a X ex G e g h'.1.2).1 (snds as X ex G l g h'.2) (star_cons h'.1.1 _ _)) fun σ H Q ⟨S, τ, hs, q⟩ => ?_
   refine rdAt (.refl _) hs.left (PO'.bnd q) fun x v H1 e1 _ m1 q1 => ?_
   refine raAt e1 hs.right (PO'.bnd q1) fun ds vs H2 e2 e2' m2 q2 => ?_
   exact q2.ok _ _ e2 (.cons (m1.later e2') m2)
theorem sndO : ∀ (o : Option IR) (X : Cx) (ex : Str → Prop) (G : Gm) (e : Option Expr), GOk Z CX cl xp X ex G → chkO Z G o e = true → PO X e (ROp X.K ex (varsO o) (evRO cl o))
 | none, X, ex, G, e, g, h => by
  cases e with
  | none =>
   intro pins s σ H Q I ⟨S, τ, hs, q⟩
   exact po_none pins s σ H Q I (q.ok H (.refl _))
  | some _ => first | exact no_h h | cases h
 | some a, X, ex, G, e, g, h => by
  cases e with
  | none => first | exact no_h h | cases h
  | some e =>
   intro pins s σ H Q I ⟨S, τ, hs, q⟩
   refine po_some (snd a X ex G e g h).1 pins s σ H Q I ?_
   refine rdAt (.refl _) hs (PO'.bnd q) fun x v H1 e1 _ m1 q1 => ?_
   cases x with
   | int i => cases m1.intR; exact ⟨i, rfl, q1.ok _ e1⟩
   | _ => exact q1.no.elim
theorem sndT : ∀ (as : List IR) (X : Cx) (ex : Str → Prop) (G : Gm) (l : List Expr), GOk Z CX cl xp X ex G → chks Z G as l = true → PTs X l (RT X.K ex (varss as) (evTs cl as))
 | [], X, ex, G, l, g, h => by
  cases l with
  | nil => intro pins s σ H Q I ⟨S, τ, hs, q⟩; exact pts_nil pins s σ H Q I (q.ok H (.refl _))
  | cons _ _ => first | exact no_h h | cases h
 | a :: as, X, ex, G, l, g, h => by
  cases l with
  | nil => first | exact no_h h | cases h
  | cons e l =>
   have h' : (notStar e && chk Z G a e && chks Z G as l) = true := h
   simp only [Bool.and_eq_true] at h'
   intro pins s σ H Q I ⟨S, τ, hs, q⟩
   refine pts_cons (snd a X ex G e g h'.1.2).2 (sndT as X ex G l g h'.2) pins s σ H Q I ?_
   refine rtAt (.refl _) hs.left (PO'.bnd q) fun r H2 e2 _ k => ?_
   cases r with
   | true => rw [if_pos rfl] at k ⊢; exact rtAt e2 hs.right k fun b H3 e3 _ z => z H3 e3
   | false => rw [if_neg Bool.false_ne_true] at k ⊢; exact k.ok H2 e2
theorem sndS : ∀ (s : Sr) (X : Cx) (ex : Str → Prop) (G : Gm) (e tg : Expr), GOk Z CX cl xp X ex G → chkSr Z G s e = true → PI X tg e (RI X.K ex (varsS s) (evSr cl s))
 | .rng1 n, X, ex, G, e, tg, g, h => by
  cases e with
  | Call fn args kws pos =>
   cases fn with
   | Name x p =>
    match args, kws, h with
    | [a], [], h =>
     have h' : (x == "range" && G.gl.contains 15 && notStar a && chk Z G n a) = true := h
     simp only [Bool.and_eq_true] at h'
     have e1 : x = "range" := eq_of_beq h'.1.1.1
     subst e1
     exact i_rng1 g h'.1.1.2 h'.1.2 (snd n X ex G a g h'.2).1
    | [], _, h => first | exact no_h h | cases h
    | [_], _ :: _, h => first | exact no_h h | cases h
    | _ :: _ :: _, _, h => first | exact no_h h | cases h
   | _ => first | exact no_h h | cases h
  | _ => first | exact no_h h | cases h
 | .rng2 a b, X, ex, G, e, tg, g, h => by
  cases e with
  | Call fn args kws pos =>
   cases fn with
   | Name x p =>
    match args, kws, h with
    | [l, r], [], h =>
     have h' : (x == "range" && G.gl.contains 15 && notStar l && notStar r && chk Z G a l && chk Z G b r) = true := h
     simp only [Bool.and_eq_true] at h'
     have e1 : x = "range" := eq_of_beq h'.1.1.1.1.1
     subst e1
     exact i_rng2 g h'.1.1.1.1.2 h'.1.1.1.2 h'.1.1.2 (snd a X ex G l g h'.1.2).1 (snd b X ex G r g h'.2).1
    | [], _, h => first | exact no_h h | cases h
    | [_], _, h => first | exact no_h h | cases h
    | [_, _], _ :: _, h => first | exact no_h h | cases h
    | _ :: _ :: _ :: _, _, h => first | exact no_h h | cases h
   | _ => first | exact no_h h | cases h
  | _ => first | exact no_h h | cases h
 | .val a, X, ex, G, e, tg, g, h => i_val (snd a X ex G e g h).1
 | .rev a, X, ex, G, e, tg, g, h => by cases e <;> first | exact no_h h | cases h
end
end
end L2
namespace L2
open PySem PySem.Spec PyProof.Rows PySem.SeqAt
inductive Rps (K : PySem.W.Frag) (F : Addr → Prop) (H : Hp) : St → Ev → List Addr → Prop where
 | nil : Rps K F H [] [] []
 | none {o : Option V} {σ : St} {τ : Ev} {f : List Addr} : Rps K F H σ τ f → Rps K F H (o :: σ) (.none :: τ) f
 | some {v : V} {d : D} {f : List Addr} {σ : St} {τ : Ev} {g : List Addr} : MRep K F H v d f → Rps K F H σ τ g → Rps K F H (.some v :: σ) (.some d :: τ) (f ++ g)
section
variable {K : PySem.W.Frag} {F F' : Addr → Prop} {H H' : Hp} {σ : St} {τ : Ev} {f : List Addr}
theorem Rps.step (hl : ∀ a xs, F a → Rd H a (.lst xs) → F' a ∧ Rd H' a (.lst xs)) (ht : ∀ a xs, SqT K H a xs → SqT K H' a xs) : ∀ {σ : St} {τ : Ev} {f : List Addr}, (∀ a ∈ f, ¬ F a → H a ≠ Option.none → ¬ F' a ∧ H' a = H a) → Rps K F H σ τ f → Rps K F' H' σ τ f
 | _, _, _, _, .nil => .nil
 | _, _, _, k, .none h => .none (Rps.step hl ht k h)
 | _, _, _, k, .some m h => .some (m.step hl ht fun a ha => k a (List.mem_append_left _ ha)) (Rps.step hl ht (fun a ha => k a (List.mem_append_right _ ha)) h)
theorem Rps.own : ∀ {σ : St} {τ : Ev} {f : List Addr}, Rps K F H σ τ f → ∀ a ∈ f, ¬ F a ∧ ∃ xs, H a = .some (.lst xs)
 | _, _, _, .nil => fun _ h => absurd h (by simp)
 | _, _, _, .none h => Rps.own h
 | _, _, _, .some m h => fun a ha => by
  rcases List.mem_append.mp ha with ha | ha
  ·exact m.own a ha
  ·exact Rps.own h a ha
theorem slotD_cons {o : Option D} {τ : Ev} {i : Nat} : slotD (o :: τ) (i + 1) = slotD τ i := by unfold slotD; simp
theorem slotD_zero {o : Option D} {τ : Ev} : slotD (o :: τ) 0 = o := by unfold slotD; simp
theorem Rps.at : ∀ {σ : St} {τ : Ev} {f : List Addr} {i : Nat} {d : D}, Rps K F H σ τ f → slotD τ i = .some d → ∃ v fv g, σ[i]? = .some (.some v) ∧ MRep K F H v d fv ∧ Rps K F H σ (τ.set i .none) g ∧ f.Perm (fv ++ g)
 | _, _, _, i, d, .nil, h => by simp [slotD] at h
 | _, _, _, 0, d, .none _, h => by rw [slotD_zero] at h; cases h
 | _, _, _, 0, d, .some m h', h => by
  rw [slotD_zero] at h
  cases h
  exact ⟨_, _, _, rfl, m, .none h', .refl _⟩
 | _, _, _, i + 1, d, .none h', h => by
  rw [slotD_cons] at h
  obtain ⟨v, fv, g, h1, h2, h3, h4⟩ := Rps.at h' h
  exact ⟨v, fv, g, by simpa using h1, h2, .none h3, h4⟩
 | _, _, _, i + 1, d, .some (f := f0) m h', h => by
  rw [slotD_cons] at h
  obtain ⟨v, fv, g, h1, h2, h3, h4⟩ := Rps.at h' h
  refine ⟨v, fv, f0 ++ g, by simpa using h1, h2, .some m h3, ?_⟩
  refine (List.Perm.append_left f0 h4).trans ?_
  rw [← List.append_assoc, ← List.append_assoc]
  exact List.Perm.append_right g List.perm_append_comm
theorem Rps.put : ∀ {σ : St} {τ : Ev} {f : List Addr} (i : Nat) {v : V} {d : D} {fv : List Addr}, Rps K F H σ τ f → MRep K F H v d fv → ∃ g h, Rps K F H (σ.set i (.some v)) (τ.set i (.some d)) g ∧ (g ++ h).Perm (fv ++ f)
 | _, _, _, i, v, d, fv, .nil, m => ⟨[], _, .nil, .refl _⟩
 | _, _, _, 0, v, d, fv, .none h, m => ⟨_, [], .some m h, by rw [List.append_nil]⟩
 | _, _, _, 0, v, d, fv, .some (f := f0) (g := g0) m' h, m => ⟨_, f0, .some m h, by rw [List.append_assoc]; exact List.Perm.append_left _ List.perm_append_comm⟩
 | _, _, _, i + 1, v, d, fv, .none h, m => by
  obtain ⟨g, h', h1, h2⟩ := Rps.put i h m
  exact ⟨g, h', .none h1, h2⟩
 | _, _, _, i + 1, v, d, fv, .some (f := f0) (g := g0) m' h, m => by
  obtain ⟨g, h', h1, h2⟩ := Rps.put i h m
  refine ⟨f0 ++ g, h', .some m' h1, ?_⟩
  rw [List.append_assoc]
  refine (List.Perm.append_left f0 h2).trans ?_
  rw [← List.append_assoc, ← List.append_assoc]
  exact List.Perm.append_right g0 List.perm_append_comm
theorem Rps.slots {S : Addr → Prop} {is : List Nat} (h : Rps K F H σ τ f) (hF : ∀ a, F a → S a) (hf : ∀ a ∈ f, S a) : Slots K S H σ τ is := fun i hi d z => by
 obtain ⟨v, fv, g, h1, h2, h3, h4⟩ := h.at z
 exact ⟨v, h1, h2.read hF fun a ha => hf a (h4.mem_iff.mpr (List.mem_append_left _ ha))⟩
theorem Rps.freeze (is : List Nat) : ∀ {σ : St} {τ : Ev} {f : List Addr} (k : Nat), Rps K F H σ τ f → ∃ fi g, f.Perm (fi ++ g) ∧ (∀ F' : Addr → Prop, (∀ a, F a → F' a) → (∀ a ∈ fi, F' a) → (∀ a ∈ g, ¬ F a → ¬ F' a) → Rps K F' H σ (frzA is k τ) g) ∧
  ∀ F' : Addr → Prop, (∀ a, F a → F' a) → (∀ a ∈ fi, F' a) → ∀ i, is.contains (k + i) = true → ∀ d, slotD τ i = .some d → ∃ v, σ[i]? = .some (.some v) ∧ HRep K F' H v d
 | _, _, _, k, .nil => ⟨[], [], .refl _, fun _ _ _ _ => .nil, fun _ _ _ i _ d z => by simp [slotD] at z⟩
 | _, _, _, k, .none h => by
  obtain ⟨fi, g, h1, h2, h3⟩ := Rps.freeze is (k + 1) h
  refine ⟨fi, g, h1, fun F' a b c => ?_, fun F' a b i hi d z => ?_⟩
  ·unfold frzA
   have e : (if is.contains k = true then Option.map er (Option.none : Option D) else Option.none) = Option.none := by split <;> rfl
   rw [e]
   exact .none (h2 F' a b c)
  ·cases i with
   | zero => rw [slotD_zero] at z; cases z
   | succ i =>
    rw [slotD_cons] at z
    obtain ⟨v, q1, q2⟩ := h3 F' a b i (by rw [show k + 1 + i = k + (i + 1) by omega]; exact hi) d z
    exact ⟨v, by simpa using q1, q2⟩
 | _, _, _, k, .some (v := v) (d := d0) (f := f0) (g := g0) m h => by
  obtain ⟨fi, g, h1, h2, h3⟩ := Rps.freeze is (k + 1) h
  by_cases hc : is.contains k = true
  ·refine ⟨f0 ++ fi, g, by rw [List.append_assoc]; exact List.Perm.append_left _ h1, fun F' a b c => ?_, fun F' a b i hi d z => ?_⟩
   ·unfold frzA
    rw [if_pos hc]
    exact .some (f := []) ((m.read a fun x hx => b x (List.mem_append_left _ hx)).frozen) (h2 F' a (fun x hx => b x (List.mem_append_right _ hx)) c)
   ·cases i with
    | zero =>
     rw [slotD_zero] at z
     cases z
     exact ⟨v, rfl, m.read a fun x hx => b x (List.mem_append_left _ hx)⟩
    | succ i =>
     rw [slotD_cons] at z
     obtain ⟨v, q1, q2⟩ := h3 F' a (fun x hx => b x (List.mem_append_right _ hx)) i (by rw [show k + 1 + i = k + (i + 1) by omega]; exact hi) d z
     exact ⟨v, by simpa using q1, q2⟩
  ·refine ⟨fi, f0 ++ g, ?_, fun F' a b c => ?_, fun F' a b i hi d z => ?_⟩
   ·refine (List.Perm.append_left f0 h1).trans ?_
    rw [← List.append_assoc, ← List.append_assoc]
    exact List.Perm.append_right g List.perm_append_comm
   ·unfold frzA
    rw [if_neg hc]
    exact .some (m.step (fun x xs q r => ⟨a x q, r⟩) (fun x xs q => q) fun x hx n _ => ⟨c x (List.mem_append_left _ hx) n, rfl⟩) (h2 F' a b fun x hx => c x (List.mem_append_right _ hx))
   ·cases i with
    | zero => exact absurd hi hc
    | succ i =>
     rw [slotD_cons] at z
     obtain ⟨v, q1, q2⟩ := h3 F' a b i (by rw [show k + 1 + i = k + (i + 1) by omega]; exact hi) d z
     exact ⟨v, by simpa using q1, q2⟩
end
structure Stp (F : Addr → Prop) (H : Hp) (f : List Addr) (F' : Addr → Prop) (H' : Hp) : Prop where
 same : Same H H'
 inn : ∀ a, F a → F' a
 out : ∀ a, F' a → F a ∨ a ∈ f ∨ H a = none
structure Ow (K : PySem.W.Frag) (F : Addr → Prop) (H : Hp) (f : List Addr) (F' : Addr → Prop) (H' : Hp) (σ : St) (v : V) (d : D) (fv : List Addr) (τ' : Ev) (f' : List Addr) : Prop where
 stp : Stp F H f F' H'
 fok : FOk F' H'
 rep : MRep K F' H' v d fv
 rps : Rps K F' H' σ τ' f'
 nod : (fv ++ f').Nodup
 mem : ∀ a ∈ fv ++ f', a ∈ f ∨ H a = none
structure Ows (K : PySem.W.Frag) (F : Addr → Prop) (H : Hp) (f : List Addr) (F' : Addr → Prop) (H' : Hp) (σ : St) (v : List V) (d : List D) (fv : List Addr) (τ' : Ev) (f' : List Addr) : Prop where
 stp : Stp F H f F' H'
 fok : FOk F' H'
 rep : MReps K F' H' v d fv
 rps : Rps K F' H' σ τ' f'
 nod : (fv ++ f').Nodup
 mem : ∀ a ∈ fv ++ f', a ∈ f ∨ H a = none
section
variable {K : PySem.W.Frag} {F F' F'' : Addr → Prop} {H H' H'' : Hp} {f f' : List Addr}
theorem Stp.refl : Stp F H f F H := ⟨.refl _, fun _ h => h, fun _ h => .inl h⟩
theorem Stp.trans (a : Stp F H f F' H') (b : Stp F' H' f' F'' H'') (hf : ∀ x ∈ f', x ∈ f ∨ H x = none) : Stp F H f F'' H'' := ⟨a.same.trans b.same, fun x h => b.inn x (a.inn x h), fun x h => by
 rcases b.out x h with h | h | h
 ·exact a.out x h
 ·rcases hf x h with h | h
  ·exact .inr (.inl h)
  ·exact .inr (.inr h)
 ·exact .inr (.inr (a.same.free h))⟩
theorem MRep.stp {v : V} {d : D} {fv : List Addr} (m : MRep K F H v d fv) (s : Stp F H f F' H') (h : ∀ a ∈ fv, a ∉ f) : MRep K F' H' v d fv :=
 m.step (fun a xs q r => ⟨s.inn a q, s.same.rd r⟩) (fun a xs q => s.same.seqT q) fun a ha n hn => by
  obtain ⟨_, xs, e⟩ := m.own a ha
  refine ⟨fun z => ?_, (s.same _ _ e).trans e.symm⟩
  rcases s.out a z with z | z | z
  ·exact n z
  ·exact h a ha z
  ·exact hn z
theorem MReps.stp {v : List V} {d : List D} {fv : List Addr} (m : MReps K F H v d fv) (s : Stp F H f F' H') (h : ∀ a ∈ fv, a ∉ f) : MReps K F' H' v d fv :=
 m.step (fun a xs q r => ⟨s.inn a q, s.same.rd r⟩) (fun a xs q => s.same.seqT q) fun a ha n hn => by
  obtain ⟨_, xs, e⟩ := m.own a ha
  refine ⟨fun z => ?_, (s.same _ _ e).trans e.symm⟩
  rcases s.out a z with z | z | z
  ·exact n z
  ·exact h a ha z
  ·exact hn z
end
end L2
namespace L2
open PySem PySem.Spec PyProof.Rows PySem.SeqAt
noncomputable def RO (K : PySem.W.Frag) (ex : Str → Prop) (g : Ev → Res (D × Ev)) : TE := fun σ H Q => ∃ F τ f, FOk F H ∧ Rps K F H σ τ f ∧ f.Nodup ∧ PO' ex (g τ) fun p => ∀ v H' F' fv f', Ow K F H f F' H' σ v p.1 fv p.2 f' → Q v H'
noncomputable def ROs (K : PySem.W.Frag) (ex : Str → Prop) (g : Ev → Res (List D × Ev)) : TA := fun σ H Q => ∃ F τ f, FOk F H ∧ Rps K F H σ τ f ∧ f.Nodup ∧ PO' ex (g τ) fun p => ∀ v H' F' fv f', Ows K F H f F' H' σ v p.1 fv p.2 f' → Q v H'
noncomputable abbrev Kn (K : PySem.W.Frag) (S : Addr → Prop) (H : Hp) (Q : VK) : List D → Prop := fun ds => ∀ p ys H', Same H H' → H p = none → H' p = some (.lst ys) → HReps K (fun a => nw S H a ∧ a ≠ p) H' ys ds → Q (.ref p) H'
noncomputable def RN (K : PySem.W.Frag) (ex : Str → Prop) (is : List Nat) (f : Ev → Res (List D)) : TE := fun σ H Q => ∃ S τ, Slots K S H σ τ is ∧ PO' ex (f τ) (Kn K S H Q)
noncomputable def asLst : D → Res (List D)
 | .lst _ ds => .ok ds
 | _ => stk
section
variable {K : PySem.W.Frag} {F F' : Addr → Prop} {H H' : Hp} {σ : St} {τ : Ev} {f : List Addr} {ex : Str → Prop} {S : Addr → Prop}
theorem newN {vs ws : List V} {ds : List D} {p : Addr} {H2 : Hp} (m : HReps K (nw S H) H2 vs ds) (hp : H2 p = none) : HReps K (fun a => nw S H a ∧ a ≠ p) (upd H2 p (.lst ws)) vs ds :=
 m.step (fun a xs h r => by
  have hne : a ≠ p := fun z => r.some (by rw [z]; exact hp)
  refine ⟨⟨h, hne⟩, ?_⟩
  unfold Rd
  rw [upd_ne hne]
  exact r) fun a xs h => (Same.upd hp).seqT h
theorem grow (P : Addr → Prop) (fok : FOk F H) (r : Rps K F H σ τ f) (e : Same H H') :
  FOk (fun a => F a ∨ (P a ∧ H a = none ∧ H' a ≠ none)) H' ∧ Rps K (fun a => F a ∨ (P a ∧ H a = none ∧ H' a ≠ none)) H' σ τ f ∧ Stp F H f (fun a => F a ∨ (P a ∧ H a = none ∧ H' a ≠ none)) H' := by
 refine ⟨fun a h => ?_, r.step (fun a xs q rd => ⟨.inl q, e.rd rd⟩) (fun a xs q => e.seqT q) fun a ha n hn => ⟨fun z => ?_, ?_⟩, ⟨e, fun a h => .inl h, fun a h => ?_⟩⟩
 ·rcases h with h | h
  ·intro z
   exact fok a h (e.free z)
  ·exact h.2.2
 ·rcases z with z | z
  ·exact n z
  ·exact hn z.2.1
 ·obtain ⟨_, xs, q⟩ := r.own a ha
  exact (e _ _ q).trans q.symm
 ·rcases h with h | h
  ·exact .inl h
  ·exact .inr (.inr h.2.1)
theorem grow0 (fok : FOk F H) (r : Rps K F H σ τ f) (e : Same H H') : FOk F H' ∧ Rps K F H' σ τ f ∧ Stp F H f F H' := by
 refine ⟨fun a h z => fok a h (e.free z), r.step (fun a xs q rd => ⟨q, e.rd rd⟩) (fun a xs q => e.seqT q) fun a ha n hn => ⟨n, ?_⟩, ⟨e, fun a h => h, fun a h => .inl h⟩⟩
 obtain ⟨_, xs, q⟩ := r.own a ha
 exact (e _ _ q).trans q.symm
theorem freeze1 (is : List Nat) (fok : FOk F H) (r : Rps K F H σ τ f) (nd : f.Nodup) : ∃ F1 g, FOk F1 H ∧ Rps K F1 H σ (frz is τ) g ∧ g.Nodup ∧ Stp F H f F1 H ∧ (∀ a ∈ g, a ∈ f) ∧ Slots K F1 H σ τ is := by
 obtain ⟨fi, g, h1, h2, h3⟩ := r.freeze is 0
 have nd' : (fi ++ g).Nodup := h1.nodup_iff.mp nd
 have dis : ∀ a ∈ g, a ∉ fi := fun a ha hb => (List.nodup_append.mp nd').2.2 a hb a ha rfl
 have inF : ∀ a ∈ fi, a ∈ f := fun a ha => h1.mem_iff.mpr (List.mem_append_left _ ha)
 have inG : ∀ a ∈ g, a ∈ f := fun a ha => h1.mem_iff.mpr (List.mem_append_right _ ha)
 refine ⟨fun a => F a ∨ a ∈ fi, g, fun a h => ?_, h2 _ (fun a h => .inl h) (fun a h => .inr h) (fun a ha n z => ?_), (List.nodup_append.mp nd').2.1, ⟨.refl _, fun a h => .inl h, fun a h => ?_⟩, inG, fun i hi d z => ?_⟩
 ·rcases h with h | h
  ·exact fok a h
  ·obtain ⟨_, xs, q⟩ := r.own a (inF a h)
   rw [q]; simp
 ·rcases z with z | z
  ·exact n z
  ·exact dis a ha z
 ·rcases h with h | h
  ·exact .inl h
  ·exact .inr (.inl (inF a h))
 ·exact h3 _ (fun a h => .inl h) (fun a h => .inr h) i (by simpa using hi) d z
theorem all_slots {is : List Nat} (r : Rps K F H σ τ f) : Slots K (fun _ => True) H σ τ is := r.slots (fun _ _ => trivial) fun _ _ => trivial
theorem HRep.fix {v : V} {d : D} (m : HRep K (L2.nw F H) H' v d) : HRep K (fun a => F a ∨ (True ∧ H a = none ∧ H' a ≠ none)) H' v d := m.step (fun a xs h r => ⟨h.elim (fun z => .inl z) fun z => .inr ⟨trivial, z, r.some⟩, r⟩) fun a xs h => h
end
section
variable {X : Cx} {ex : Str → Prop} {cl : Nat → List D → Res D}
theorem o_v {i : Nat} {e : Expr} (he : PE X e (tVar i)) (mv : Bool) : PE X e (RO X.K ex (evO cl mv (.v i))) := by
 refine peMono he fun σ H Q ⟨F, τ, f, fok, r, nd, q⟩ => ?_
 rw [evO_v] at q
 cases z : slotD τ i with
 | none => rw [z] at q; exact q.no.elim
 | some d =>
  rw [z] at q
  obtain ⟨v, fv, g, h1, h2, h3, h4⟩ := r.at z
  have nd' : (fv ++ g).Nodup := h4.nodup_iff.mp nd
  cases mv with
  | true =>
   have q' := (show PO' ex (.ok (d, τ.set i none) : Res (D × Ev)) _ from q).ok
   exact ⟨v, h1, q' v H F fv g ⟨.refl, fok, h2, h3, nd', fun a ha => .inl (h4.mem_iff.mpr ha)⟩⟩
  | false =>
   have q' := (show PO' ex (.ok (er d, τ.set i (some (er d))) : Res (D × Ev)) _ from q).ok
   have dis : ∀ a ∈ g, a ∉ fv := fun a ha hb => (List.nodup_append.mp nd').2.2 a hb a ha rfl
   have m1 : MRep X.K (fun a => F a ∨ a ∈ fv) H v (er d) [] := (h2.read (fun a h => .inl h) (fun a h => .inr h)).frozen
   have r1 : Rps X.K (fun a => F a ∨ a ∈ fv) H σ (τ.set i none) g := h3.step (fun a xs h r => ⟨.inl h, r⟩) (fun a xs h => h) fun a ha n _ => ⟨fun z => z.elim n (dis a ha), rfl⟩
   obtain ⟨g', h', r2, p2⟩ := r1.put i m1
   have hσ : σ.set i (some v) = σ := by
    apply List.ext_getElem?
    intro j
    rw [List.getElem?_set]
    by_cases hj : i = j
    ·subst hj
     have hlt : i < σ.length := (List.getElem?_eq_some_iff.mp h1).1
     rw [if_pos rfl, if_pos hlt, h1]
    ·rw [if_neg hj]
   rw [hσ, List.set_set] at r2
   rw [List.nil_append] at p2
   have nd2 : (g' ++ h').Nodup := p2.nodup_iff.mpr (List.nodup_append.mp nd').2.1
   refine ⟨v, h1, q' v H _ [] g' ⟨⟨.refl _, fun a h => .inl h, fun a h => ?_⟩, fun a h => ?_, m1, r2, (List.nodup_append.mp nd2).1, fun a ha => ?_⟩⟩
   ·exact h.elim (fun z => .inl z) fun z => .inr (.inl (h4.mem_iff.mpr (List.mem_append_left _ z)))
   ·rcases h with h | h
    ·exact fok a h
    ·obtain ⟨_, xs, e⟩ := h2.own a h
     rw [e]; simp
   ·have : a ∈ g := p2.mem_iff.mp (List.mem_append_left _ (by simpa using ha))
    exact .inl (h4.mem_iff.mpr (List.mem_append_right _ this))
theorem o_tup {l : List Expr} {n : Nat} {pos : Pos} {g : Ev → Res (List D × Ev)} (h : PA X l (ROs X.K ex g)) : PE X (.Tuple l n pos) (RO X.K ex fun τ => bnd (g τ) fun p => grd (szOk p.1.length) (.ok (.tup p.1, p.2))) := by
 refine peMono (pe_tup h) fun σ H Q ⟨F, τ, f, fok, r, nd, q⟩ => ⟨F, τ, f, fok, r, nd, (PO'.bnd q).mono fun p hp vs H1 F1 fv f1 o => ?_⟩
 obtain ⟨gd, hp⟩ := PO'.grd hp
 refine ⟨by rw [o.rep.length]; exact szOk_le gd, fun p' hp' => hp.ok _ _ F1 fv f1 ?_⟩
 have e : Same H1 (upd H1 p' (.tup vs)) := .upd hp'
 obtain ⟨k1, k2, k3⟩ := grow0 o.fok o.rps e
 refine ⟨o.stp.trans k3 (fun x hx => o.mem x (List.mem_append_right _ hx)), k1, .tup (.inl (.inl upd_same)) (o.rep.stp k3 fun a ha hb => (List.nodup_append.mp o.nod).2.2 a ha a hb rfl), k2, o.nod, o.mem⟩
theorem o_lst {l : List Expr} {pos : Pos} {g : Ev → Res (List D × Ev)} (h : PA X l (ROs X.K ex g)) : PE X (.List l pos) (RO X.K ex fun τ => bnd (g τ) fun p => grd (szOk p.1.length) (.ok (.lst true p.1, p.2))) := by
 refine peMono (pe_lst h) fun σ H Q ⟨F, τ, f, fok, r, nd, q⟩ => ⟨F, τ, f, fok, r, nd, (PO'.bnd q).mono fun p hp vs H1 F1 fv f1 o => ?_⟩
 obtain ⟨gd, hp⟩ := PO'.grd hp
 refine ⟨by rw [o.rep.length]; exact szOk_le gd, fun p' hp' => hp.ok _ _ F1 (p' :: fv) f1 ?_⟩
 have e : Same H1 (upd H1 p' (.lst vs)) := .upd hp'
 obtain ⟨k1, k2, k3⟩ := grow0 o.fok o.rps e
 refine ⟨o.stp.trans k3 (fun x hx => o.mem x (List.mem_append_right _ hx)), k1, .lstO (fun z => o.fok _ z hp') upd_same (o.rep.stp k3 fun a ha hb => (List.nodup_append.mp o.nod).2.2 a ha a hb rfl), k2, ?_, fun a ha => ?_⟩
 ·rw [List.cons_append, List.nodup_cons]
  refine ⟨fun z => ?_, o.nod⟩
  rcases List.mem_append.mp z with z | z
  ·obtain ⟨_, xs, e⟩ := o.rep.own _ z
   rw [hp'] at e; cases e
  ·obtain ⟨_, xs, e⟩ := o.rps.own _ z
   rw [hp'] at e; cases e
 ·rw [List.cons_append] at ha
  rcases List.mem_cons.mp ha with rfl | ha
  ·exact .inr (o.stp.same.free hp')
  ·exact o.mem a ha
theorem os_nil : PA X [] (ROs X.K ex fun τ => .ok ([], τ)) := paMono pa_nil fun σ H Q ⟨F, τ, f, fok, r, nd, q⟩ => q.ok [] H F [] f ⟨.refl, fok, .nil, r, nd, fun a ha => .inl ha⟩
theorem os_cons {e : Expr} {l : List Expr} {ga : Ev → Res (D × Ev)} {gs : Ev → Res (List D × Ev)} (hn : notStar e = true) (ha : PE X e (RO X.K ex ga)) (hr : PA X l (ROs X.K ex gs)) :
  PA X (e :: l) (ROs X.K ex fun τ => bnd (ga τ) fun p => bnd (gs p.2) fun q => .ok (p.1 :: q.1, q.2)) := by
 refine paMono (pa_cons ha hr (star_cons hn _ _)) fun σ H Q ⟨F, τ, f, fok, r, nd, q⟩ => ⟨F, τ, f, fok, r, nd, (PO'.bnd q).mono fun p hp v H1 F1 fv f1 o => ?_⟩
 refine ⟨F1, p.2, f1, o.fok, o.rps, (List.nodup_append.mp o.nod).2.1, (PO'.bnd hp).mono fun p' hp' vs H2 F2 fvs f2 o2 => ?_⟩
 have dis : ∀ a ∈ fv, a ∉ f1 := fun a h1 h2 => (List.nodup_append.mp o.nod).2.2 a h1 a h2 rfl
 have m2 := o.rep.stp o2.stp dis
 refine hp'.ok (v :: vs) H2 F2 (fv ++ fvs) f2 ⟨o.stp.trans o2.stp (fun x hx => o.mem x (List.mem_append_right _ hx)), o2.fok, .cons m2 o2.rep, o2.rps, ?_, fun a ha => ?_⟩
 ·rw [List.append_assoc]
  refine List.nodup_append.mpr ⟨(List.nodup_append.mp o.nod).1, o2.nod, fun a h1 b h2 e => ?_⟩
  subst e
  rcases o2.mem a h2 with z | z
  ·exact dis a h1 z
  ·obtain ⟨_, xs, e⟩ := o.rep.own a h1
   rw [z] at e; cases e
 ·rw [List.append_assoc] at ha
  rcases List.mem_append.mp ha with ha | ha
  ·exact o.mem a (List.mem_append_left _ ha)
  ·rcases o2.mem a ha with z | z
   ·exact o.mem a (List.mem_append_right _ z)
   ·exact .inr (o.stp.same.free z)
end
end L2
namespace L2
open PySem PySem.Spec PyProof.Rows PySem.SeqAt
section
variable {Z : Sg} {CX : CXT} {cl : Nat → List D → Res D} {xp : XK → Hp → Str → Prop} {X : Cx} {ex : Str → Prop} {G : Gm}
noncomputable def spP (K : PySem.W.Frag) (ex : Str → Prop) (cl : Nat → List D → Res D) (f : Nat) (vs : List V) (H : Hp) (Q : VK) : Prop := ∃ F ds, FOk F H ∧ HReps K F H vs ds ∧ PO' ex (cl f (ers ds)) fun d => ∀ v H' F' fv, Out K F H F' H' v d fv → Q v H'
theorem pe_callO (g : GOk Z CX cl xp X ex G) {f : Nat} {x : Str} {p pos : Pos} {es : List IR} {args : List Expr} {t : TA} (h1 : chkG Z G f x = true) (h2 : Z.fns.contains f = true) (hst : chks Z G es args = true) (h : PA X args t)
  (h0 : args = [] → ∀ σ H (Q : List V → Hp → Prop), t σ H Q → Q [] H) : PE X (.Call (.Name x p) args [] pos) (fun σ H Q => t σ H fun vs H1 => spP X.K ex cl f vs H1 Q) := by
 obtain ⟨k1, k2, k3, k4⟩ := gl_of g h1
 obtain ⟨k, fa', fd, ps, hm, hkp, hb, F, hr, hlen⟩ := (g.fns f (by simpa using h2) x k2).ex
 obtain ⟨E, hP, hE⟩ := g.exs
 intro pins s σ H Q I q
 have fin : ∀ (us : List Value) (s1 : Shared) (vs : List V) (H1 : Hp), Inv X pins σ H1 s1 → Vals vs us → spP X.K ex cl f vs H1 Q → wpAny (model X.prog X.w) X.A (call (.ref fa') us) (EP X pins σ Q) X.xe s1 := by
  intro us s1 vs H1 I1 r ⟨Fc, ds, fok, m, q1⟩
  refine run_fn F hr hb (.nil : Vals [] []) hP I1 r ?_
  rw [List.append_nil]
  have hl := hlen ex _ _ q1
  rw [ers_length] at hl
  refine ⟨by rw [m.length]; exact hl, Fc, ds, fok, m, ?_⟩
  cases z : cl f (ers ds) with
  | error er =>
   rw [z] at q1
   cases er with
   | stuck => exact q1.no.elim
   | exc c => exact hE c _ q1
  | ok d =>
   rw [z] at q1
   exact q1.ok
 refine wpAny_Call_Name_kw (ld_glob I k1 hm ?_ k4)
 cases args with
 | nil =>
  cases es with
  | cons _ _ => cases hst
  | nil => exact PySem.W.callWith_K0 I.kIn hkp (fin [] s [] H I .nil (h0 rfl σ H _ q))
 | cons e l =>
  cases es with
  | nil => cases hst
  | cons a es =>
   have hst' : (notStar e && chk Z G a e && chks Z G es l) = true := hst
   simp only [Bool.and_eq_true] at hst'
   refine PySem.W.callWith_K (h₀ := X.base) I.ok.mod.kin hkp (thn (h pos pins s σ H _ I q) fun us s1 ⟨vs, H1, I1, r, q1⟩ => ⟨I1.kIn, ?_⟩) (star_cons hst'.1.1 l X.env) (star_none Z G (es := es) pos X.env hst'.2)
   exact fin us s1 vs H1 I1 r q1
theorem MRep.lfree_nil {K : PySem.W.Frag} {F F' : Addr → Prop} {H : Hp} {v : V} {d : D} {fv : List Addr} (m : MRep K F H v d fv) (n : lfree d = true) : MRep K F' H v d [] := (m.read (S := fun _ => True) (fun _ _ => trivial) fun _ _ => trivial).free n
theorem o_call (g : GOk Z CX cl xp X ex G) {f : Nat} {x : Str} {p pos : Pos} {es : List IR} {args : List Expr} (h1 : chkG Z G f x = true) (h2 : Z.fns.contains f = true) (hst : chks Z G es args = true) (mv : Bool) :
  PE X (.Call (.Name x p) args [] pos) (RO X.K ex (evO cl mv (.call f es))) := by
 have pa := snds es X ex G args g hst
 have pe := pe_callO (p := p) (pos := pos) g h1 h2 hst pa (fun e σ H Q ⟨S, τ, hs, q⟩ => by
  subst e
  cases es with
  | nil => exact q.ok [] H (.refl _) .nil
  | cons _ _ => cases hst)
 refine peMono pe fun σ H Q ⟨F, τ, fo, fok, r, nd, q⟩ => ?_
 have q' : PO' ex (bnd (evRs cl es τ) fun ds => bnd (cl f (ers ds)) fun d => if lfree d = true then .ok (d, τ) else .ok (d, frz (varss es) τ)) (fun p => ∀ v H' F' fv f', Ow X.K F H fo F' H' σ v p.1 fv p.2 f' → Q v H') := q
 -- read without giving up
 have borrow : (∀ ds, evRs cl es τ = .ok ds → PO' ex (cl f (ers ds)) fun d => lfree d = true ∧ ∀ v H' F' fv f', Ow X.K F H fo F' H' σ v d fv τ f' → Q v H') → PO' ex (evRs cl es τ) (fun _ => True) → RA X.K ex (varss es) (evRs cl es) σ H (fun vs H1 => spP X.K ex cl f vs H1 Q) := by
  intro hk hok
  refine raAt (.refl _) (all_slots r) hok.eq fun ds vs H1 e1 _ m1 q1 => ?_
  refine ⟨fun a => H1 a ≠ none, ds, fun a h => h, m1.step (fun a xs h rd => ⟨rd.some, rd⟩) fun a xs h => h, (hk ds q1.1).mono fun d hd v H' F' fv o => ?_⟩
  obtain ⟨k1, k2, k3⟩ := grow0 fok r (e1.trans o.same)
  exact hd.2 v H' F [] fo ⟨k3, k1, o.rep.lfree_nil hd.1, k2, by simpa using nd, fun a ha => .inl (by simpa using ha)⟩
 cases z : evRs cl es τ with
 | error er =>
  rw [z] at q'
  cases er with
  | stuck => exact q'.no.elim
  | exc c => exact borrow (fun ds h => by rw [z] at h; cases h) (by rw [z]; exact q')
 | ok ds =>
  rw [z] at q'
  have q1 : PO' ex (bnd (cl f (ers ds)) fun d => if lfree d = true then .ok (d, τ) else .ok (d, frz (varss es) τ)) (fun p => ∀ v H' F' fv f', Ow X.K F H fo F' H' σ v p.1 fv p.2 f' → Q v H') := q'
  cases zc : cl f (ers ds) with
  | error er =>
   rw [zc] at q1
   cases er with
   | stuck => exact q1.no.elim
   | exc c => exact borrow (fun ds' h => by rw [z] at h; cases h; rw [zc]; exact q1) (by rw [z]; trivial)
  | ok d =>
   rw [zc] at q1
   have q2 : PO' ex (if lfree d = true then .ok (d, τ) else .ok (d, frz (varss es) τ)) (fun p => ∀ v H' F' fv f', Ow X.K F H fo F' H' σ v p.1 fv p.2 f' → Q v H') := q1
   by_cases hl : lfree d = true
   ·rw [if_pos hl] at q2
    exact borrow (fun ds' h => by rw [z] at h; cases h; rw [zc]; exact ⟨hl, q2.ok⟩) (by rw [z]; trivial)
   ·rw [if_neg hl] at q2
    obtain ⟨F1, gg, b1, b2, b3, b4, b5, b6⟩ := freeze1 (varss es) fok r nd
    refine raAt (Kt := fun ds' => ds' = ds) (.refl _) b6 (by rw [z]; rfl) fun ds' vs H1 e1 _ m1 e => ?_
    subst e
    have hm : HReps X.K (fun a => F1 a ∨ (True ∧ H a = none ∧ H1 a ≠ none)) H1 vs ds' := m1.step (fun a xs h r => ⟨h.elim (fun z => .inl z) fun z => .inr ⟨trivial, z, r.some⟩, r⟩) fun a xs h => h
    obtain ⟨c1, c2, c3⟩ := grow (fun _ => True) b1 b2 e1
    refine ⟨_, ds', c1, hm, ?_⟩
    rw [zc]
    intro v H' F' fv o
    have s1 : Stp (fun a => F1 a ∨ (True ∧ H a = none ∧ H1 a ≠ none)) H1 gg F' H' := ⟨o.same, o.inn, fun a h => (o.out a h).elim (fun z => .inl z) fun z => .inr (.inr z)⟩
    have r2 : Rps X.K F' H' σ (frz (varss es) τ) gg := c2.step (fun a xs q rd => ⟨o.inn a q, o.same.rd rd⟩) (fun a xs q => o.same.seqT q) fun a ha n hn => by
     obtain ⟨_, xs, e⟩ := c2.own a ha
     refine ⟨fun z => ?_, (o.same _ _ e).trans e.symm⟩
     rcases o.out a z with z | z
     ·exact n z
     ·exact hn z
    refine q2.ok v H' F' fv gg ⟨(b4.trans c3 (fun x hx => .inl (b5 x hx))).trans s1 (fun x hx => .inl (b5 x hx)), o.fok, o.rep, r2, ?_, fun a ha => ?_⟩
    ·refine List.nodup_append.mpr ⟨o.nod, b3, fun a h1 b h2 e => ?_⟩
     subst e
     obtain ⟨_, xs, e⟩ := c2.own a h2
     rw [o.new a h1] at e
     cases e
    ·rcases List.mem_append.mp ha with ha | ha
     ·exact .inr (e1.free (o.new a ha))
     ·exact .inl (b5 a ha)
theorem o_keep {a : IR} {e : Expr} (he : PE X e (RD X.K ex (vars a) (evR cl a))) (hN : newList? a = true → PE X e (RN X.K ex (vars a) fun τ => bnd (evR cl a τ) asLst)) : PE X e (RO X.K ex fun τ => bnd (evR cl a τ) fun d => .ok (keepD a d τ)) := by
 intro pins s σ H Q I h
 obtain ⟨F, τ, fo, fok, r, nd, q⟩ := h
 replace q : PO' ex (bnd (evR cl a τ) fun d => .ok (keepD a d τ)) (fun p => ∀ v H' F' fv f', Ow X.K F H fo F' H' σ v p.1 fv p.2 f' → Q v H') := q
 have rd : RD X.K ex (vars a) (evR cl a) σ H Q → wpAny (model X.prog X.w) X.A (eval e X.env) (EP X pins σ Q) X.xe s := fun h => he pins s σ H Q I h
 cases z : evR cl a τ with
 | error er =>
  rw [z] at q
  cases er with
  | stuck => exact q.no.elim
  | exc c => exact rd ⟨fun _ => True, τ, all_slots r, by rw [z]; exact q⟩
 | ok d =>
  rw [z] at q
  have q1 : ∀ v H' F' fv f', Ow X.K F H fo F' H' σ v (keepD a d τ).1 fv (keepD a d τ).2 f' → Q v H' := q
  by_cases hl : lfree d = true
  ·unfold keepD at q1
   rw [if_pos hl] at q1
   refine rd ⟨fun _ => True, τ, all_slots r, ?_⟩
   rw [z]
   intro v H' e m
   obtain ⟨k1, k2, k3⟩ := grow0 fok r e
   exact q1 v H' F [] fo ⟨k3, k1, m.free hl, k2, by simpa using nd, fun a ha => .inl (by simpa using ha)⟩
  ·have other : keepD a d τ = (er d, frz (vars a) τ) → wpAny (model X.prog X.w) X.A (eval e X.env) (EP X pins σ Q) X.xe s := fun hk => by
    rw [hk] at q1
    obtain ⟨F1, gg, b1, b2, b3, b4, b5, b6⟩ := freeze1 (vars a) fok r nd
    refine rd ⟨F1, τ, b6, ?_⟩
    rw [z]
    intro v H' e m
    obtain ⟨c1, c2, c3⟩ := grow (fun _ => True) b1 b2 e
    exact q1 v H' _ [] gg ⟨b4.trans c3 (fun x hx => .inl (b5 x hx)), c1, m.fix.frozen, c2, by simpa using b3, fun a ha => .inl (b5 a (by simpa using ha))⟩
   by_cases hn : newList? a = true
   ·cases d with
    | lst o ds =>
     by_cases hi : lfrees ds = true
     ·have hk : keepD a (.lst o ds) τ = (.lst true ds, τ) := by
       unfold keepD
       rw [if_neg hl, hn]
       show (if lfrees ds = true then _ else _) = _
       rw [if_pos hi]
      rw [hk] at q1
      refine hN hn pins s σ H Q I ⟨fun _ => True, τ, all_slots r, ?_⟩
      show PO' ex (bnd (evR cl a τ) asLst) _
      rw [z]
      intro p ys H' e hp hy m
      obtain ⟨k1, k2, k3⟩ := grow0 fok r e
      refine q1 (.ref p) H' F [p] fo ⟨k3, k1, .lstO (fun zz => fok p zz hp) hy (m.free hi), k2, ?_, fun a ha => ?_⟩
      ·rw [List.singleton_append, List.nodup_cons]
       refine ⟨fun zz => ?_, nd⟩
       obtain ⟨_, xs, e⟩ := r.own p zz
       rw [hp] at e; cases e
      ·rw [List.singleton_append] at ha
       rcases List.mem_cons.mp ha with rfl | ha
       ·exact .inr hp
       ·exact .inl ha
     ·have hk : keepD a (.lst o ds) τ = (.lst true (ers ds), frz (vars a) τ) := by
       unfold keepD
       rw [if_neg hl, hn]
       show (if lfrees ds = true then _ else _) = _
       rw [if_neg hi]
      rw [hk] at q1
      obtain ⟨F1, gg, b1, b2, b3, b4, b5, b6⟩ := freeze1 (vars a) fok r nd
      refine hN hn pins s σ H Q I ⟨F1, τ, b6, ?_⟩
      show PO' ex (bnd (evR cl a τ) asLst) _
      rw [z]
      intro p ys H' e hp hy m
      obtain ⟨c1, c2, c3⟩ := grow (fun a => a ≠ p) b1 b2 e
      have m2 : HReps X.K (fun a => F1 a ∨ (a ≠ p ∧ H a = none ∧ H' a ≠ none)) H' ys ds := m.step (fun a xs h r => ⟨h.1.elim (fun z => .inl z) fun z => .inr ⟨h.2, z, r.some⟩, r⟩) fun a xs h => h
      refine q1 (.ref p) H' _ [p] gg ⟨b4.trans c3 (fun x hx => .inl (b5 x hx)), c1, .lstO (fun zz => ?_) hy m2.frozen, c2, ?_, fun a ha => ?_⟩
      ·rcases zz with zz | zz
       ·exact b1 p zz hp
       ·exact zz.1 rfl
      ·rw [List.singleton_append, List.nodup_cons]
       refine ⟨fun zz => ?_, b3⟩
       obtain ⟨_, xs, e⟩ := b2.own p zz
       rw [hp] at e; cases e
      ·rw [List.singleton_append] at ha
       rcases List.mem_cons.mp ha with rfl | ha
       ·exact .inr hp
       ·exact .inl (b5 a ha)
    | _ =>
     refine other ?_
     unfold keepD
     rw [if_neg hl, hn]
   ·have hn' : newList? a = false := by simpa using hn
    refine other ?_
    unfold keepD
    rw [if_neg hl, hn']
theorem n_bin {a b : Expr} {pos : Pos} {va vb : List Nat} {fa fb : Ev → Res D} (ha : PE X a (RD X.K ex va fa)) (hb : PE X b (RD X.K ex vb fb)) :
  PE X (.BinOp a .Add b pos) (RN X.K ex (va ++ vb) fun τ => bnd (bnd (fa τ) fun x => bnd (fb τ) fun y => opB .add x y) asLst) := by
 refine peMono (pe_op op_catL ha hb) fun σ H Q ⟨S, τ, hs, q⟩ => ?_
 refine rdAt (.refl _) hs.left (PO'.bnd (PO'.bnd q)) fun x v H1 e1 _ m1 q1 => ?_
 refine rdAt e1 hs.right (PO'.bnd q1) fun y w H2 e2 e2' m2 q2 => ?_
 have stuck : ∀ {P : Prop}, opB .add x y = stk → P := fun z => by rw [z] at q2; exact q2.no.elim
 cases x with
 | int a => cases y with
  | int b => exact q2.ok.no.elim
  | _ => exact stuck rfl
 | str a => cases y with
  | str b => exact (PO'.grd q2).2.ok.no.elim
  | _ => exact stuck rfl
 | lst o a => cases y with
  | lst o' b =>
   obtain ⟨p, xs, rfl, h1, n1⟩ := m1.lstL
   obtain ⟨p', ys, rfl, h2, n2⟩ := m2.lstL
   obtain ⟨gd, q3⟩ := PO'.grd q2
   have g' := szOk_le gd
   have l1 := n1.length
   have l2 := n2.length
   have h1' : Ls X.K H2 p xs := h1.elim (fun z => .inl (e2'.rd z)) .inr
   exact ⟨p, p', xs, ys, rfl, rfl, h1', h2, by omega, fun z hz => q3.ok.ok z _ _ (e2.trans (.upd hz)) (e2.free hz) upd_same (newN ((n1.later e2').append n2) hz)⟩
  | _ => exact stuck rfl
 | _ => exact stuck rfl
theorem n_sl {a : Expr} {lo hi : Option Expr} {pos p2 : Pos} {va vl vh : List Nat} {fa : Ev → Res D} {fl fh : Ev → Res (Option Int)} (ha : PE X a (RD X.K ex va fa)) (hl : PO X lo (ROp X.K ex vl fl)) (hh : PO X hi (ROp X.K ex vh fh)) :
  PE X (.Subscript a (.Slice lo hi none p2) pos) (RN X.K ex (va ++ vl ++ vh) fun τ => bnd (bnd (fa τ) fun x => bnd (fl τ) fun l => bnd (fh τ) fun h => opSl x l h) asLst) := by
 refine peMono (pe_slice sl_list ha hl hh) fun σ H Q ⟨S, τ, hs, q⟩ => ?_
 refine rdAt (.refl _) hs.left.left (PO'.bnd (PO'.bnd q)) fun x v H1 e1 _ m1 q1 => ?_
 refine roAt e1 hs.left.right (PO'.bnd q1) fun l H2 e2 e2' q2 => ?_
 refine roAt e2 hs.right (PO'.bnd q2) fun h H3 e3 e3' q3 => ?_
 cases x with
 | lst o ds =>
  obtain ⟨p, xs, rfl, h1, n1⟩ := m1.lstR
  exact ⟨p, xs, rfl, (e2'.trans e3').seq h1, fun z hz => q3.ok.ok z _ _ (e3.trans (.upd hz)) (e3.free hz) upd_same (newN (cut_rep l h (n1.later (e2'.trans e3'))) hz)⟩
 | str _ => exact (PO'.grd q3).2.ok.no.elim
 | _ => exact q3.no.elim
theorem call_list_two (hc : X.calm = true) : CallR X (.type "list") (fun xs H Q => (∃ p ys, xs = [.ref p] ∧ (SqL X.K H p ys ∨ SqT X.K H p ys) ∧ ∀ l, H l = none → Q (.ref l) (upd H l (.lst ys))) ∨ ∃ z : Str, xs = [.str z] ∧ z.length ≤ sizeLine ∧ ∀ l, H l = none → Q (.ref l) (upd H l (.lst (charsV z)))) := by
 intro pins s σ H xs us Q I r h
 rcases h with h | h
 ·exact call_list_of pins s σ H xs us Q I r h
 ·exact call_list_txt hc pins s σ H xs us Q I r h
theorem n_list (g : GOk Z CX cl xp X ex G) {p pos : Pos} {es : List IR} {a : Expr} {args : List Expr} (hg : G.gl.contains (biNum .list) = true) (hst : chks Z G es (a :: args) = true) (h : PA X (a :: args) (RA X.K ex (varss es) (evRs cl es))) :
  PE X (.Call (.Name (biName .list) p) (a :: args) [] pos) (RN X.K ex (varss es) fun τ => bnd (bnd (evRs cl es τ) fun ds => opBi .list ds) asLst) := by
 obtain ⟨k1, k2, k3, k4⟩ := gb_of g (bi_num .list) hg
 cases es with
 | nil => cases hst
 | cons b es =>
  have hst' : (notStar a && chk Z G b a && chks Z G es args) = true := hst
  simp only [Bool.and_eq_true] at hst'
  refine peMono (pe_callTy (call_list_two g.calm) k1 k2 (bi_boot .list) h k3 k4 (star_cons hst'.1.1 args X.env) (star_none Z G (es := es) pos X.env hst'.2)) fun σ H Q ⟨S, τ, hs, q⟩ => ?_
  refine raAt (.refl _) hs (PO'.bnd (PO'.bnd q)) fun ds vs H1 e1 _ m1 q1 => ?_
  have stuck : ∀ {P : Prop}, opBi .list ds = stk → P := fun z => by rw [z] at q1; exact q1.no.elim
  match ds, m1 with
  | [], _ => exact stuck rfl
  | d :: _ :: _, _ => exact stuck (by cases d <;> rfl)
  | [d], m1 =>
   obtain ⟨x, rfl, hd⟩ := m1.one1
   cases d with
   | tup ds =>
    obtain ⟨a, ys, rfl, q', m⟩ := hd.tupR
    exact .inl ⟨a, ys, rfl, .inr q', fun z hz => q1.ok.ok z _ _ (e1.trans (.upd hz)) (e1.free hz) upd_same (newN m hz)⟩
   | lst o ds =>
    obtain ⟨a, ys, rfl, q', m⟩ := hd.lstR
    exact .inl ⟨a, ys, rfl, .inl q', fun z hz => q1.ok.ok z _ _ (e1.trans (.upd hz)) (e1.free hz) upd_same (newN m hz)⟩
   | str z =>
    cases hd.strR
    obtain ⟨gz, q1⟩ := PO'.grd q1
    exact .inr ⟨z, rfl, szOk_le gz, fun l hl => q1.ok.ok l _ _ (e1.trans (.upd hl)) (e1.free hl) upd_same (newN (chars_rep z) hl)⟩
   | _ => exact stuck rfl
end
end L2
namespace L2
open PySem PySem.Spec PyProof.Rows PySem.SeqAt
section
variable {Z : Sg} {CX : CXT} {cl : Nat → List D → Res D} {xp : XK → Hp → Str → Prop}
theorem pv_of {X : Cx} {ex : Str → Prop} {G : Gm} (g : GOk Z CX cl xp X ex G) {i : Nat} {x : Str} {pos : Pos} (h : chkV G i x = true) : PE X (.Name x pos) (tVar i) := by
 unfold chkV at h
 rw [Bool.and_eq_true] at h
 have hx : G.N[i]? = some x := eq_of_beq h.1
 have hk := g.kd i x hx
 have hv : Vis X.env.scope x := by
  have h2 := h.2
  rw [Bool.or_eq_true, Bool.or_eq_true] at h2
  rcases h2 with (h2 | h2) | h2
  ·exact .inl (hk.trans (eq_of_beq h2))
  ·exact .inr (.inl (hk.trans (eq_of_beq h2)))
  ·exact .inr (.inr (hk.trans (eq_of_beq h2)))
 exact pe_var (i := i) (by rw [g.N]; exact hx) hv (g.noD i x hx).1 (g.noD i x hx).2
theorem n_comp {X : Cx} {ex : Str → Prop} {G G' : Gm} {fr : List Nat} (g : GOk Z CX cl xp X ex G) {scope : Scope} {tg iter elt : Expr} {ifs : List Expr} {pos : Pos} {T : Tg} {s : Sr} {I : List IR} {E : IR} (hs : ScOk Z G scope G' fr) (hT : chkT G' T tg = true) (ha : ∀ i ∈ tgs T, fr.length ≤ i)
  (hi : chkSr Z G s iter = true) (ht : chks Z G' I ifs = true) (he : chk Z G' E elt = true) :
  PE X (.ListComp elt [⟨tg, iter, ifs, 0⟩] scope pos) (RN X.K ex (vars (.comp G' fr T s I E)) fun τ => bnd (evR cl (.comp G' fr T s I E) τ) asLst) := by
 intro pins s' σ H Q Iv h
 obtain ⟨cl', S⟩ := compSc_of g Iv.ok hs
 have p := pe_comp (pos := pos) (elt := elt) (ifs := ifs) (tg := tg) (g := gT X.K T) (tt := RT X.K nox (varss I) (evTs cl I)) (te := RD X.K nox (vars E) (evR cl E)) g.calm S (sndS s X ex G iter tg g hi) (fun C s H fp => pgT (gok_comp g hs cl' C s H fp) T tg hT)
  (fun C s H fp => sndT I _ nox G' ifs (gok_comp g hs cl' C s H fp) ht) (fun C s H fp => (snd E _ nox G' elt (gok_comp g hs cl' C s H fp) he).1) (fun x => folded_src hi X.env x)
 refine p pins s' σ H Q Iv ?_
 obtain ⟨S0, τ, hsl, q⟩ := h
 have q' := PO'.bnd (show PO' ex (bnd (evR cl (.comp G' fr T s I E) τ) asLst) _ from q)
 rw [evR_comp] at q'
 exact comp_core hs.fle ha hsl q' fun A ys ds H' e hA hA' m k => k.ok A ys H' e hA hA' m
theorem snN : ∀ (a : IR) (X : Cx) (ex : Str → Prop) (G : Gm) (e : Expr), GOk Z CX cl xp X ex G → chk Z G a e = true → newList? a = true → PE X e (RN X.K ex (vars a) fun τ => bnd (evR cl a τ) asLst) := by
 intro a X ex G e g h n
 cases a with
 | bin op a b =>
  cases op with
  | add =>
   cases e with
   | BinOp l o r pos =>
    have h' : (o == bop .add && chk Z G a l && chk Z G b r) = true := h
    simp only [Bool.and_eq_true] at h'
    have e1 : o = bop .add := eq_of_beq h'.1.1
    subst e1
    exact n_bin (snd a X ex G l g h'.1.2).1 (snd b X ex G r g h'.2).1
   | _ => first | exact no_h h | cases h
  | _ => cases n
 | sl a lo hi =>
  cases e with
  | Subscript o s pos =>
   cases s with
   | Slice l u st p =>
    cases st with
    | none =>
     have h' : (chk Z G a o && chkO Z G lo l && chkO Z G hi u) = true := h
     simp only [Bool.and_eq_true] at h'
     exact n_sl (snd a X ex G o g h'.1.1).1 (sndO lo X ex G l g h'.1.2) (sndO hi X ex G u g h'.2)
    | some _ => first | exact no_h h | cases h
   | _ => first | exact no_h h | cases h
  | _ => first | exact no_h h | cases h
 | bi f es =>
  cases f with
  | list =>
   cases e with
   | Call fn args kws pos =>
    cases fn with
    | Name x p =>
     cases kws with
     | nil =>
      cases args with
      | nil => first | exact no_h h | cases h
      | cons a args =>
       have h' : (x == biName .list && G.gl.contains (biNum .list) && chks Z G es (a :: args)) = true := h
       simp only [Bool.and_eq_true] at h'
       have e1 : x = biName .list := eq_of_beq h'.1.1
       subst e1
       exact n_list g h'.1.2 h'.2 (snds es X ex G _ g h'.2)
     | cons _ _ => cases args <;> first | exact no_h h | cases h
    | _ => first | exact no_h h | cases h
   | _ => first | exact no_h h | cases h
  | _ => cases n
 | comp G' fr tg src ifs elt =>
  cases e with
  | ListComp el gens scope pos =>
   have h : gen1 gens (fun t it fs => chkScope Z G scope G' fr && chkT G' tg t && (tgs tg).all (fun i => decide (fr.length ≤ i)) && chkSr Z G src it && chks Z G' ifs fs && chk Z G' elt el) = true := h
   obtain ⟨t, it, fs, rfl, h⟩ := gen1_ok h
   have h' : (chkScope Z G scope G' fr && chkT G' tg t && (tgs tg).all (fun i => decide (fr.length ≤ i)) && chkSr Z G src it && chks Z G' ifs fs && chk Z G' elt el) = true := h
   simp only [Bool.and_eq_true] at h'
   exact n_comp g (scOk_of h'.1.1.1.1.1) h'.1.1.1.1.2 (fun i hi => of_decide_eq_true (List.all_eq_true.mp h'.1.1.1.2 i hi)) h'.1.1.2 h'.1.2 h'.2
  | _ => first | exact no_h h | cases h
 | _ => cases n
mutual
theorem snO : ∀ (a : IR) (mv : Bool) (X : Cx) (ex : Str → Prop) (G : Gm) (e : Expr), GOk Z CX cl xp X ex G → chk Z G a e = true → PE X e (RO X.K ex (evO cl mv a))
 | .v i, mv, X, ex, G, e, g, h => by
  cases e with
  | Name x pos => exact o_v (pv_of g h) mv
  | _ => first | exact no_h h | cases h
 | .tup es, mv, X, ex, G, e, g, h => by
  cases e with
  | Tuple l n pos => exact o_tup (snOs es mv X ex G l g h)
  | _ => first | exact no_h h | cases h
 | .lst es, mv, X, ex, G, e, g, h => by
  cases e with
  | List l pos => exact o_lst (snOs es mv X ex G l g h)
  | _ => first | exact no_h h | cases h
 | .ite t a b, mv, X, ex, G, e, g, h => by cases e <;> exact no_h h
 | .call f es, mv, X, ex, G, e, g, h => by
  cases e with
  | Call fn args kws pos =>
   cases fn with
   | Name x p =>
    cases kws with
    | nil =>
     have h' : (chkG Z G f x && Z.fns.contains f && chks Z G es args) = true := h
     simp only [Bool.and_eq_true] at h'
     exact o_call g h'.1.1 h'.1.2 h'.2 mv
    | cons _ _ => first | exact no_h h | cases h
   | _ => first | exact no_h h | cases h
  | _ => first | exact no_h h | cases h
 | .c d, mv, X, ex, G, e, g, h => o_keep (snd _ X ex G e g h).1 (snN _ X ex G e g h)
 | .g n d, mv, X, ex, G, e, g, h => o_keep (snd _ X ex G e g h).1 (snN _ X ex G e g h)
 | .bin op a b, mv, X, ex, G, e, g, h => o_keep (snd _ X ex G e g h).1 (snN _ X ex G e g h)
 | .neg a, mv, X, ex, G, e, g, h => o_keep (snd _ X ex G e g h).1 (snN _ X ex G e g h)
 | .cmp op a b, mv, X, ex, G, e, g, h => o_keep (snd _ X ex G e g h).1 (snN _ X ex G e g h)
 | .chain op op' a b c, mv, X, ex, G, e, g, h => o_keep (snd _ X ex G e g h).1 (snN _ X ex G e g h)
 | .and_ a b, mv, X, ex, G, e, g, h => o_keep (snd _ X ex G e g h).1 (snN _ X ex G e g h)
 | .or_ a b, mv, X, ex, G, e, g, h => o_keep (snd _ X ex G e g h).1 (snN _ X ex G e g h)
 | .not_ a, mv, X, ex, G, e, g, h => o_keep (snd _ X ex G e g h).1 (snN _ X ex G e g h)
 | .idx a i, mv, X, ex, G, e, g, h => o_keep (snd _ X ex G e g h).1 (snN _ X ex G e g h)
 | .sl a lo hi, mv, X, ex, G, e, g, h => o_keep (snd _ X ex G e g h).1 (snN _ X ex G e g h)
 | .bi f es, mv, X, ex, G, e, g, h => o_keep (snd _ X ex G e g h).1 (snN _ X ex G e g h)
 | .isi a k, mv, X, ex, G, e, g, h => o_keep (snd _ X ex G e g h).1 (snN _ X ex G e g h)
 | .lrev a, mv, X, ex, G, e, g, h => o_keep (snd _ X ex G e g h).1 (snN _ X ex G e g h)
 | .mth m o es, mv, X, ex, G, e, g, h => o_keep (snd _ X ex G e g h).1 (snN _ X ex G e g h)
 | .comp G' fr tg src ifs elt, mv, X, ex, G, e, g, h => o_keep (snd _ X ex G e g h).1 (snN _ X ex G e g h)
theorem snOs : ∀ (as : List IR) (mv : Bool) (X : Cx) (ex : Str → Prop) (G : Gm) (l : List Expr), GOk Z CX cl xp X ex G → chks Z G as l = true → PA X l (ROs X.K ex (evOs cl mv as))
 | [], mv, X, ex, G, l, g, h => by
  cases l with
  | nil => exact os_nil
  | cons _ _ => first | exact no_h h | cases h
 | a :: as, mv, X, ex, G, l, g, h => by
  cases l with
  | nil => first | exact no_h h | cases h
  | cons e l =>
   have h' : (notStar e && chk Z G a e && chks Z G as l) = true := h
   simp only [Bool.and_eq_true] at h'
   exact os_cons h'.1.1 (snO a mv X ex G e g h'.1.2) (snOs as mv X ex G l g h'.2)
end
end
end L2
namespace L2
open PySem PySem.Spec PyProof.Rows PySem.SeqAt
structure Bs where
 F : Addr → Prop
 H : Hp
 L : Addr → List V → Prop
 T : Addr → List V → Prop
structure Frm (K : PySem.W.Frag) (B : Bs) (F : Addr → Prop) (H : Hp) (σ : St) (τ : Ev) (f : List Addr) : Prop where
 fok : FOk F H
 rps : Rps K F H σ τ f
 nod : f.Nodup
 same : Same B.H H
 own : ∀ a ∈ f, B.H a = none
 inn : ∀ a, B.F a → F a
 out : ∀ a, F a → B.F a ∨ B.H a = none
 pin : ∀ a xs, B.L a xs → F a ∧ Rd H a (.lst xs)
 pit : ∀ a xs, B.T a xs → SqT K H a xs
noncomputable def Fk (K : PySem.W.Frag) (B : Bs) (Dn : Ends) : Fl → Prop
 | .nx τ => ∀ σ H F f, Frm K B F H σ τ f → Dn.nx σ H
 | .bk τ => ∀ σ H F f, Frm K B F H σ τ f → Dn.bk σ H
 | .ct τ => ∀ σ H F f, Frm K B F H σ τ f → Dn.ct σ H
 | .rt d => ∀ v H F fv, Out K B.F B.H F H v d fv → Dn.rt v H
noncomputable def RS (K : PySem.W.Frag) (ex : Str → Prop) (g : Ev → Res Fl) : TS := fun Dn σ H => ∃ B F τ f, Frm K B F H σ τ f ∧ PO' ex (g τ) (Fk K B Dn)
section
variable {K : PySem.W.Frag} {B : Bs} {F F' : Addr → Prop} {H H' : Hp} {σ : St} {τ τ' : Ev} {f f' : List Addr} {ex : Str → Prop}
theorem Frm.stp (m : Frm K B F H σ τ f) (s : Stp F H f F' H') (fok : FOk F' H') (r : Rps K F' H' σ τ' f') (nd : f'.Nodup) (hm : ∀ a ∈ f', a ∈ f ∨ H a = none) : Frm K B F' H' σ τ' f' where
 fok := fok
 rps := r
 nod := nd
 same := m.same.trans s.same
 own := fun a ha => (hm a ha).elim (m.own a) fun z => m.same.free z
 inn := fun a h => s.inn a (m.inn a h)
 out := fun a h => by
  rcases s.out a h with h | h | h
  ·exact m.out a h
  ·exact .inr (m.own a h)
  ·exact .inr (m.same.free h)
 pin := fun a xs h => ⟨s.inn a (m.pin a xs h).1, s.same.rd (m.pin a xs h).2⟩
 pit := fun a xs h => s.same.seqT (m.pit a xs h)
theorem Frm.ow {v : V} {d : D} {fv : List Addr} (m : Frm K B F H σ τ f) (o : Ow K F H f F' H' σ v d fv τ' f') : Frm K B F' H' σ τ' f' ∧ ∀ a ∈ fv, B.H a = none :=
 ⟨m.stp o.stp o.fok o.rps (List.nodup_append.mp o.nod).2.1 fun a ha => o.mem a (List.mem_append_right _ ha), fun a ha => (o.mem a (List.mem_append_left _ ha)).elim (m.own a) fun z => m.same.free z⟩
theorem Frm.grow (m : Frm K B F H σ τ f) (e : Same H H') : Frm K B F H' σ τ f := by
 obtain ⟨k1, k2, k3⟩ := grow0 m.fok m.rps e
 exact m.stp k3 k1 k2 m.nod fun a ha => .inl ha
theorem Frm.ro {g : Ev → Res (D × Ev)} {Kt : D × Ev → Prop} {Q : VK} (m : Frm K B F H σ τ f) (h : PO' ex (g τ) Kt) (k : ∀ p v H' F' fv f', Ow K F H f F' H' σ v p.1 fv p.2 f' → Kt p → Q v H') : RO K ex g σ H Q :=
 ⟨F, τ, f, m.fok, m.rps, m.nod, h.mono fun p hp v H' F' fv f' o => k p v H' F' fv f' o hp⟩
theorem Frm.rt {is : List Nat} {g : Ev → Res Bool} {Kt : Bool → Prop} {Q : Bool → Hp → Prop} (m : Frm K B F H σ τ f) (h : PO' ex (g τ) Kt) (k : ∀ b H', Frm K B F H' σ τ f → Same H H' → Kt b → Q b H') : RT K ex is g σ H Q :=
 rtAt (.refl _) (all_slots m.rps) h fun b H2 e2 _ hb => k b H2 (m.grow e2) e2 hb
theorem Frm.rd {is : List Nat} {g : Ev → Res D} {Kt : D → Prop} {Q : VK} (m : Frm K B F H σ τ f) (h : PO' ex (g τ) Kt) (k : ∀ d v H', Frm K B F H' σ τ f → Same H H' → HRep K (nw (fun _ => True) H) H' v d → Kt d → Q v H') : RD K ex is g σ H Q :=
 rdAt (.refl _) (all_slots m.rps) h fun b v H2 e2 _ mv hb => k b v H2 (m.grow e2) e2 mv hb
mutual
theorem gT_own : ∀ (t : Tg) {σ : St} {τ : Ev} {f : List Addr} {v : V} {d : D} {fv : List Addr} {Kt : Ev → Prop} {Q : St → Hp → Prop}, Rps K F H σ τ f → MRep K F H v d fv → (fv ++ f).Nodup → PO' ex (setT t d τ) Kt →
  (∀ τ' σ' f', Rps K F H σ' τ' f' → f'.Nodup → (∀ a ∈ f', a ∈ fv ++ f) → Kt τ' → Q σ' H) → gT K t v σ H Q
 | .nm i, σ, τ, f, v, d, fv, Kt, Q, r, m, nd, h, k => by
  obtain ⟨g, h', r2, p2⟩ := r.put i m
  have nd2 : (g ++ h').Nodup := p2.nodup_iff.mpr nd
  exact k (τ.set i (some d)) (σ.set i (some v)) g r2 (List.nodup_append.mp nd2).1 (fun a ha => p2.mem_iff.mp (List.mem_append_left _ ha)) h.ok
 | .tp ts, σ, τ, f, v, d, fv, Kt, Q, r, m, nd, h, k => by
  cases m with
  | tup h1 h2 =>
   obtain ⟨gd, h⟩ := PO'.grd h
   have g' := of_decide_eq_true gd
   exact ⟨_, _, rfl, .inl h1, by rw [h2.length]; exact g', gTs_own ts r h2 nd h k⟩
  | lstS h0 h1 h2 =>
   obtain ⟨gd, h⟩ := PO'.grd h
   have g' := of_decide_eq_true gd
   exact ⟨_, _, rfl, .inr (.inl h1), by rw [h2.length]; exact g', gTs_own ts r h2 nd h k⟩
  | lstK h1 h2 =>
   obtain ⟨gd, h⟩ := PO'.grd h
   have g' := of_decide_eq_true gd
   exact ⟨_, _, rfl, .inr h1.sq, by rw [h2.length]; exact g', gTs_own ts r h2 nd h k⟩
  | lstO h0 h1 h2 =>
   obtain ⟨gd, h⟩ := PO'.grd h
   have g' := of_decide_eq_true gd
   rw [List.cons_append, List.nodup_cons] at nd
   exact ⟨_, _, rfl, .inr (.inl (.inl h1)), by rw [h2.length]; exact g', gTs_own ts r h2 nd.2 h fun τ' σ' f' a1 a2 a3 a4 => k τ' σ' f' a1 a2 (fun x hx => by rw [List.cons_append]; exact List.mem_cons_of_mem _ (a3 x hx)) a4⟩
  | _ => exact h.no.elim
theorem gTs_own : ∀ (ts : List Tg) {σ : St} {τ : Ev} {f : List Addr} {vs : List V} {ds : List D} {fv : List Addr} {Kt : Ev → Prop} {Q : St → Hp → Prop}, Rps K F H σ τ f → MReps K F H vs ds fv → (fv ++ f).Nodup → PO' ex (setTs ts ds τ) Kt →
  (∀ τ' σ' f', Rps K F H σ' τ' f' → f'.Nodup → (∀ a ∈ f', a ∈ fv ++ f) → Kt τ' → Q σ' H) → gTs K ts vs σ H Q
 | [], σ, τ, f, vs, ds, fv, Kt, Q, r, m, nd, h, k => by
  cases m with
  | nil => exact ⟨rfl, k τ σ f r (by simpa using nd) (fun a ha => by simpa using ha) h.ok⟩
  | cons _ _ => exact h.no.elim
 | t :: ts, σ, τ, f, vs, ds, fv, Kt, Q, r, m, nd, h, k => by
  cases m with
  | nil => exact h.no.elim
  | cons m1 m2 =>
   rename_i v d f1 vs ds f2
   have nd' : (f2 ++ (f1 ++ f)).Nodup := by
    refine (List.Perm.nodup_iff ?_).mp nd
    rw [← List.append_assoc]
    exact List.Perm.append_right f List.perm_append_comm
   refine ⟨_, _, rfl, gT_own t r m1 (List.nodup_append.mp nd').2.1 (PO'.bnd h) fun τ' σ' f' r' nf' hm' h' => ?_⟩
   refine gTs_own ts r' m2 (List.nodup_append.mpr ⟨(List.nodup_append.mp nd').1, nf', fun a h1 b h2 e => (List.nodup_append.mp nd').2.2 a h1 b (hm' b h2) e⟩) h' fun τ'' σ'' f'' r'' nf'' hm'' h'' => k τ'' σ'' f'' r'' nf'' (fun a ha => ?_) h''
   rcases List.mem_append.mp (hm'' a ha) with z | z
   ·exact List.mem_append_left _ (List.mem_append_right _ z)
   ·rcases List.mem_append.mp (hm' a z) with z | z
    ·exact List.mem_append_left _ (List.mem_append_left _ z)
    ·exact List.mem_append_right _ z
end
theorem Frm.gT {t : Tg} {v : V} {d : D} {fv : List Addr} {Kt : Ev → Prop} {Q : St → Hp → Prop} (m : Frm K B F H σ τ f) (mv : MRep K F H v d fv) (nd : (fv ++ f).Nodup) (hb : ∀ a ∈ fv, B.H a = none) (h : PO' ex (setT t d τ) Kt)
  (k : ∀ τ' σ' f', Frm K B F H σ' τ' f' → Kt τ' → Q σ' H) : L2.gT K t v σ H Q :=
 gT_own t m.rps mv nd h fun τ' σ' f' r' nf' hm h' => k τ' σ' f' ⟨m.fok, r', nf', m.same, fun a ha => (List.mem_append.mp (hm a ha)).elim (hb a) (m.own a), m.inn, m.out, m.pin, m.pit⟩ h'
theorem Frm.write {i : Nat} {ds ds' : List D} {w : V} {d : D} {fv : List Addr} {l : Addr} {xs ys : List V} (m : Frm K B F H σ τ f) (hs : slotD τ i = some (.lst true ds)) (hσ : σ[i]? = some (some (.ref l))) (hl : H l = some (.lst xs)) (mw : MRep K F H w d fv) (nd : (fv ++ f).Nodup) (hb : ∀ a ∈ fv, B.H a = none)
  (hy : ∀ fi, MReps K F H xs ds fi → ∃ fl h, MReps K F H ys ds' fl ∧ (fl ++ h).Perm (fv ++ fi)) : ∃ f', Frm K B F (upd H l (.lst ys)) σ (τ.set i (some (.lst true ds'))) f' := by
 obtain ⟨v, fs, g, h1, h2, h3, h4⟩ := m.rps.at hs
 rw [hσ] at h1
 cases h1
 cases h2 with
 | @lstO a xs' ds0 fi hF hH hm =>
  rw [hl] at hH
  cases hH
  obtain ⟨fl, h, hm', hp⟩ := hy fi hm
  have ndf : ((l :: fi) ++ g).Nodup := h4.nodup_iff.mp m.nod
  have nda : (fv ++ ((l :: fi) ++ g)).Nodup := (List.Perm.append_left fv h4).nodup_iff.mp nd
  have lg : l ∉ g := by
   rw [List.cons_append, List.nodup_cons] at ndf
   exact fun z => ndf.1 (List.mem_append_right _ z)
  have lfi : l ∉ fi := by
   rw [List.cons_append, List.nodup_cons] at ndf
   exact fun z => ndf.1 (List.mem_append_left _ z)
  have lfv : l ∉ fv := fun z => (List.nodup_append.mp nda).2.2 l z l (by simp) rfl
  have inFl : ∀ a ∈ fl, a ∈ fv ++ fi := fun a ha => hp.mem_iff.mp (List.mem_append_left _ ha)
  have lfl : l ∉ fl := fun z => (List.mem_append.mp (inFl l z)).elim lfv lfi
  have sl : ∀ a xs, F a → Rd H a (.lst xs) → F a ∧ Rd (upd H l (.lst ys)) a (.lst xs) := fun a xs h r => by
   refine ⟨h, ?_⟩
   have : a ≠ l := fun z => hF (by rw [← z]; exact h)
   unfold Rd
   rw [upd_ne this]
   exact r
  have st : ∀ a xs, SqT K H a xs → SqT K (upd H l (.lst ys)) a xs := fun a xs h => by
   rcases h with h | h
   ·have : a ≠ l := by
     rintro rfl
     rcases h with h | ⟨o, h⟩ <;> (rw [hl] at h; cases h)
    refine .inl ?_
    unfold Rd
    rw [upd_ne this]
    exact h
   ·exact .inr h
  have r1 : Rps K F (upd H l (.lst ys)) σ (τ.set i none) g := h3.step sl st fun a ha n _ => ⟨n, upd_ne fun z => lg (by rw [← z]; exact ha)⟩
  have m1 : MRep K F (upd H l (.lst ys)) (.ref l) (.lst true ds') (l :: fl) := .lstO hF upd_same (hm'.step sl st fun a ha n _ => ⟨n, upd_ne fun z => lfl (by rw [← z]; exact ha)⟩)
  obtain ⟨g', h', r2, p2⟩ := r1.put i m1
  have hσ' : σ.set i (some (.ref l)) = σ := by
   apply List.ext_getElem?
   intro j
   rw [List.getElem?_set]
   by_cases hj : i = j
   ·subst hj
    have hlt : i < σ.length := (List.getElem?_eq_some_iff.mp hσ).1
    rw [if_pos rfl, if_pos hlt, hσ]
   ·rw [if_neg hj]
  rw [hσ', List.set_set] at r2
  have ndl : ((l :: fl) ++ g).Nodup := by
   rw [List.cons_append, List.nodup_cons]
   refine ⟨fun z => (List.mem_append.mp z).elim lfl lg, List.nodup_append.mpr ⟨?_, (List.nodup_append.mp ndf).2.1, fun a h1 b h2 e => ?_⟩⟩
   ·have : (fl ++ h).Nodup := hp.nodup_iff.mpr (List.nodup_append.mpr ⟨(List.nodup_append.mp nda).1, (List.nodup_cons.mp (List.nodup_append.mp ndf).1).2, fun a h1 b h2 e => (List.nodup_append.mp nda).2.2 a h1 b (List.mem_append_left _ (List.mem_cons_of_mem _ h2)) e⟩)
    exact (List.nodup_append.mp this).1
   ·subst e
    rcases List.mem_append.mp (inFl a h1) with z | z
    ·exact (List.nodup_append.mp nda).2.2 a z a (List.mem_append_right _ h2) rfl
    ·exact (List.nodup_append.mp ndf).2.2 a (List.mem_cons_of_mem _ z) a h2 rfl
  have nd2 : (g' ++ h').Nodup := p2.nodup_iff.mpr ndl
  have lB : B.H l = none := m.own l (h4.mem_iff.mpr (by simp))
  refine ⟨g', fun a h => ?_, r2, (List.nodup_append.mp nd2).1, fun b o hbo => ?_, fun a ha => ?_, m.inn, m.out, fun a xs h => ⟨(m.pin a xs h).1, (sl a xs (m.pin a xs h).1 (m.pin a xs h).2).2⟩, fun a xs h => st a xs (m.pit a xs h)⟩
  ·have : a ≠ l := fun z => hF (by rw [← z]; exact h)
   rw [upd_ne this]
   exact m.fok a h
  ·have : b ≠ l := fun z => by rw [z, lB] at hbo; cases hbo
   rw [upd_ne this]
   exact m.same _ _ hbo
  ·have : a ∈ (l :: fl) ++ g := p2.mem_iff.mp (List.mem_append_left _ ha)
   rcases List.mem_append.mp this with z | z
   ·rcases List.mem_cons.mp z with rfl | z
    ·exact lB
    ·rcases List.mem_append.mp (inFl a z) with z | z
     ·exact hb a z
     ·exact m.own a (h4.mem_iff.mpr (List.mem_append_left _ (List.mem_cons_of_mem _ z)))
   ·exact m.own a (h4.mem_iff.mpr (List.mem_append_right _ z))
theorem MReps.snoc {w : V} {d : D} {fv : List Addr} (mw : MRep K F H w d fv) {xs : List V} {ds : List D} {fi : List Addr} (m : MReps K F H xs ds fi) : ∃ fl h, MReps K F H (xs ++ [w]) (ds ++ [d]) fl ∧ (fl ++ h).Perm (fv ++ fi) :=
 ⟨fi ++ (fv ++ []), [], m.append (.cons mw .nil), by rw [List.append_nil, List.append_nil]; exact List.perm_append_comm⟩
end
end L2
namespace L2
open PySem PySem.Spec PyProof.Rows PySem.SeqAt
noncomputable def notTuple : Expr → Bool
 | .Tuple .. => false
 | _ => true
noncomputable def notComp : Expr → Bool
 | .ListComp .. => false
 | .SetComp .. => false
 | .DictComp .. => false
 | _ => true
noncomputable def isName : Expr → Bool
 | .Name .. => true
 | _ => false
noncomputable def isTup : Expr → Bool
 | .Tuple .. => true
 | _ => false
mutual
noncomputable def chkS (Z : Sg) (G : Gm) : IS → Stmt → Bool
 | .asg tg e, .Assign [t] v _ => chkT G tg t && chk Z G e v && (isName t || (isTup t && notTuple v))
 | .app i e, .Expr (.Call (.Attribute (.Name x _) name apos) [v] [] cpos) _ => chkV G i x && name == "append" && apos.endLine == cpos.line && notStar v && chk Z G e v
 | .pass, .Expr (.Constant (.str _) _ _) _ => true
 | .exp e, .Expr v _ => notComp v && chk Z G e v
 | .ret e, .Return (some v) _ => chk Z G e v
 | .retN, .Return none _ => true
 | .if_ t a b, .If c x y _ => chk Z G t c && chkSs Z G a x && chkSs Z G b y
 | .for_ tg s body, .For t it b [] _ => chkT G tg t && chkSr Z G s it && chkSs Z G body b
 | .brk, .Break _ => true
 | .cnt, .Continue _ => true
 | .pass, .Pass _ => true
 | .never, _ => true
 | _, _ => false
noncomputable def chkSs (Z : Sg) (G : Gm) : List IS → List Stmt → Bool
 | [], [] => true
 | a :: as, s :: ss => chkS Z G a s && chkSs Z G as ss
 | _, _ => false
end
section
variable {Z : Sg} {CX : CXT} {cl : Nat → List D → Res D} {xp : XK → Hp → Str → Prop} {X : Cx} {ex : Str → Prop} {G : Gm}
theorem t_asg {tg : Tg} {ga : Ev → Res (D × Ev)} {Dn : Ends} {σ : St} {H : Hp} (h : RS X.K ex (fun τ => bnd (ga τ) fun p => bnd (setT tg p.1 p.2) fun τ' => .ok (.nx τ')) Dn σ H) : tAsg (RO X.K ex ga) (gT X.K tg) Dn σ H := by
 obtain ⟨B, F, τ, f, m, q⟩ := h
 refine m.ro (PO'.bnd q) fun p v H' F' fv f' o hp => ?_
 obtain ⟨m', hb⟩ := m.ow o
 exact m'.gT o.rep o.nod hb (PO'.bnd hp) fun τ' σ' f'' m'' h' => h'.ok _ _ _ _ m''
theorem st_asg (g : GOk Z CX cl xp X ex G) {tg : Tg} {e : IR} {t v : Expr} {pos : Pos} (ht : chkT G tg t = true) (hv : chk Z G e v = true) (hc : (isName t || (isTup t && notTuple v)) = true) : PS X (.Assign [t] v pos) (RS X.K ex (evS cl (.asg tg e))) := by
 have pe := snO e false X ex G v g hv
 have pg := pgT g tg t ht
 cases t with
 | Name x px =>
  cases tg with
  | tp _ => cases ht
  | nm i =>
   have ht' : (G.N[i]? == some x && (G.kd[i]? == some .local || (G.df && G.kd[i]? == some .cell))) = true := ht
   rw [Bool.and_eq_true, Bool.or_eq_true, Bool.and_eq_true] at ht'
   have hx : G.N[i]? = some x := eq_of_beq ht'.1
   have hk := g.kd i x hx
   have hloc : Loc X.env.scope x := ht'.2.elim (fun z => .inl (hk.trans (eq_of_beq z))) fun z => .inr (hk.trans (eq_of_beq z.2))
   have hfn : X.fn x = true ∨ X.env.scope.names.lookup x = some .local := ht'.2.elim (fun z => .inr (hk.trans (eq_of_beq z))) fun z => .inl (g.df z.1 x)
   have plain : swapsWith v (some (.Name x px)) pos.line X.env = pure false → PS X (.Assign [.Name x px] v pos) (RS X.K ex (evS cl (.asg (.nm i) e))) := fun hs =>
    psMono (ps_set (i := i) (by rw [g.N]; exact g.nod) (by rw [g.N]; exact hx) hloc pe hs hfn) fun Dn σ H h => t_asg h
   cases v with
   | ListComp el gens scope vpos =>
    have hsw : swapsWith (.ListComp el gens scope vpos) (some (.Name x px)) pos.line X.env = pure (X.env.blockKind == .function && X.env.kindOf x == some .local && px.line == vpos.line && !(scope.names.any fun (n, k) => n == x && (k == .local || k == .cell))) := rfl
    cases hb : (X.env.blockKind == .function && X.env.kindOf x == some .local && px.line == vpos.line && !(scope.names.any fun (n, k) => n == x && (k == .local || k == .cell))) with
    | false => exact plain (by rw [hsw, hb])
    | true =>
     rw [hb] at hsw
     have hlx : X.env.kindOf x = some .local := by
      simp only [Bool.and_eq_true] at hb
      exact eq_of_beq hb.1.1.2
     cases e with
     | comp G' fr T src ifs elt =>
      have hv : gen1 gens (fun t it fs => chkScope Z G scope G' fr && chkT G' T t && (tgs T).all (fun i => decide (fr.length ≤ i)) && chkSr Z G src it && chks Z G' ifs fs && chk Z G' elt el) = true := hv
      obtain ⟨t, it, fs, rfl, hv⟩ := gen1_ok hv
      have h' : (chkScope Z G scope G' fr && chkT G' T t && (tgs T).all (fun i => decide (fr.length ≤ i)) && chkSr Z G src it && chks Z G' ifs fs && chk Z G' elt el) = true := hv
      simp only [Bool.and_eq_true] at h'
      have hs := scOk_of h'.1.1.1.1.1
      have hT := h'.1.1.1.1.2
      have ha : ∀ i ∈ tgs T, fr.length ≤ i := fun i hi => of_decide_eq_true (List.all_eq_true.mp h'.1.1.1.2 i hi)
      intro pins s' σ H Dn Iv h
      obtain ⟨cl', S⟩ := compSc_of g Iv.ok hs
      have p := ps_comp (py := px) (spos := pos) (i := i) (pos := vpos) (elt := el) (ifs := fs) (tg := t) (g := gT X.K T) (tt := RT X.K nox (varss ifs) (evTs cl ifs)) (te := RD X.K nox (vars elt) (evR cl elt)) g.calm (by rw [g.N]; exact g.nod) (by rw [g.N]; exact hx) hlx S (sndS src X ex G it t g h'.1.1.2) (fun C s H fp => pgT (gok_comp g hs cl' C s H fp) T t hT)
       (fun C s H fp => sndT ifs _ nox G' fs (gok_comp g hs cl' C s H fp) h'.1.2) (fun C s H fp => (snd elt _ nox G' el (gok_comp g hs cl' C s H fp) h'.2).1) hsw (fun x => folded_src h'.1.1.2 X.env x)
      refine p pins s' σ H Dn Iv ?_
      obtain ⟨B, F, τ, f, m, q⟩ := h
      -- as one that is kept
      have q0 : PO' ex (bnd (bnd (evR cl (.comp G' fr T src ifs elt) τ) fun d => .ok (keepD (.comp G' fr T src ifs elt) d τ)) fun p => bnd (setT (.nm i) p.1 p.2) fun τ' => .ok (.nx τ')) (Fk X.K B Dn) := q
      have q1 := PO'.bnd (PO'.bnd q0)
      have fin : ∀ (d : D) (v : V) (H' : Hp) (F' : Addr → Prop) (fv f' : List Addr), Ow X.K F H f F' H' σ v (keepD (.comp G' fr T src ifs elt) d τ).1 fv (keepD (.comp G' fr T src ifs elt) d τ).2 f' → (∀ (p : D × Ev), p = keepD (.comp G' fr T src ifs elt) d τ → PO' ex (bnd (setT (.nm i) p.1 p.2) fun τ' => .ok (.nx τ')) (Fk X.K B Dn)) → Dn.nx (σ.set i (some v)) H' := by
       intro d v H' F' fv f' o hp
       obtain ⟨m', hb'⟩ := m.ow o
       have := m'.gT (t := .nm i) (Q := Dn.nx) o.rep o.nod hb' (PO'.bnd (hp _ rfl)) fun τ' σ' f'' m'' h' => h'.ok _ _ _ _ m''
       exact this
      cases z : evR cl (.comp G' fr T src ifs elt) τ with
      | error er =>
       rw [z] at q1
       cases er with
       | stuck => exact q1.no.elim
       | exc c =>
        refine comp_core (S := fun _ => True) (τ := τ) (ex := ex) (Kt := fun _ => False) hs.fle ha (all_slots m.rps) ?_ fun A ys ds H' e hA hA' mm k => k.elim
        show PO' ex (evR cl (.comp G' fr T src ifs elt) τ) _
        rw [z]
        exact q1
      | ok d =>
       rw [z] at q1
       have q2 := q1.ok.ok
       obtain ⟨o', ds, rfl⟩ : ∃ o ds, d = .lst o ds := by
        have zz := z
        rw [evR_comp] at zz
        obtain ⟨its, _, zz⟩ := bnd_ok zz
        obtain ⟨_, zz⟩ := grd_ok zz
        obtain ⟨ds, _, zz⟩ := bnd_ok zz
        cases zz
        exact ⟨true, ds, rfl⟩
       by_cases hi : lfrees ds = true
       ·have hkp : keepD (.comp G' fr T src ifs elt) (.lst o' ds) τ = (.lst true ds, τ) := by
         unfold keepD
         rw [if_neg (show ¬ lfree (.lst o' ds) = true by intro z; cases z)]
         show (if lfrees ds = true then _ else _) = _
         rw [if_pos hi]
        refine comp_core (S := fun _ => True) (τ := τ) (ex := ex) (Kt := fun d' => ∃ o'', d' = .lst o'' ds) hs.fle ha (all_slots m.rps) ?_ fun A ys ds' H' e hA hA' mm k => ?_
        ·show PO' ex (evR cl (.comp G' fr T src ifs elt) τ) _
         rw [z]
         exact ⟨o', rfl⟩
        ·obtain ⟨o'', k⟩ := k
         cases k
         obtain ⟨k1, k2, k3⟩ := grow0 m.fok m.rps e
         refine fin (.lst o' ds) (.ref A) H' F [A] f ?_ (fun p hp => by subst hp; exact q2)
         rw [hkp]
         refine ⟨k3, k1, .lstO (fun zz => m.fok A zz hA) hA' (mm.free hi), k2, ?_, fun a ha => ?_⟩
         ·rw [List.singleton_append, List.nodup_cons]
          refine ⟨fun zz => ?_, m.nod⟩
          obtain ⟨_, xs, e⟩ := m.rps.own A zz
          rw [hA] at e; cases e
         ·rw [List.singleton_append] at ha
          rcases List.mem_cons.mp ha with rfl | ha
          ·exact .inr hA
          ·exact .inl ha
       ·have hkp : keepD (.comp G' fr T src ifs elt) (.lst o' ds) τ = (.lst true (ers ds), frz (vars (.comp G' fr T src ifs elt)) τ) := by
         unfold keepD
         rw [if_neg (show ¬ lfree (.lst o' ds) = true by intro z; cases z)]
         show (if lfrees ds = true then _ else _) = _
         rw [if_neg hi]
        obtain ⟨F1, gg, b1, b2, b3, b4, b5, b6⟩ := freeze1 (vars (.comp G' fr T src ifs elt)) m.fok m.rps m.nod
        refine comp_core (S := F1) (τ := τ) (ex := ex) (Kt := fun d' => ∃ o'', d' = .lst o'' ds) hs.fle ha b6 ?_ fun A ys ds' H' e hA hA' mm k => ?_
        ·show PO' ex (evR cl (.comp G' fr T src ifs elt) τ) _
         rw [z]
         exact ⟨o', rfl⟩
        ·obtain ⟨o'', k⟩ := k
         cases k
         obtain ⟨c1, c2, c3⟩ := grow (fun a => a ≠ A) b1 b2 e
         have m2 : HReps X.K (fun a => F1 a ∨ (a ≠ A ∧ H a = none ∧ H' a ≠ none)) H' ys ds := mm.step (fun a xs h r => ⟨h.1.elim (fun z => .inl z) fun z => .inr ⟨h.2, z, r.some⟩, r⟩) fun a xs h => h
         refine fin (.lst o' ds) (.ref A) H' (fun a => F1 a ∨ (a ≠ A ∧ H a = none ∧ H' a ≠ none)) [A] gg ?_ (fun p hp => by subst hp; exact q2)
         rw [hkp]
         refine ⟨b4.trans c3 (fun x hx => .inl (b5 x hx)), c1, .lstO (fun zz => ?_) hA' m2.frozen, c2, ?_, fun a ha => ?_⟩
         ·rcases zz with zz | zz
          ·exact b1 A zz hA
          ·exact zz.1 rfl
         ·rw [List.singleton_append, List.nodup_cons]
          refine ⟨fun zz => ?_, b3⟩
          obtain ⟨_, xs, e⟩ := b2.own A zz
          rw [hA] at e; cases e
         ·rw [List.singleton_append] at ha
          rcases List.mem_cons.mp ha with rfl | ha
          ·exact .inr hA
          ·exact .inl (b5 a ha)
     | _ => first | exact no_h hv | cases hv
   | SetComp _ _ _ _ => cases e <;> first | exact no_h hv | cases hv
   | DictComp _ _ _ _ _ => cases e <;> first | exact no_h hv | cases hv
   | _ => exact plain rfl
 | Tuple ts k px =>
  have hc' : notTuple v = true := hc
  refine psMono (ps_asg pe pg ?_ ?_ rfl) fun Dn σ H h => t_asg h
  ·cases v <;> rfl
  ·cases v <;> first | rfl | cases hc'
 | _ => cases hc
end
end L2
namespace L2
open PySem PySem.Spec PyProof.Rows PySem.SeqAt
section
variable {Z : Sg} {CX : CXT} {cl : Nat → List D → Res D} {xp : XK → Hp → Str → Prop} {X : Cx} {ex : Str → Prop} {G : Gm}
theorem own_at {K : PySem.W.Frag} {F : Addr → Prop} {H : Hp} {σ : St} {τ : Ev} {f : List Addr} {i : Nat} {ds : List D} (r : Rps K F H σ τ f) (hs : slotD τ i = some (.lst true ds)) : ∃ l xs, σ[i]? = some (some (.ref l)) ∧ H l = some (.lst xs) ∧ xs.length = ds.length := by
 obtain ⟨v, fs, g, h1, h2, h3, h4⟩ := r.at hs
 cases h2 with
 | lstO hF hH hm => exact ⟨_, _, h1, hH, hm.length⟩
theorem st_app (g : GOk Z CX cl xp X ex G) {i : Nat} {e : IR} {x : Str} {p apos cpos pos : Pos} {v : Expr} (h1 : chkV G i x = true) (h2 : (apos.endLine == cpos.line) = true) (h3 : notStar v = true) (h4 : chk Z G e v = true) :
  PS X (.Expr (.Call (.Attribute (.Name x p) "append" apos) [v] [] cpos) pos) (RS X.K ex (evS cl (.app i e))) := by
 have pa : PA X [v] (tCons (RO X.K ex (evO cl false e)) tNil) := pa_cons (snO e false X ex G v g h4) pa_nil (star_cons h3 _ _)
 have hfew : ((backTo cpos (starEach [v] X.env)).all (fun x => !x.1) && (backToKw cpos (keywordEach [] X.env)).all (fun x => x.1.isSome) && decide ([v].length + ([] : List Keyword).length + (if ([] : List Keyword).isEmpty then 0 else 1) < 30)) = true := by
  rw [star_cons h3]
  rfl
 refine psMono (ps_expr (pe_bm PySem.F.plainAttrs_list PySem.F.slot_list_append PySem.F.type_list_append mt_append (pv_of g h1) pa rfl hfew h2 (star_cons h3 _ _) rfl)) fun Dn σ H h => ?_
 obtain ⟨B, F, τ, f, m, q⟩ := h
 have q0 : PO' ex (match slotD τ i with | some (.lst _ _) => (bnd (evO cl false e τ) fun p => (match slotD p.2 i with | some (.lst true ds) => grd (szLt ds.length) (.ok (.nx (p.2.set i (some (.lst true (ds ++ [p.1])))))) | _ => stk)) | _ => stk) (Fk X.K B Dn) := q
 cases z0 : slotD τ i with
 | none => rw [z0] at q0; exact q0.no.elim
 | some d0 =>
  rw [z0] at q0
  cases d0 with
  | lst o0 ds0 =>
   obtain ⟨v0, fv0, g0, a1, a2, a3, a4⟩ := m.rps.at z0
   have hq : ∃ l xs, v0 = .ref l ∧ SqL X.K H l xs := by
    cases a2 with
    | lstS _ b1 _ => exact ⟨_, _, rfl, .inl b1⟩
    | lstK b1 _ => exact ⟨_, _, rfl, b1.sq⟩
    | lstO _ b1 _ => exact ⟨_, _, rfl, .inl (.inl b1)⟩
   obtain ⟨l, xs0, rfl, hq⟩ := hq
   refine ⟨.ref l, a1, .inl ⟨rfl, xs0, hq⟩, m.ro (PO'.bnd q0) fun p v H' F' fv f' o hp => ?_⟩
   obtain ⟨m', hb⟩ := m.ow o
   cases zs : slotD p.2 i with
   | none => rw [zs] at hp; exact hp.no.elim
   | some d =>
    rw [zs] at hp
    cases d with
    | lst ow ds =>
     cases ow with
     | false => exact hp.no.elim
     | true =>
      obtain ⟨gd, hp⟩ := PO'.grd hp
      obtain ⟨l', xs, hσ, hl, hlen⟩ := own_at m'.rps zs
      rw [a1] at hσ
      cases hσ
      obtain ⟨f'', m3⟩ := m'.write (ys := xs ++ [v]) (ds' := ds ++ [p.1]) zs a1 hl o.rep o.nod hb fun fi hm => hm.snoc o.rep
      exact ⟨l, xs, v, rfl, rfl, hl, by rw [hlen]; exact szLt_lt gd, hp.ok _ _ _ _ m3⟩
    | _ => exact hp.no.elim
  | _ => exact q0.no.elim
theorem Fk.rt_of {K : PySem.W.Frag} {B : Bs} {F F' : Addr → Prop} {H H' : Hp} {σ : St} {τ τ' : Ev} {f f' : List Addr} {v : V} {d : D} {fv : List Addr} (m : Frm K B F H σ τ f) (o : Ow K F H f F' H' σ v d fv τ' f') : Out K B.F B.H F' H' v d fv := by
 obtain ⟨m', hb⟩ := m.ow o
 exact ⟨m'.fok, m'.same, o.rep, (List.nodup_append.mp o.nod).1, hb, m'.inn, m'.out⟩
theorem st_ret (g : GOk Z CX cl xp X ex G) {e : IR} {v : Expr} {pos : Pos} (h : chk Z G e v = true) : PS X (.Return (some v) pos) (RS X.K ex (evS cl (.ret e))) := by
 refine psMono (ps_ret (snO e true X ex G v g h)) fun Dn σ H ⟨B, F, τ, f, m, q⟩ => ?_
 exact m.ro (PO'.bnd q) fun p v H' F' fv f' o hp => hp.ok _ _ _ _ (Fk.rt_of m o)
theorem st_retN {pos : Pos} : PS X (.Return none pos) (RS X.K ex (evS cl .retN)) :=
 psMono ps_retN fun Dn σ H ⟨B, F, τ, f, m, q⟩ => q.ok .non H F [] ⟨m.fok, m.same, .non, List.nodup_nil, fun a ha => absurd ha (by simp), m.inn, m.out⟩
theorem st_exp (g : GOk Z CX cl xp X ex G) {e : IR} {v : Expr} {pos : Pos} (hc : notComp v = true) (h : chk Z G e v = true) : PS X (.Expr v pos) (RS X.K ex (evS cl (.exp e))) := by
 refine psMono (ps_expr (snd e X ex G v g h).1 (by cases v <;> first | rfl | cases hc)) fun Dn σ H ⟨B, F, τ, f, m, q⟩ => ?_
 exact m.rd (PO'.bnd q) fun d v H' m' _ _ hd => hd.ok _ _ _ _ m'
theorem st_if {c : Expr} {x y : List Stmt} {pos : Pos} {t : IR} {a b : List IS} (hc : PT X c (RT X.K ex (vars t) fun τ => bnd (evR cl t τ) truD)) (ha : PSs X x (RS X.K ex (evSs cl a))) (hb : PSs X y (RS X.K ex (evSs cl b))) : PS X (.If c x y pos) (RS X.K ex (evS cl (.if_ t a b))) := by
 refine psMono (ps_if hc ha hb) fun Dn σ H ⟨B, F, τ, f, m, q⟩ => ?_
 refine m.rt (PO'.bnd q) fun r H' m' _ hr => ?_
 cases r with
 | true => rw [if_pos rfl] at hr ⊢; exact ⟨B, F, τ, f, m', hr⟩
 | false => rw [if_neg Bool.false_ne_true] at hr ⊢; exact ⟨B, F, τ, f, m', hr⟩
theorem Frm.less {K : PySem.W.Frag} {B : Bs} {L T : Addr → List V → Prop} {F : Addr → Prop} {H : Hp} {σ : St} {τ : Ev} {f : List Addr} (m : Frm K ⟨B.F, B.H, fun a xs => B.L a xs ∨ L a xs, fun a xs => B.T a xs ∨ T a xs⟩ F H σ τ f) : Frm K B F H σ τ f :=
 ⟨m.fok, m.rps, m.nod, m.same, m.own, m.inn, m.out, fun a xs h => m.pin a xs (.inl h), fun a xs h => m.pit a xs (.inl h)⟩
theorem ers_drop : ∀ (ds : List D) (i : Nat), (ers ds).drop i = ers (ds.drop i) := by
 intro ds i
 rw [ers_map, ers_map, List.map_drop]
theorem for_core {J : It} {K : PySem.W.Frag} {B : Bs} {F : Addr → Prop} {H : Hp} {σ : St} {τ : Ev} {f : List Addr} {T : Tg} {body : List IS} {its : List D} {Dn : Ends} (m : Frm K B F H σ τ f) (w : Wlk K F H J its)
  (q : PO' ex (forM (fun x τ => bnd (setT T x τ) fun τ' => evSs cl body τ') (ers its) τ) (Fk K B Dn)) :
  ∃ W : Nat → Nat → St → Hp → Prop, (∃ m, W 0 m σ H) ∧ ∀ i m σ H, W i m σ H → (J.stop i H ∧ Dn.nx σ H) ∨ (J.go i H ∧ ∃ N : St → Hp → Prop, (∀ σ' H', N σ' H' → ∃ m', m' < m ∧ W (i + 1) m' σ' H') ∧
   ∀ x H', J.yld i H x H' → gT K T x σ H' fun σ2 H2 => RS K ex (evSs cl body) { Dn with nx := N, ct := N, bk := Dn.nx } σ2 H2) := by
 let B' : Bs := ⟨B.F, B.H, fun a xs => B.L a xs ∨ (F a ∧ Rd H a (.lst xs)), fun a xs => B.T a xs ∨ SqT K H a xs⟩
 have m0 : Frm K B' F H σ τ f := ⟨m.fok, m.rps, m.nod, m.same, m.own, m.inn, m.out, fun a xs h => h.elim (m.pin a xs) id, fun a xs h => h.elim (m.pit a xs) id⟩
 let bd : D → Ev → Res Fl := fun x τ => bnd (setT T x τ) fun τ' => evSs cl body τ'
 refine ⟨fun i n σ H => n = its.length - i ∧ i ≤ its.length ∧ ∃ F τ f, Frm K B' F H σ τ f ∧ PO' ex (forM bd ((ers its).drop i) τ) (Fk K B Dn), ⟨its.length, by simp, Nat.zero_le _, F, τ, f, m0, by rw [List.drop_zero]; exact q⟩, ?_⟩
 rintro i n σ1 H1 ⟨rfl, hi, F1, τ1, f1, m1, q1⟩
 have w1 : Wlk K F1 H1 J its := w.step (fun a xs h r => m1.pin a xs (.inr ⟨h, r⟩)) fun a xs h => m1.pit a xs (.inr h)
 by_cases hlt : i < its.length
 ·refine .inr ⟨w1.go hlt, fun σ H => ∃ F τ f, Frm K B' F H σ τ f ∧ PO' ex (forM bd ((ers its).drop (i + 1)) τ) (Fk K B Dn), fun σ' H' h => ⟨its.length - (i + 1), by omega, rfl, hlt, h⟩, fun x H' y => ?_⟩
  obtain ⟨eH, mx⟩ := w1.yld y (d := its[i]) (by simp [hlt])
  subst eH
  have hd : (ers its).drop i = er its[i] :: (ers its).drop (i + 1) := by
   rw [ers_drop, List.drop_eq_getElem_cons hlt, ers, ers_drop]
  rw [hd] at q1
  have q2 := PO'.bnd q1
  refine m1.gT mx.frozen (by simpa using m1.nod) (fun a ha => absurd ha (by simp)) (PO'.bnd q2) fun τ' σ' f' m' h' => ?_
  refine ⟨B', F1, τ', f', m', h'.mono fun r hr => ?_⟩
  cases r with
  | nx τ' => exact fun σ' H' F' f' m'' => ⟨F', τ', f', m'', hr⟩
  | ct τ' => exact fun σ' H' F' f' m'' => ⟨F', τ', f', m'', hr⟩
  | bk τ' => exact fun σ' H' F' f' m'' => hr.ok _ _ _ _ m''.less
  | rt d => exact fun v H' F' fv o => hr.ok _ _ _ _ o
 ·have e : i = its.length := by omega
  subst e
  refine .inl ⟨w1.stop (Nat.le_refl _), ?_⟩
  have : (ers its).drop its.length = [] := by rw [← ers_length its, List.drop_length]
  rw [this] at q1
  exact q1.ok _ _ _ _ m1.less
theorem ers_rng (a b : Int) : ers (rngD a b) = rngD a b := by
 unfold rngD
 rw [ers_map, List.map_map]
 rfl
noncomputable def evRng (cl : Nat → List D → Res D) : Sr → Ev → Res (Int × Int)
 | .rng1 n, τ => bnd (evR cl n τ) fun | .int i => grd (rngOk i) (.ok (0, i)) | _ => stk
 | .rng2 a b, τ => bnd (evR cl a τ) fun x => bnd (evR cl b τ) fun y => match x, y with | .int i, .int j => grd (rngOk i && rngOk j) (.ok (i, j)) | _, _ => stk
 | _, _ => stk
noncomputable def RIr (K : PySem.W.Frag) (ex : Str → Prop) (is : List Nat) (f : Ev → Res (Int × Int)) : TI := fun σ H R => ∃ S τ, Slots K S H σ τ is ∧ PO' ex (f τ) fun p => ∀ H', Same H H' → R (Itr p.1 (p.2 - p.1).toNat) H'
noncomputable def isRng : Sr → Bool
 | .rng1 _ => true
 | .rng2 _ _ => true
 | _ => false
theorem evSr_rng {s : Sr} (h : isRng s = true) {τ : Ev} {k : List D → Prop} (q : PO' ex (evSr cl s τ) k) : PO' ex (evRng cl s τ) fun p => k (rngD p.1 p.2) := by
 cases s with
 | rng1 n =>
  refine PO'.mk ((PO'.bnd (show PO' ex (bnd (evR cl n τ) fun | .int i => grd (rngOk i) (.ok (rngD 0 i)) | _ => stk) k from q)).mono fun d hd => ?_)
  cases d with
  | int i =>
   obtain ⟨gd, hd⟩ := PO'.grd hd
   show PO' ex (grd (rngOk i) (.ok (0, i))) _
   unfold grd
   rw [if_pos gd]
   exact hd.ok
  | _ => exact hd.no.elim
 | rng2 a b =>
  refine PO'.mk ((PO'.bnd (show PO' ex (bnd (evR cl a τ) fun x => bnd (evR cl b τ) fun y => match x, y with | .int i, .int j => grd (rngOk i && rngOk j) (.ok (rngD i j)) | _, _ => stk) k from q)).mono fun d hd => PO'.mk ((PO'.bnd hd).mono fun e he => ?_))
  cases d with
  | int i =>
   cases e with
   | int j =>
    obtain ⟨gd, he⟩ := PO'.grd he
    show PO' ex (grd (rngOk i && rngOk j) (.ok (i, j))) _
    unfold grd
    rw [if_pos gd]
    exact he.ok
   | _ => exact he.no.elim
  | _ => cases e <;> exact he.no.elim
 | _ => first | exact no_h h | cases h
theorem sndR : ∀ (s : Sr) (X : Cx) (ex : Str → Prop) (G : Gm) (e tg : Expr), GOk Z CX cl xp X ex G → chkSr Z G s e = true → isRng s = true → PI X tg e (RIr X.K ex (varsS s) (evRng cl s)) := by
 intro s X ex G e tg g h hr
 cases s with
 | rng1 n =>
  cases e with
  | Call fn args kws pos =>
   cases fn with
   | Name x p =>
    match args, kws, h with
    | [a], [], h =>
     have h' : (x == "range" && G.gl.contains 15 && notStar a && chk Z G n a) = true := h
     simp only [Bool.and_eq_true] at h'
     have e1 : x = "range" := eq_of_beq h'.1.1.1
     subst e1
     obtain ⟨k1, k2, _, _⟩ := gb_of g (show bnames[15]? = some ("range" : Str) from rfl) h'.1.1.2
     refine piMono (pi_range1 k1 k2 (pa_cons (snd n X ex G a g h'.2).1 pa_nil (star_cons h'.1.2 _ _)) (star_cons h'.1.2 _ _)) fun σ H Q ⟨S, τ, hs, q⟩ => ?_
     refine rdAt (.refl _) hs (PO'.bnd q) fun x v H1 e1 _ m1 q1 => ?_
     cases x with
     | int i =>
      cases m1.intR
      obtain ⟨gd, q1⟩ := PO'.grd q1
      have gd' : -(2 ^ 62) ≤ i ∧ i < 2 ^ 62 := of_decide_eq_true gd
      refine ⟨i, rfl, gd'.1, gd'.2, ?_⟩
      have := q1.ok _ e1
      rw [show (0, i).2 - (0, i).1 = i from Int.sub_zero i] at this
      exact this
     | _ => exact q1.no.elim
    | [], _, h => first | exact no_h h | cases h
    | [_], _ :: _, h => first | exact no_h h | cases h
    | _ :: _ :: _, _, h => first | exact no_h h | cases h
   | _ => first | exact no_h h | cases h
  | _ => first | exact no_h h | cases h
 | rng2 a b =>
  cases e with
  | Call fn args kws pos =>
   cases fn with
   | Name x p =>
    match args, kws, h with
    | [l, r], [], h =>
     have h' : (x == "range" && G.gl.contains 15 && notStar l && notStar r && chk Z G a l && chk Z G b r) = true := h
     simp only [Bool.and_eq_true] at h'
     have e1 : x = "range" := eq_of_beq h'.1.1.1.1.1
     subst e1
     obtain ⟨k1, k2, _, _⟩ := gb_of g (show bnames[15]? = some ("range" : Str) from rfl) h'.1.1.1.1.2
     have hn := h'.1.1.1.2
     have hn' := h'.1.1.2
     refine piMono (pi_range2 k1 k2 (pa_cons (snd a X ex G l g h'.1.2).1 (pa_cons (snd b X ex G r g h'.2).1 pa_nil (star_cons hn' _ _)) (star_cons hn _ _)) (by rw [star_cons hn, star_cons hn']; rfl) (star_cons hn' _ _)) fun σ H Q ⟨S, τ, hs, q⟩ => ?_
     refine rdAt (.refl _) hs.left (PO'.bnd q) fun x v H1 e1 _ m1 q1 => ?_
     refine rdAt e1 hs.right (PO'.bnd q1) fun y w H2 e2 e2' m2 q2 => ?_
     cases x with
     | int i =>
      cases y with
      | int j =>
       cases m1.intR; cases m2.intR
       obtain ⟨gd, q2⟩ := PO'.grd q2
       rw [Bool.and_eq_true] at gd
       have g1 : -(2 ^ 62) ≤ i ∧ i < 2 ^ 62 := of_decide_eq_true gd.1
       have g2 : -(2 ^ 62) ≤ j ∧ j < 2 ^ 62 := of_decide_eq_true gd.2
       exact ⟨i, j, rfl, ⟨g1.1, g1.2, g2.1, g2.2⟩, q2.ok _ e2⟩
      | _ => exact q2.no.elim
     | _ => cases y <;> exact q2.no.elim
    | [], _, h => first | exact no_h h | cases h
    | [_], _, h => first | exact no_h h | cases h
    | [_, _], _ :: _, h => first | exact no_h h | cases h
    | _ :: _ :: _ :: _, _, h => first | exact no_h h | cases h
   | _ => first | exact no_h h | cases h
  | _ => first | exact no_h h | cases h
 | _ => cases hr
theorem st_for (g : GOk Z CX cl xp X ex G) {t it : Expr} {x : List Stmt} {pos : Pos} {T : Tg} {s : Sr} {a : List IS} (hT : chkT G T t = true) (hs : chkSr Z G s it = true) (ha : PSs X x (RS X.K ex (evSs cl a))) : PS X (.For t it x [] pos) (RS X.K ex (evS cl (.for_ T s a))) := by
 by_cases hr : isRng s = true
 ·refine psMono (ps_for g.own g.calm (sndR s X ex G it t g hs hr) (pgT g T t hT) ha (fun x => folded_src hs X.env x)) fun Dn σ H ⟨B, F, τ, f, m, q⟩ => ?_
  have q0 : PO' ex (bnd (srcO cl s τ) fun p => forM (fun x τ => bnd (setT T x τ) fun τ' => evSs cl a τ') p.1 p.2) (Fk X.K B Dn) := q
  have base : PO' ex (evSr cl s τ) fun its => PO' ex (forM (fun x τ => bnd (setT T x τ) fun τ' => evSs cl a τ') its τ) (Fk X.K B Dn) := by
   cases s with
   | rng1 u => exact (PO'.bnd (show PO' ex (bnd (evSr cl (.rng1 u) τ) fun its => .ok (its, τ)) _ from PO'.bnd q0)).mono fun its h => h.ok
   | rng2 u v => exact (PO'.bnd (show PO' ex (bnd (evSr cl (.rng2 u v) τ) fun its => .ok (its, τ)) _ from PO'.bnd q0)).mono fun its h => h.ok
   | _ => cases hr
  exact ⟨fun _ => True, τ, all_slots m.rps, (evSr_rng hr base).mono fun p hp H1 e1 => for_core (m.grow e1) (.rng p.1 p.2) (by rw [ers_rng]; exact hp)⟩
 ·refine psMono (ps_for g.own g.calm (sndS s X ex G it t g hs) (pgT g T t hT) ha (fun x => folded_src hs X.env x)) fun Dn σ H ⟨B, F, τ, f, m, q⟩ => ?_
  have q0 : PO' ex (bnd (srcO cl s τ) fun p => forM (fun x τ => bnd (setT T x τ) fun τ' => evSs cl a τ') p.1 p.2) (Fk X.K B Dn) := q
  have q1 := PO'.bnd q0
  have hsrc : srcO cl s τ = (bnd (evSr cl s τ) fun its => .ok (ers its, frz (varsS s) τ)) := by
   cases s with
   | val u => rfl
   | rev u => rfl
   | _ => exact absurd rfl hr
  rw [hsrc] at q1
  obtain ⟨F1, gg, b1, b2, b3, b4, b5, b6⟩ := freeze1 (varsS s) m.fok m.rps m.nod
  refine riAt (.refl _) b6 (PO'.bnd q1) fun its J H1 e1 _ w1 hk => ?_
  obtain ⟨c1, c2, c3⟩ := grow (fun _ => True) b1 b2 e1
  have m2 : Frm X.K B (fun a => F1 a ∨ (True ∧ H a = none ∧ H1 a ≠ none)) H1 σ (frz (varsS s) τ) gg := m.stp (b4.trans c3 (fun x hx => .inl (b5 x hx))) c1 c2 b3 fun a ha => .inl (b5 a ha)
  exact for_core m2 (w1.step (fun a xs h r => ⟨h.elim (fun z => .inl z) fun z => .inr ⟨trivial, z, r.some⟩, r⟩) fun a xs h => h) hk.ok
mutual
theorem snS : ∀ (a : IS) (X : Cx) (ex : Str → Prop) (G : Gm) (s : Stmt), GOk Z CX cl xp X ex G → chkS Z G a s = true → PS X s (RS X.K ex (evS cl a))
 | .asg tg e, X, ex, G, s, g, h => by
  cases s with
  | Assign ts v pos =>
   match ts, h with
   | [t], h =>
    have h' : (chkT G tg t && chk Z G e v && (isName t || (isTup t && notTuple v))) = true := h
    simp only [Bool.and_eq_true] at h'
    exact st_asg g h'.1.1 h'.1.2 h'.2
   | [], h => first | exact no_h h | cases h
   | _ :: _ :: _, h => first | exact no_h h | cases h
  | _ => first | exact no_h h | cases h
 | .par i j a b, X, ex, G, s, g, h => by cases s <;> first | exact no_h h | cases h
 | .setix i k e, X, ex, G, s, g, h => by cases s <;> exact no_h h
 | .app i e, X, ex, G, s, g, h => by
  cases s with
  | Expr v pos =>
   cases v with
   | Call fn args kws cpos =>
    cases fn with
    | Attribute o name apos =>
     cases o with
     | Name x p =>
      match args, kws, h with
      | [v], [], h =>
       have h' : (chkV G i x && name == "append" && apos.endLine == cpos.line && notStar v && chk Z G e v) = true := h
       simp only [Bool.and_eq_true] at h'
       have e1 : name = "append" := eq_of_beq h'.1.1.1.2
       subst e1
       exact st_app g h'.1.1.1.1 h'.1.1.2 h'.1.2 h'.2
      | [], _, h => first | exact no_h h | cases h
      | [_], _ :: _, h => first | exact no_h h | cases h
      | _ :: _ :: _, _, h => first | exact no_h h | cases h
     | _ => first | exact no_h h | cases h
    | _ => first | exact no_h h | cases h
   | _ => first | exact no_h h | cases h
  | _ => first | exact no_h h | cases h
 | .rvs i, X, ex, G, s, g, h => by cases s <;> exact no_h h
 | .clr i, X, ex, G, s, g, h => by cases s <;> exact no_h h
 | .appx _ _ _, X, ex, G, s, g, h => by cases s <;> first | exact no_h h | cases h
 | .exp e, X, ex, G, s, g, h => by
  cases s with
  | Expr v pos =>
   have h' : (notComp v && chk Z G e v) = true := by cases v <;> first | exact h | (rename_i c _ _; cases c <;> exact h)
   simp only [Bool.and_eq_true] at h'
   exact st_exp g h'.1 h'.2
  | _ => first | exact no_h h | cases h
 | .ret e, X, ex, G, s, g, h => by
  cases s with
  | Return v pos =>
   cases v with
   | none => first | exact no_h h | cases h
   | some v => exact st_ret g h
  | _ => first | exact no_h h | cases h
 | .retN, X, ex, G, s, g, h => by
  cases s with
  | Return v pos =>
   cases v with
   | none => exact st_retN
   | some v => first | exact no_h h | cases h
  | _ => first | exact no_h h | cases h
 | .if_ t a b, X, ex, G, s, g, h => by
  cases s with
  | If c x y pos =>
   have h' : (chk Z G t c && chkSs Z G a x && chkSs Z G b y) = true := h
   simp only [Bool.and_eq_true] at h'
   exact st_if (snd t X ex G c g h'.1.1).2 (snSs a X ex G x g h'.1.2) (snSs b X ex G y g h'.2)
  | _ => first | exact no_h h | cases h
 | .for_ tg s body, X, ex, G, st, g, h => by
  cases st with
  | For t it b els pos =>
   cases els with
   | cons _ _ => first | exact no_h h | cases h
   | nil =>
    have h' : (chkT G tg t && chkSr Z G s it && chkSs Z G body b) = true := h
    simp only [Bool.and_eq_true] at h'
    exact st_for g h'.1.1 h'.1.2 (snSs body X ex G b g h'.2)
  | _ => first | exact no_h h | cases h
 | .while_ t body, X, ex, G, s, g, h => by cases s <;> exact no_h h
 | .brk, X, ex, G, s, g, h => by
  cases s with
  | Break pos => exact psMono ps_break fun Dn σ H ⟨B, F, τ, f, m, q⟩ => q.ok _ _ _ _ m
  | _ => first | exact no_h h | cases h
 | .cnt, X, ex, G, s, g, h => by
  cases s with
  | Continue pos => exact psMono ps_continue fun Dn σ H ⟨B, F, τ, f, m, q⟩ => q.ok _ _ _ _ m
  | _ => first | exact no_h h | cases h
 | .pass, X, ex, G, s, g, h => by
  cases s with
  | Pass pos => exact psMono ps_pass fun Dn σ H ⟨B, F, τ, f, m, q⟩ => q.ok _ _ _ _ m
  | Expr v pos =>
   cases v with
   | Constant c j p =>
    cases c with
    | str z => exact psMono ps_doc fun Dn σ H ⟨B, F, τ, f, m, q⟩ => q.ok _ _ _ _ m
    | _ => first | exact no_h h | cases h
   | _ => first | exact no_h h | cases h
  | _ => first | exact no_h h | cases h
 | .never, X, ex, G, s, g, h => psMono ps_never fun Dn σ H ⟨B, F, τ, f, m, q⟩ => q.no.elim
theorem snSs : ∀ (as : List IS) (X : Cx) (ex : Str → Prop) (G : Gm) (ss : List Stmt), GOk Z CX cl xp X ex G → chkSs Z G as ss = true → PSs X ss (RS X.K ex (evSs cl as))
 | [], X, ex, G, ss, g, h => by
  cases ss with
  | nil => exact pssMono pss_nil fun Dn σ H ⟨B, F, τ, f, m, q⟩ => q.ok _ _ _ _ m
  | cons _ _ => first | exact no_h h | cases h
 | a :: as, X, ex, G, ss, g, h => by
  cases ss with
  | nil => first | exact no_h h | cases h
  | cons s ss =>
   have h' : (chkS Z G a s && chkSs Z G as ss) = true := h
   simp only [Bool.and_eq_true] at h'
   refine pssMono (pss_cons (snS a X ex G s g h'.1) (snSs as X ex G ss g h'.2)) fun Dn σ H ⟨B, F, τ, f, m, q⟩ => ?_
   refine ⟨B, F, τ, f, m, (PO'.bnd q).mono fun r hr => ?_⟩
   cases r with
   | nx τ' => exact fun σ' H' F' f' m' => ⟨B, F', τ', f', m', hr⟩
   | ct τ' => exact hr.ok
   | bk τ' => exact hr.ok
   | rt d => exact hr.ok
end
end
end L2
namespace L2
open PySem PySem.Spec PyProof.Rows PySem.SeqAt
noncomputable def chkDef (Z : Sg) (fn : Fn) (ps : List Str) (st : Stmt) : Bool :=
 (defScope st).kind == .function && !(defScope st).isCoroutine && !(defScope st).isGenerator && decide (fn.G.N.Nodup) && fn.G.N.take ps.length == ps
 && ps.all (fun x => (defScope st).names.lookup x == some .local || (defScope st).names.lookup x == some .cell) && (defScope st).names.all (fun y => y.2 != .free)
 && (List.range fn.G.N.length).all (fun i => (fn.G.N[i]?).bind ((defScope st).names.lookup ·) == fn.G.kd[i]?)
 && fn.G.N.all (fun x => !(x == "__debug__") && !(x == "__classdict__"))
 && fn.G.gl.all (fun n => match Z.name n with | some x => (defScope st).names.lookup x == some .globalImplicit | none => false)
 && decide (ps.length = fn.np) && chkSs Z fn.G fn.body (defBody st)
structure DefSc (Z : Sg) (fn : Fn) (ps : List Str) (st : Stmt) : Prop where
 sc : FnScope fn.G.N ps (defScope st)
 kd : ∀ (i : Nat) (x : Str), fn.G.N[i]? = some x → (defScope st).names.lookup x = fn.G.kd[i]?
 noD : ∀ x ∈ fn.G.N, (x == ("__debug__" : Str)) = false ∧ (x == ("__classdict__" : Str)) = false
 gl : ∀ n ∈ fn.G.gl, ∀ x, Z.name n = some x → (defScope st).names.lookup x = some .globalImplicit
 np : ps.length = fn.np
 body : chkSs Z fn.G fn.body (defBody st) = true
theorem defSc_of {Z : Sg} {fn : Fn} {ps : List Str} {st : Stmt} (h : chkDef Z fn ps st = true) : DefSc Z fn ps st := by
 unfold chkDef at h
 simp only [Bool.and_eq_true] at h
 obtain ⟨⟨⟨⟨⟨⟨⟨⟨⟨⟨⟨h1, h2⟩, h3⟩, h4⟩, h5⟩, h6⟩, h7⟩, h8⟩, h9⟩, h10⟩, h11⟩, h12⟩ := h
 rw [List.all_eq_true] at h6 h7 h8 h9 h10
 refine ⟨⟨eq_of_beq h1, by simpa using h2, by simpa using h3, of_decide_eq_true h4, eq_of_beq h5, fun x hx => ?_, fun y hy => by simpa using h7 y hy⟩, fun i x hx => ?_, fun x hx => by simpa using h9 x hx, fun n hn x hx => ?_, of_decide_eq_true h11, h12⟩
 ·have := h6 x hx
  rw [Bool.or_eq_true] at this
  exact this.elim (fun z => .inl (eq_of_beq z)) fun z => .inr (eq_of_beq z)
 ·have hlt : i < fn.G.N.length := (List.getElem?_eq_some_iff.mp hx).1
  have := eq_of_beq (h8 i (List.mem_range.mpr hlt))
  rw [hx] at this
  exact this
 ·have := h10 n hn
  rw [hx] at this
  exact eq_of_beq this
structure DefOk (K : PySem.W.Frag) (mg : Str → Option Value) (Z : Sg) (T : Tb) (f : Nat) (x : Str) : Prop where
 ex : ∃ (fn : Fn) (st : Stmt) (fa : Addr) (fd : FuncData) (ps : List Str), T f = some fn ∧ Fun K x x st fa fd ∧ mg x = some (.ref fa) ∧ Binds K fd ps [] ∧ DefSc Z fn ps st
noncomputable abbrev xp0 : XK → Hp → Str → Prop := fun _ _ _ => False
section
variable {P : Program} {w : World} {K : PySem.W.Frag} {mg : Str → Option Value} {base : Heap} {Z : Sg} {T : Tb}
structure TopOk (K : PySem.W.Frag) (mg : Str → Option Value) (Z : Sg) (T : Tb) : Prop where
 nam : ∀ n x, Z.name n = some x → x ≠ "__name__" ∧ (x == ("__debug__" : Str)) = false
 blt : ∀ (n : Nat) (x : Str), bnames[n]? = some x → mg x = none
 cst : ∀ n d x, (n, d) ∈ Z.kst → Z.name n = some x → ∃ u v, mg x = some u ∧ RelV v u ∧ ∀ S H, HRep K S H v d
 fns : ∀ f ∈ Z.fns, ∀ x, Z.name f = some x → DefOk K mg Z T f x
theorem start_rps {F : Addr → Prop} {H : Hp} : ∀ {vs : List V} {ds : List D} (n : Nat), HReps K F H vs ds → Rps K F H (vs.map some ++ List.replicate n none) ((ers ds).map some ++ List.replicate n none) []
 | [], [], n, .nil => by
  induction n with
  | zero => exact .nil
  | succ n ih => exact .none ih
 | v :: vs, d :: ds, n, .cons h1 h2 => .some (f := []) h1.frozen (start_rps n h2)
theorem fnc_all (t : TopOk K mg Z T) : ∀ (n : Nat) (A : Around), Room n A → ∀ f ∈ Z.fns, ∀ x, Z.name f = some x → FnC P w K mg base CX0 A (callF T n) xp0 f x
 | 0, A, hr, f, hf, x, hx => by
  obtain ⟨fn, st, fa, fd, ps, h1, h2, h3, h4, h5⟩ := (t.fns f hf x hx).ex
  have no : ∀ vs H Q E, ¬ spF K (callF T 0) xp0 f ps vs H Q E := fun vs H Q E ⟨_, F, ds, _, _, h⟩ => h
  exact ⟨0, fa, fd, ps, h3, h2.kp, h4, ⟨fun vs H Q E h => h.1, fun A outer s H args us vs Q E _ _ _ _ h => (no _ _ _ _ h).elim⟩, hr, fun ex ds k h => h.elim⟩
 | n + 1, A, hr, f, hf, x, hx => by
  obtain ⟨fn, st, fa, fd, ps, h1, h2, h3, h4, h5⟩ := (t.fns f hf x hx).ex
  have hcall : ∀ ds, callF T (n + 1) f ds = runF (callF T n) fn ds := fun ds => by
   show (match T f with | some fn => runF (callF T n) fn ds | none => stk) = _
   rw [h1]
  refine ⟨n + 1, fa, fd, ps, h3, h2.kp, h4, ?_, hr, fun ex ds k h => ?_⟩
  ·refine h2.ok h5.sc (fun vs H Q E h => h.1) fun cdv A outer s H vs Q E hr hsp => ?_
   refine ⟨_, snSs (Z := Z) (CX := CX0) (cl := callF T n) (xp := xp0) fn.body _ nox fn.G (defBody st) ?_ h5.body, ?_⟩
   ·refine ⟨rfl, h5.sc.nd, rfl, h5.sc.kind, ?_, PassesOwn.never, fun i y hy => h5.kd i y hy, fun i y hy => h5.noD y (List.mem_of_getElem? hy), fun m hm y hy => h5.gl m hm y hy, t.nam, fun _ _ => rfl, t.blt, t.cst, ?_, ?_, ?_⟩
    ·have := hr.un
     show (A.deeper _).units + 42 < cLine
     omega
    ·exact fun f' hf' x' hx' => fnc_all t n _ hr f' hf' x' hx'
    ·exact ⟨E0, pass0, fun c H z => z.elim⟩
    ·exact fun H outer s e s' h => h
   ·obtain ⟨hl, F, ds, fok, m, q⟩ := hsp
    rw [hcall] at q
    obtain ⟨gd, q⟩ := PO'.grd q
    have gd' : (ers ds).length = fn.np := of_decide_eq_true gd
    have hn : fn.G.N.length - vs.length = fn.G.N.length - fn.np := by rw [m.length, ← ers_length ds, gd']
    refine ⟨⟨F, H, fun _ _ => False, fun _ _ => False⟩, F, (ers ds).map some ++ List.replicate (fn.G.N.length - fn.np) none, [], ⟨fok, ?_, List.nodup_nil, .refl _, fun a ha => absurd ha (by simp), fun a h => h, fun a h => .inl h, fun a xs h => h.elim, fun a xs h => h.elim⟩, (PO'.bnd q).mono fun r hr => ?_⟩
    ·show Rps K F H (start fn.G.N vs) _ []
     unfold start
     rw [hn]
     exact start_rps _ m
    ·cases r with
     | nx τ' => exact fun σ' H' F' f' m' => hr.ok .non H' F' [] ⟨m'.fok, m'.same, .non, List.nodup_nil, fun a ha => absurd ha (by simp), m'.inn, m'.out⟩
     | rt d => exact fun v H' F' fv o => hr.ok v H' F' fv o
     | bk τ' => exact hr.no.elim
     | ct τ' => exact hr.no.elim
  ·rw [hcall] at h
   obtain ⟨gd, _⟩ := PO'.grd h
   rw [of_decide_eq_true gd, h5.np]
end
end L2
namespace L2
open PySem PySem.Spec PyProof.Rows PySem.SeqAt
section
variable {P : Program} {w : World} {K : PySem.W.Frag} {mg : Str → Option Value} {base : Heap} {Z : Sg} {T : Tb}
theorem def_fn (t : TopOk K mg Z T) (n : Nat) {f : Nat} {fn : Fn} {x : Str} {st : Stmt} {fa : Addr} {fd : FuncData} {ps : List Str} (h1 : T f = some fn) (h2 : Fun K x x st fa fd) (h5 : DefSc Z fn ps st) : FnOk P w K mg base CX0 (n + 1) fa fd ps (spF K (callF T (n + 1)) xp0 f ps) := by
 have hcall : ∀ ds, callF T (n + 1) f ds = runF (callF T n) fn ds := fun ds => by
  show (match T f with | some fn => runF (callF T n) fn ds | none => stk) = _
  rw [h1]
 refine h2.ok h5.sc (fun vs H Q E h => h.1) fun cdv A outer s H vs Q E hr hsp => ?_
 refine ⟨_, snSs (Z := Z) (CX := CX0) (cl := callF T n) (xp := xp0) fn.body _ nox fn.G (defBody st) ?_ h5.body, ?_⟩
 ·refine ⟨rfl, h5.sc.nd, rfl, h5.sc.kind, ?_, PassesOwn.never, fun i y hy => h5.kd i y hy, fun i y hy => h5.noD y (List.mem_of_getElem? hy), fun m hm y hy => h5.gl m hm y hy, t.nam, fun _ _ => rfl, t.blt, t.cst, ?_, ?_, ?_⟩
  ·have := hr.un
   show (A.deeper _).units + 42 < cLine
   omega
  ·exact fun f' hf' x' hx' => fnc_all t n _ hr f' hf' x' hx'
  ·exact ⟨E0, pass0, fun c H z => z.elim⟩
  ·exact fun H outer s e s' h => h
 ·obtain ⟨hl, F, ds, fok, m, q⟩ := hsp
  rw [hcall] at q
  obtain ⟨gd, q⟩ := PO'.grd q
  have gd' : (ers ds).length = fn.np := of_decide_eq_true gd
  have hn : fn.G.N.length - vs.length = fn.G.N.length - fn.np := by rw [m.length, ← ers_length ds, gd']
  refine ⟨⟨F, H, fun _ _ => False, fun _ _ => False⟩, F, (ers ds).map some ++ List.replicate (fn.G.N.length - fn.np) none, [], ⟨fok, ?_, List.nodup_nil, .refl _, fun a ha => absurd ha (by simp), fun a h => h, fun a h => .inl h, fun a xs h => h.elim, fun a xs h => h.elim⟩, (PO'.bnd q).mono fun r hr => ?_⟩
  ·show Rps K F H (start fn.G.N vs) _ []
   unfold start
   rw [hn]
   exact start_rps _ m
  ·cases r with
   | nx τ' => exact fun σ' H' F' f' m' => hr.ok .non H' F' [] ⟨m'.fok, m'.same, .non, List.nodup_nil, fun a ha => absurd ha (by simp), m'.inn, m'.out⟩
   | rt d => exact fun v H' F' fv o => hr.ok v H' F' fv o
   | bk τ' => exact hr.no.elim
   | ct τ' => exact hr.no.elim
theorem law_sp {f n : Nat} {x : Str} {a : Addr} {H : Hp} {ns : List Int} (hS : Ls K H a (ns.map V.int)) (hl : callF T n f [.lst false (ns.map .int)] = .ok (.bl true)) :
  spF K (callF T n) xp0 f [x] [.ref a] H (fun v _ => v = .bl true) fun _ _ _ => False := by
 have m : HReps K (fun a => H a ≠ none) H [.ref a] [.lst false (ns.map .int)] := by
  refine .cons ?_ .nil
  rcases hS with hS | hS
  ·exact .lst hS.some hS (HReps.ofInts ns)
  ·exact .lstK hS (HReps.ofInts ns)
 refine ⟨rfl, fun a => H a ≠ none, [.lst false (ns.map .int)], fun a h => h, m, ?_⟩
 have he : ers [.lst false (ns.map .int)] = [D.lst false (ns.map .int)] := by
  rw [ers, ers, er, ers_map, List.map_map]
  rfl
 rw [he, hl]
 intro v H' F' fv o
 cases o.rep
 rfl
theorem law_walk {l : PySem.W.OpenLaw} {q : Program} {loose : List Str} {XP : (Str → Option Value) → Heap → Prop} {YP : World → Heap → Prop} {d : DefRec} {K : Params → PySem.W.Frag} {T : Tb} {n f : Nat} {x : Str} (hn : l.most = some 63) (hdf : d.params.defaults = []) (hr : Room (n + 1) callerA)
  (hY : ∀ (w : World) (h : Heap), YP w h → (K w.params).In h)
  (F : ∀ (w : World) (mg : Str → Option Value) (fa : Addr) (h : Heap), (K w.params).In h → h.Ns mainGlobals mg → mg d.name = some (.ref fa) →
   ∃ fd : FuncData, (∀ (s : Shared) (u : Value), BindsTo s fd ⟨[u], []⟩ [(x, u)]) ∧ ∀ base : Heap, (K w.params).In base → base.Ns mainGlobals mg → FnOk l.prog w (K w.params) mg base CX0 (n + 1) fa fd [x] (spF (K w.params) (callF T (n + 1)) xp0 f [x]))
  (hl : ∀ ns : List Int, ns.length ≤ 63 → callF T (n + 1) f [.lst false (ns.map .int)] = .ok (.bl true)) :
  PySem.W.WalkO q loose XP YP l.row.toRowW d [] (fun f vs => PySem.call f vs) :=
 L2.walk_of (n := 63) (k := n + 1) (x := x) (CX := fun _ => CX0) (sp := fun w => spF (K w.params) (callF T (n + 1)) xp0 f [x]) hn (by decide) hdf hr hY F (fun w H a ns h1 _ hS => law_sp hS (hl ns h1)) fun _ _ _ _ _ z => z
end
end L2
namespace L2
open PySem PySem.Spec PyProof.Rows PySem.SeqAt
namespace Ev
section
variable {α β : Type} {cl : Nat → List D → Res D} {τ : Ev} {mv : Bool}
theorem bnd_k {a : α} {f : α → Res β} : bnd (.ok a) f = f a := rfl
theorem grd_t {x : Res α} : grd true x = x := rfl
theorem if_t {a b : α} : (if true = true then a else b) = a := rfl
theorem if_f {a b : α} : (if false = true then a else b) = b := rfl
theorem r_c {d : D} : evR cl (.c d) τ = .ok d := rfl
theorem r_g {n : Nat} {d : D} : evR cl (.g n d) τ = .ok d := rfl
theorem r_v {i : Nat} : evR cl (.v i) τ = (match slotD τ i with | some d => .ok d | none => stk) := rfl
noncomputable def binK (cl : Nat → List D → Res D) (op : BOp) (b : IR) (τ : Ev) (x : D) : Res D := bnd (evR cl b τ) (opB op x)
theorem binK_k {op : BOp} {b : IR} {x : D} : binK cl op b τ x = bnd (evR cl b τ) (opB op x) := rfl
theorem r_bin {op : BOp} {a b : IR} : evR cl (.bin op a b) τ = bnd (evR cl a τ) (binK cl op b τ) := rfl
noncomputable def negD : D → Res D
 | .int i => .ok (.int (-i))
 | _ => stk
theorem r_neg {a : IR} : evR cl (.neg a) τ = bnd (evR cl a τ) negD := rfl
theorem negD_i {i : Int} : negD (.int i) = .ok (.int (-i)) := rfl
noncomputable def blK (r : Bool) : Res D := .ok (.bl r)
theorem blK_k {r : Bool} : blK r = .ok (.bl r) := rfl
noncomputable def cmpK2 (op : COp) (x y : D) : Res D := bnd (opC op x y) blK
theorem cmpK2_k {op : COp} {x y : D} : cmpK2 op x y = bnd (opC op x y) blK := rfl
noncomputable def cmpK (cl : Nat → List D → Res D) (op : COp) (b : IR) (τ : Ev) (x : D) : Res D := bnd (evR cl b τ) (cmpK2 op x)
theorem cmpK_k {op : COp} {b : IR} {x : D} : cmpK cl op b τ x = bnd (evR cl b τ) (cmpK2 op x) := rfl
theorem r_cmp {op : COp} {a b : IR} : evR cl (.cmp op a b) τ = bnd (evR cl a τ) (cmpK cl op b τ) := rfl
noncomputable def chK3 (cl : Nat → List D → Res D) (op' : COp) (c : IR) (τ : Ev) (y : D) (r : Bool) : Res D := if r = true then bnd (evR cl c τ) (cmpK2 op' y) else .ok (.bl false)
theorem chK3_k {op' : COp} {c : IR} {y : D} {r : Bool} : chK3 cl op' c τ y r = if r = true then bnd (evR cl c τ) (cmpK2 op' y) else .ok (.bl false) := rfl
noncomputable def chK2 (cl : Nat → List D → Res D) (op op' : COp) (c : IR) (τ : Ev) (x y : D) : Res D := bnd (opC op x y) (chK3 cl op' c τ y)
theorem chK2_k {op op' : COp} {c : IR} {x y : D} : chK2 cl op op' c τ x y = bnd (opC op x y) (chK3 cl op' c τ y) := rfl
noncomputable def chK (cl : Nat → List D → Res D) (op op' : COp) (b c : IR) (τ : Ev) (x : D) : Res D := bnd (evR cl b τ) (chK2 cl op op' c τ x)
theorem chK_k {op op' : COp} {b c : IR} {x : D} : chK cl op op' b c τ x = bnd (evR cl b τ) (chK2 cl op op' c τ x) := rfl
theorem r_chain {op op' : COp} {a b c : IR} : evR cl (.chain op op' a b c) τ = bnd (evR cl a τ) (chK cl op op' b c τ) := rfl
noncomputable def andK2 (cl : Nat → List D → Res D) (b : IR) (τ : Ev) (x : D) (r : Bool) : Res D := if r = true then evR cl b τ else .ok x
theorem andK2_k {b : IR} {x : D} {r : Bool} : andK2 cl b τ x r = if r = true then evR cl b τ else .ok x := rfl
noncomputable def andK (cl : Nat → List D → Res D) (b : IR) (τ : Ev) (x : D) : Res D := bnd (truD x) (andK2 cl b τ x)
theorem andK_k {b : IR} {x : D} : andK cl b τ x = bnd (truD x) (andK2 cl b τ x) := rfl
theorem r_and {a b : IR} : evR cl (.and_ a b) τ = bnd (evR cl a τ) (andK cl b τ) := rfl
noncomputable def orK2 (cl : Nat → List D → Res D) (b : IR) (τ : Ev) (x : D) (r : Bool) : Res D := if r = true then .ok x else evR cl b τ
theorem orK2_k {b : IR} {x : D} {r : Bool} : orK2 cl b τ x r = if r = true then .ok x else evR cl b τ := rfl
noncomputable def orK (cl : Nat → List D → Res D) (b : IR) (τ : Ev) (x : D) : Res D := bnd (truD x) (orK2 cl b τ x)
theorem orK_k {b : IR} {x : D} : orK cl b τ x = bnd (truD x) (orK2 cl b τ x) := rfl
theorem r_or {a b : IR} : evR cl (.or_ a b) τ = bnd (evR cl a τ) (orK cl b τ) := rfl
noncomputable def notK2 (r : Bool) : Res D := .ok (.bl !r)
theorem notK2_k {r : Bool} : notK2 r = .ok (.bl !r) := rfl
noncomputable def notK (x : D) : Res D := bnd (truD x) notK2
theorem notK_k {x : D} : notK x = bnd (truD x) notK2 := rfl
theorem r_not {a : IR} : evR cl (.not_ a) τ = bnd (evR cl a τ) notK := rfl
noncomputable def iteK2 (cl : Nat → List D → Res D) (a b : IR) (τ : Ev) (r : Bool) : Res D := if r = true then evR cl a τ else evR cl b τ
theorem iteK2_k {a b : IR} {r : Bool} : iteK2 cl a b τ r = if r = true then evR cl a τ else evR cl b τ := rfl
noncomputable def iteK (cl : Nat → List D → Res D) (a b : IR) (τ : Ev) (x : D) : Res D := bnd (truD x) (iteK2 cl a b τ)
theorem iteK_k {a b : IR} {x : D} : iteK cl a b τ x = bnd (truD x) (iteK2 cl a b τ) := rfl
theorem r_ite {t a b : IR} : evR cl (.ite t a b) τ = bnd (evR cl t τ) (iteK cl a b τ) := rfl
noncomputable def tupK (ds : List D) : Res D := grd (szOk ds.length) (.ok (.tup ds))
theorem tupK_k {ds : List D} : tupK ds = grd (szOk ds.length) (.ok (.tup ds)) := rfl
theorem r_tup {es : List IR} : evR cl (.tup es) τ = bnd (evRs cl es τ) tupK := rfl
noncomputable def lstK (ds : List D) : Res D := grd (szOk ds.length) (.ok (.lst true ds))
theorem lstK_k {ds : List D} : lstK ds = grd (szOk ds.length) (.ok (.lst true ds)) := rfl
theorem r_lst {es : List IR} : evR cl (.lst es) τ = bnd (evRs cl es τ) lstK := rfl
noncomputable def idxK (cl : Nat → List D → Res D) (i : IR) (τ : Ev) (x : D) : Res D := bnd (evR cl i τ) (opIx x)
theorem idxK_k {i : IR} {x : D} : idxK cl i τ x = bnd (evR cl i τ) (opIx x) := rfl
theorem r_idx {a i : IR} : evR cl (.idx a i) τ = bnd (evR cl a τ) (idxK cl i τ) := rfl
noncomputable def slK2 (cl : Nat → List D → Res D) (hi : Option IR) (τ : Ev) (x : D) (l : Option Int) : Res D := bnd (evRO cl hi τ) (opSl x l)
theorem slK2_k {hi : Option IR} {x : D} {l : Option Int} : slK2 cl hi τ x l = bnd (evRO cl hi τ) (opSl x l) := rfl
noncomputable def slK (cl : Nat → List D → Res D) (lo hi : Option IR) (τ : Ev) (x : D) : Res D := bnd (evRO cl lo τ) (slK2 cl hi τ x)
theorem slK_k {lo hi : Option IR} {x : D} : slK cl lo hi τ x = bnd (evRO cl lo τ) (slK2 cl hi τ x) := rfl
theorem r_sl {a : IR} {lo hi : Option IR} : evR cl (.sl a lo hi) τ = bnd (evR cl a τ) (slK cl lo hi τ) := rfl
noncomputable def callK (cl : Nat → List D → Res D) (f : Nat) (ds : List D) : Res D := cl f (ers ds)
theorem callK_k {f : Nat} {ds : List D} : callK cl f ds = cl f (ers ds) := rfl
theorem r_call {f : Nat} {es : List IR} : evR cl (.call f es) τ = bnd (evRs cl es τ) (callK cl f) := rfl
theorem r_bi {f : Bi} {es : List IR} : evR cl (.bi f es) τ = bnd (evRs cl es τ) (opBi f) := rfl
noncomputable def isiK (k : Kd) (x : D) : Res D := .ok (.bl (isiD k x))
theorem isiK_k {k : Kd} {x : D} : isiK k x = .ok (.bl (isiD k x)) := rfl
theorem r_lrev {a : IR} : evR cl (.lrev a) τ = bnd (evR cl a τ) revD := rfl
theorem rv_l {o : Bool} {ds : List D} : revD (.lst o ds) = .ok (.lst true ds.reverse) := rfl
theorem r_isi {a : IR} {k : Kd} : evR cl (.isi a k) τ = bnd (evR cl a τ) (isiK k) := rfl
noncomputable def mthK (cl : Nat → List D → Res D) (m : Mt) (es : List IR) (τ : Ev) (x : D) : Res D := grd (isStrD x) (bnd (evRs cl es τ) (opMt m x))
theorem mthK_k {m : Mt} {es : List IR} {x : D} : mthK cl m es τ x = grd (isStrD x) (bnd (evRs cl es τ) (opMt m x)) := rfl
theorem r_mth {m : Mt} {o : IR} {es : List IR} : evR cl (.mth m o es) τ = bnd (evR cl o τ) (mthK cl m es τ) := rfl
noncomputable def lstT (ds : List D) : Res D := .ok (.lst true ds)
theorem lstT_k {ds : List D} : lstT ds = .ok (.lst true ds) := rfl
noncomputable def compK (cl : Nat → List D → Res D) (G : Gm) (fr : List Nat) (T : Tg) (I : List IR) (E : IR) (τ : Ev) (its : List D) : Res D := grd (szLt its.length) (bnd (noX (fmapM (bodyM cl T I E (blk G fr τ)) its)) lstT)
theorem compK_k {G : Gm} {fr : List Nat} {T : Tg} {I : List IR} {E : IR} {its : List D} : compK cl G fr T I E τ its = grd (szLt its.length) (bnd (noX (fmapM (bodyM cl T I E (blk G fr τ)) its)) lstT) := rfl
theorem r_comp {G : Gm} {fr : List Nat} {T : Tg} {s : Sr} {I : List IR} {E : IR} : evR cl (.comp G fr T s I E) τ = bnd (evSr cl s τ) (compK cl G fr T I E τ) := rfl
theorem rs_n : evRs cl [] τ = .ok [] := rfl
noncomputable def consK (d : D) (ds : List D) : Res (List D) := .ok (d :: ds)
theorem consK_k {d : D} {ds : List D} : consK d ds = .ok (d :: ds) := rfl
noncomputable def rsK (cl : Nat → List D → Res D) (es : List IR) (τ : Ev) (d : D) : Res (List D) := bnd (evRs cl es τ) (consK d)
theorem rsK_k {es : List IR} {d : D} : rsK cl es τ d = bnd (evRs cl es τ) (consK d) := rfl
theorem rs_c {e : IR} {es : List IR} : evRs cl (e :: es) τ = bnd (evR cl e τ) (rsK cl es τ) := rfl
noncomputable def intO : D → Res (Option Int)
 | .int i => .ok (some i)
 | _ => stk
theorem intO_i {i : Int} : intO (.int i) = .ok (some i) := rfl
theorem ro_n : evRO cl none τ = .ok none := rfl
theorem ro_s {e : IR} : evRO cl (some e) τ = bnd (evR cl e τ) intO := rfl
theorem ts_n : evTs cl [] τ = .ok true := rfl
noncomputable def tsK (cl : Nat → List D → Res D) (es : List IR) (τ : Ev) (r : Bool) : Res Bool := if r = true then evTs cl es τ else .ok false
theorem tsK_k {es : List IR} {r : Bool} : tsK cl es τ r = if r = true then evTs cl es τ else .ok false := rfl
theorem ts_c {e : IR} {es : List IR} : evTs cl (e :: es) τ = bnd (bnd (evR cl e τ) truD) (tsK cl es τ) := rfl
noncomputable def rng1D : D → Res (List D)
 | .int i => grd (rngOk i) (.ok (rngD 0 i))
 | _ => stk
noncomputable def rng2D : D → D → Res (List D)
 | .int i, .int j => grd (rngOk i && rngOk j) (.ok (rngD i j))
 | _, _ => stk
theorem rng1D_i {i : Int} : rng1D (.int i) = grd (rngOk i) (.ok (rngD 0 i)) := rfl
theorem rng2D_i {i j : Int} : rng2D (.int i) (.int j) = grd (rngOk i && rngOk j) (.ok (rngD i j)) := rfl
theorem s_r1 {n : IR} : evSr cl (.rng1 n) τ = bnd (evR cl n τ) rng1D := rfl
noncomputable def r2K (cl : Nat → List D → Res D) (b : IR) (τ : Ev) (x : D) : Res (List D) := bnd (evR cl b τ) (rng2D x)
theorem r2K_k {b : IR} {x : D} : r2K cl b τ x = bnd (evR cl b τ) (rng2D x) := rfl
theorem s_r2 {a b : IR} : evSr cl (.rng2 a b) τ = bnd (evR cl a τ) (r2K cl b τ) := rfl
theorem s_val {e : IR} : evSr cl (.val e) τ = bnd (evR cl e τ) itemsD := rfl
theorem it_l {o : Bool} {ds : List D} : itemsD (.lst o ds) = .ok ds := rfl
theorem it_t {ds : List D} : itemsD (.tup ds) = .ok ds := rfl
theorem it_s {x : Str} : itemsD (.str x) = grd (szOk x.length) (.ok (charsD x)) := rfl
theorem t_t {t : IR} : evT cl t τ = bnd (evR cl t τ) truD := rfl
theorem o_v {i : Nat} : evO cl mv (.v i) τ = (match slotD τ i with | some d => if mv = true then .ok (d, τ.set i none) else .ok (er d, τ.set i (some (er d))) | none => stk) := rfl
noncomputable def otupK (p : List D × Ev) : Res (D × Ev) := grd (szOk p.1.length) (.ok (.tup p.1, p.2))
theorem otupK_k {p : List D × Ev} : otupK p = grd (szOk p.1.length) (.ok (.tup p.1, p.2)) := rfl
theorem o_tup {es : List IR} : evO cl mv (.tup es) τ = bnd (evOs cl mv es τ) otupK := rfl
noncomputable def olstK (p : List D × Ev) : Res (D × Ev) := grd (szOk p.1.length) (.ok (.lst true p.1, p.2))
theorem olstK_k {p : List D × Ev} : olstK p = grd (szOk p.1.length) (.ok (.lst true p.1, p.2)) := rfl
theorem o_lst {es : List IR} : evO cl mv (.lst es) τ = bnd (evOs cl mv es τ) olstK := rfl
noncomputable def oiteK (cl : Nat → List D → Res D) (mv : Bool) (a b : IR) (τ : Ev) (r : Bool) : Res (D × Ev) := if r = true then evO cl mv a τ else evO cl mv b τ
theorem oiteK_k {a b : IR} {r : Bool} : oiteK cl mv a b τ r = if r = true then evO cl mv a τ else evO cl mv b τ := rfl
theorem o_ite {t a b : IR} : evO cl mv (.ite t a b) τ = bnd (evT cl t τ) (oiteK cl mv a b τ) := rfl
noncomputable def ocallK2 (es : List IR) (τ : Ev) (d : D) : Res (D × Ev) := if lfree d = true then .ok (d, τ) else .ok (d, frz (varss es) τ)
theorem ocallK2_k {es : List IR} {d : D} : ocallK2 es τ d = if lfree d = true then .ok (d, τ) else .ok (d, frz (varss es) τ) := rfl
noncomputable def ocallK (cl : Nat → List D → Res D) (f : Nat) (es : List IR) (τ : Ev) (ds : List D) : Res (D × Ev) := bnd (cl f (ers ds)) (ocallK2 es τ)
theorem ocallK_k {f : Nat} {es : List IR} {ds : List D} : ocallK cl f es τ ds = bnd (cl f (ers ds)) (ocallK2 es τ) := rfl
theorem o_call {f : Nat} {es : List IR} : evO cl mv (.call f es) τ = bnd (evRs cl es τ) (ocallK cl f es τ) := rfl
noncomputable def keepK (e : IR) (τ : Ev) (d : D) : Res (D × Ev) := .ok (keepD e d τ)
theorem keepK_k {e : IR} {d : D} : keepK e τ d = .ok (keepD e d τ) := rfl
theorem o_c {d : D} : evO cl mv (.c d) τ = bnd (evR cl (.c d) τ) (keepK (.c d) τ) := rfl
theorem o_g {n : Nat} {d : D} : evO cl mv (.g n d) τ = bnd (evR cl (.g n d) τ) (keepK (.g n d) τ) := rfl
theorem o_bin {op : BOp} {a b : IR} : evO cl mv (.bin op a b) τ = bnd (evR cl (.bin op a b) τ) (keepK (.bin op a b) τ) := rfl
theorem o_neg {a : IR} : evO cl mv (.neg a) τ = bnd (evR cl (.neg a) τ) (keepK (.neg a) τ) := rfl
theorem o_cmp {op : COp} {a b : IR} : evO cl mv (.cmp op a b) τ = bnd (evR cl (.cmp op a b) τ) (keepK (.cmp op a b) τ) := rfl
theorem o_chain {op op' : COp} {a b c : IR} : evO cl mv (.chain op op' a b c) τ = bnd (evR cl (.chain op op' a b c) τ) (keepK (.chain op op' a b c) τ) := rfl
theorem o_and {a b : IR} : evO cl mv (.and_ a b) τ = bnd (evR cl (.and_ a b) τ) (keepK (.and_ a b) τ) := rfl
theorem o_or {a b : IR} : evO cl mv (.or_ a b) τ = bnd (evR cl (.or_ a b) τ) (keepK (.or_ a b) τ) := rfl
theorem o_not {a : IR} : evO cl mv (.not_ a) τ = bnd (evR cl (.not_ a) τ) (keepK (.not_ a) τ) := rfl
theorem o_idx {a i : IR} : evO cl mv (.idx a i) τ = bnd (evR cl (.idx a i) τ) (keepK (.idx a i) τ) := rfl
theorem o_sl {a : IR} {lo hi : Option IR} : evO cl mv (.sl a lo hi) τ = bnd (evR cl (.sl a lo hi) τ) (keepK (.sl a lo hi) τ) := rfl
theorem o_bi {f : Bi} {es : List IR} : evO cl mv (.bi f es) τ = bnd (evR cl (.bi f es) τ) (keepK (.bi f es) τ) := rfl
theorem o_lrev {a : IR} : evO cl mv (.lrev a) τ = bnd (evR cl (.lrev a) τ) (keepK (.lrev a) τ) := rfl
theorem o_isi {a : IR} {k : Kd} : evO cl mv (.isi a k) τ = bnd (evR cl (.isi a k) τ) (keepK (.isi a k) τ) := rfl
theorem o_mth {m : Mt} {o : IR} {es : List IR} : evO cl mv (.mth m o es) τ = bnd (evR cl (.mth m o es) τ) (keepK (.mth m o es) τ) := rfl
theorem o_comp {G : Gm} {fr : List Nat} {T : Tg} {s : Sr} {I : List IR} {E : IR} : evO cl mv (.comp G fr T s I E) τ = bnd (evR cl (.comp G fr T s I E) τ) (keepK (.comp G fr T s I E) τ) := rfl
theorem os_n : evOs cl mv [] τ = .ok ([], τ) := rfl
noncomputable def osK2 (d : D) (q : List D × Ev) : Res (List D × Ev) := .ok (d :: q.1, q.2)
theorem osK2_k {d : D} {q : List D × Ev} : osK2 d q = .ok (d :: q.1, q.2) := rfl
noncomputable def osK (cl : Nat → List D → Res D) (mv : Bool) (es : List IR) (p : D × Ev) : Res (List D × Ev) := bnd (evOs cl mv es p.2) (osK2 p.1)
theorem osK_k {es : List IR} {p : D × Ev} : osK cl mv es p = bnd (evOs cl mv es p.2) (osK2 p.1) := rfl
theorem os_c {e : IR} {es : List IR} : evOs cl mv (e :: es) τ = bnd (evO cl mv e τ) (osK cl mv es) := rfl
noncomputable def smK (d : D) : Res (Option D) := .ok (some d)
theorem smK_k {d : D} : smK d = .ok (some d) := rfl
noncomputable def bdK2 (cl : Nat → List D → Res D) (E : IR) (τ : Ev) (r : Bool) : Res (Option D) := if r = true then bnd (evR cl E τ) smK else .ok none
theorem bdK2_k {E : IR} {r : Bool} : bdK2 cl E τ r = if r = true then bnd (evR cl E τ) smK else .ok none := rfl
noncomputable def bdK (cl : Nat → List D → Res D) (I : List IR) (E : IR) (τ : Ev) : Res (Option D) := bnd (evTs cl I τ) (bdK2 cl E τ)
theorem bdK_k {I : List IR} {E : IR} : bdK cl I E τ = bnd (evTs cl I τ) (bdK2 cl E τ) := rfl
theorem body_eq {T : Tg} {I : List IR} {E : IR} {x : D} : bodyM cl T I E τ x = bnd (setT T x τ) (bdK cl I E) := rfl
theorem blk_eq {G : Gm} {fr : List Nat} : blk G fr τ = fr.map (slotD τ) ++ List.replicate (G.N.length - fr.length) none := rfl
theorem k_i {e : IR} {i : Int} : keepD e (.int i) τ = (.int i, τ) := rfl
theorem k_s {e : IR} {x : Str} : keepD e (.str x) τ = (.str x, τ) := rfl
theorem k_b {e : IR} {b : Bool} : keepD e (.bl b) τ = (.bl b, τ) := rfl
theorem k_n {e : IR} : keepD e .non τ = (.non, τ) := rfl
noncomputable def nxK (τ' : Ev) : Res Fl := .ok (.nx τ')
theorem nxK_k : nxK τ = .ok (.nx τ) := rfl
noncomputable def asgK (tg : Tg) (p : D × Ev) : Res Fl := bnd (setT tg p.1 p.2) nxK
theorem asgK_k {tg : Tg} {p : D × Ev} : asgK tg p = bnd (setT tg p.1 p.2) nxK := rfl
theorem st_asg {tg : Tg} {e : IR} : evS cl (.asg tg e) τ = bnd (evO cl false e τ) (asgK tg) := rfl
noncomputable def setxD (i : Nat) (p : D × Ev) (ds : List D) : D → Res Fl
 | .int z => (match ixN ds.length z with
  | some j => .ok (.nx (p.2.set i (some (.lst true (ds.set j p.1)))))
  | none => stk)
 | _ => stk
noncomputable def setL (cl : Nat → List D → Res D) (i : Nat) (k : IR) (p : D × Ev) : Option D → Res Fl
 | some (.lst true ds) => bnd (evR cl k p.2) (setxD i p ds)
 | _ => stk
theorem setL_t {i : Nat} {k : IR} {p : D × Ev} {ds : List D} : setL cl i k p (some (.lst true ds)) = bnd (evR cl k p.2) (setxD i p ds) := rfl
theorem setxD_i {i : Nat} {p : D × Ev} {ds : List D} {z : Int} : setxD i p ds (.int z) = (match ixN ds.length z with | some j => .ok (.nx (p.2.set i (some (.lst true (ds.set j p.1))))) | none => stk) := rfl
noncomputable def setixK (cl : Nat → List D → Res D) (i : Nat) (k : IR) (p : D × Ev) : Res Fl := setL cl i k p (slotD p.2 i)
theorem setixK_k {i : Nat} {k : IR} {p : D × Ev} : setixK cl i k p = setL cl i k p (slotD p.2 i) := rfl
theorem st_setix {i : Nat} {k e : IR} : evS cl (.setix i k e) τ = bnd (evO cl false e τ) (setixK cl i k) := rfl
noncomputable def appD (i : Nat) (p : D × Ev) : Option D → Res Fl
 | some (.lst true ds) => grd (szLt ds.length) (.ok (.nx (p.2.set i (some (.lst true (ds ++ [p.1]))))))
 | _ => stk
noncomputable def appK (i : Nat) (p : D × Ev) : Res Fl := appD i p (slotD p.2 i)
theorem appK_k {i : Nat} {p : D × Ev} : appK i p = appD i p (slotD p.2 i) := rfl
noncomputable def app0 (cl : Nat → List D → Res D) (i : Nat) (e : IR) (τ : Ev) : Option D → Res Fl
 | some (.lst _ _) => bnd (evO cl false e τ) (appK i)
 | _ => stk
theorem app0_t {i : Nat} {e : IR} {o : Bool} {ds : List D} : app0 cl i e τ (some (.lst o ds)) = bnd (evO cl false e τ) (appK i) := rfl
theorem appD_t {i : Nat} {p : D × Ev} {ds : List D} : appD i p (some (.lst true ds)) = grd (szLt ds.length) (.ok (.nx (p.2.set i (some (.lst true (ds ++ [p.1])))))) := rfl
theorem st_app {i : Nat} {e : IR} : evS cl (.app i e) τ = app0 cl i e τ (slotD τ i) := rfl
noncomputable def expK (τ : Ev) (d : D) : Res Fl := .ok (.nx τ)
theorem expK_k {d : D} : expK τ d = .ok (.nx τ) := rfl
theorem st_exp {e : IR} : evS cl (.exp e) τ = bnd (evR cl e τ) (expK τ) := rfl
noncomputable def rtK (p : D × Ev) : Res Fl := .ok (.rt p.1)
theorem rtK_k {p : D × Ev} : rtK p = .ok (.rt p.1) := rfl
theorem st_ret {e : IR} : evS cl (.ret e) τ = bnd (evO cl true e τ) rtK := rfl
theorem st_retN : evS cl .retN τ = .ok (.rt .non) := rfl
noncomputable def ifK (cl : Nat → List D → Res D) (a b : List IS) (τ : Ev) (r : Bool) : Res Fl := if r = true then evSs cl a τ else evSs cl b τ
theorem ifK_k {a b : List IS} {r : Bool} : ifK cl a b τ r = if r = true then evSs cl a τ else evSs cl b τ := rfl
theorem st_if {t : IR} {a b : List IS} : evS cl (.if_ t a b) τ = bnd (evT cl t τ) (ifK cl a b τ) := rfl
noncomputable def turn (cl : Nat → List D → Res D) (tg : Tg) (body : List IS) (x : D) (τ : Ev) : Res Fl := bnd (setT tg x τ) (evSs cl body)
theorem turn_eq {tg : Tg} {body : List IS} {x : D} : turn cl tg body x τ = bnd (setT tg x τ) (evSs cl body) := rfl
noncomputable def forK (cl : Nat → List D → Res D) (tg : Tg) (body : List IS) (p : List D × Ev) : Res Fl := forM (turn cl tg body) p.1 p.2
theorem forK_k {tg : Tg} {body : List IS} {p : List D × Ev} : forK cl tg body p = forM (turn cl tg body) p.1 p.2 := rfl
theorem st_for {tg : Tg} {s : Sr} {body : List IS} : evS cl (.for_ tg s body) τ = bnd (srcO cl s τ) (forK cl tg body) := rfl
theorem st_while {t : IR} {body : List IS} : evS cl (.while_ t body) τ = whileM (evT cl t) (evSs cl body) wfuel τ := rfl
noncomputable def rvK (i : Nat) (τ : Ev) : Option D → Res Fl
 | some (.lst true ds) => .ok (.nx (τ.set i (some (.lst true ds.reverse))))
 | _ => stk
theorem rvK_k {i : Nat} {ds : List D} : rvK i τ (some (.lst true ds)) = .ok (.nx (τ.set i (some (.lst true ds.reverse)))) := rfl
theorem st_rvs {i : Nat} : evS cl (.rvs i) τ = rvK i τ (slotD τ i) := by
 show (match slotD τ i with | some (.lst true ds) => (.ok (.nx (τ.set i (some (.lst true ds.reverse)))) : Res Fl) | _ => stk) = _
 rcases slotD τ i with _ | d
 ·rfl
 ·cases d <;> first | rfl | (rename_i o ds; cases o <;> rfl)
noncomputable def clK (i : Nat) (τ : Ev) : Option D → Res Fl
 | some (.lst true _) => .ok (.nx (τ.set i (some (.lst true []))))
 | _ => stk
theorem clK_k {i : Nat} {ds : List D} : clK i τ (some (.lst true ds)) = .ok (.nx (τ.set i (some (.lst true [])))) := rfl
theorem st_clr {i : Nat} : evS cl (.clr i) τ = clK i τ (slotD τ i) := by
 show (match slotD τ i with | some (.lst true _) => (.ok (.nx (τ.set i (some (.lst true [])))) : Res Fl) | _ => stk) = _
 rcases slotD τ i with _ | d
 ·rfl
 ·cases d <;> first | rfl | (rename_i o ds; cases o <;> rfl)
theorem st_brk : evS cl .brk τ = .ok (.bk τ) := rfl
theorem st_cnt : evS cl .cnt τ = .ok (.ct τ) := rfl
theorem st_pass : evS cl .pass τ = .ok (.nx τ) := rfl
noncomputable def seqF (f : Ev → Res Fl) : Fl → Res Fl
 | .nx τ' => f τ'
 | .ct τ' => .ok (.ct τ')
 | .bk τ' => .ok (.bk τ')
 | .rt d => .ok (.rt d)
theorem ss_n : evSs cl [] τ = .ok (.nx τ) := rfl
theorem ss_c {s : IS} {r : List IS} : evSs cl (s :: r) τ = bnd (evS cl s τ) (seqF (evSs cl r)) := rfl
theorem sq_nx {f : Ev → Res Fl} : seqF f (.nx τ) = f τ := rfl
theorem sq_ct {f : Ev → Res Fl} : seqF f (.ct τ) = .ok (.ct τ) := rfl
theorem sq_bk {f : Ev → Res Fl} : seqF f (.bk τ) = .ok (.bk τ) := rfl
theorem sq_rt {f : Ev → Res Fl} {d : D} : seqF f (.rt d) = .ok (.rt d) := rfl
noncomputable def srcK (τ : Ev) (its : List D) : Res (List D × Ev) := .ok (its, τ)
theorem srcK_k {its : List D} : srcK τ its = .ok (its, τ) := rfl
noncomputable def srcvK (e : IR) (τ : Ev) (its : List D) : Res (List D × Ev) := .ok (ers its, frz (vars e) τ)
theorem srcvK_k {e : IR} {its : List D} : srcvK e τ its = .ok (ers its, frz (vars e) τ) := rfl
theorem src_1 {n : IR} : srcO cl (.rng1 n) τ = bnd (evSr cl (.rng1 n) τ) (srcK τ) := rfl
theorem src_2 {a b : IR} : srcO cl (.rng2 a b) τ = bnd (evSr cl (.rng2 a b) τ) (srcK τ) := rfl
theorem src_v {e : IR} : srcO cl (.val e) τ = bnd (evSr cl (.val e) τ) (srcvK e τ) := rfl
noncomputable def forF (body : D → Ev → Res Fl) (xs : List D) : Fl → Res Fl
 | .nx τ' => forM body xs τ'
 | .ct τ' => forM body xs τ'
 | .bk τ' => .ok (.nx τ')
 | .rt d => .ok (.rt d)
theorem for_n {body : D → Ev → Res Fl} : forM body [] τ = .ok (.nx τ) := rfl
theorem for_c {body : D → Ev → Res Fl} {x : D} {xs : List D} : forM body (x :: xs) τ = bnd (body x τ) (forF body xs) := rfl
theorem ff_nx {body : D → Ev → Res Fl} {xs : List D} : forF body xs (.nx τ) = forM body xs τ := rfl
theorem ff_ct {body : D → Ev → Res Fl} {xs : List D} : forF body xs (.ct τ) = forM body xs τ := rfl
theorem ff_bk {body : D → Ev → Res Fl} {xs : List D} : forF body xs (.bk τ) = .ok (.nx τ) := rfl
theorem ff_rt {body : D → Ev → Res Fl} {xs : List D} {d : D} : forF body xs (.rt d) = .ok (.rt d) := rfl
theorem t_nm {i : Nat} {d : D} : setT (.nm i) d τ = .ok (τ.set i (some d)) := rfl
theorem t_tp {ts : List Tg} {ds : List D} : setT (.tp ts) (.tup ds) τ = grd (decide (ds.length = ts.length)) (setTs ts ds τ) := rfl
theorem t_tl {ts : List Tg} {o : Bool} {ds : List D} : setT (.tp ts) (.lst o ds) τ = grd (decide (ds.length = ts.length)) (setTs ts ds τ) := rfl
theorem ts'_n : setTs [] [] τ = .ok τ := rfl
theorem ts'_c {t : Tg} {ts : List Tg} {d : D} {ds : List D} : setTs (t :: ts) (d :: ds) τ = bnd (setT t d τ) (setTs ts ds) := rfl
theorem sl_0 {o : Option D} : slotD (o :: τ) 0 = o := by unfold slotD; simp
theorem sl_s {o : Option D} {i : Nat} : slotD (o :: τ) (i + 1) = slotD τ i := slotD_cons
theorem set_0 {o p : Option D} : (o :: τ).set 0 p = p :: τ := rfl
theorem set_s {o p : Option D} {i : Nat} : (o :: τ).set (i + 1) p = o :: τ.set i p := rfl
theorem b_add {a b : Int} : opB .add (.int a) (.int b) = .ok (.int (a + b)) := rfl
theorem b_adds {a b : Str} : opB .add (.str a) (.str b) = grd (szOk (a.length + b.length)) (.ok (.str (a ++ b))) := rfl
theorem b_addl {o o' : Bool} {a b : List D} : opB .add (.lst o a) (.lst o' b) = grd (szOk (a.length + b.length)) (.ok (.lst true (a ++ b))) := rfl
theorem b_sub {a b : Int} : opB .sub (.int a) (.int b) = .ok (.int (a - b)) := rfl
theorem b_mul {a b : Int} : opB .mul (.int a) (.int b) = grd (decide (-(2 ^ 64) < a ∧ a < 2 ^ 64) || decide (-(2 ^ 64) < b ∧ b < 2 ^ 64)) (.ok (.int (a * b))) := rfl
theorem b_fdiv {a b : Int} : opB .fdiv (.int a) (.int b) = grd (decide (0 < b ∧ b < 1073741824)) (.ok (.int (a / b))) := rfl
theorem b_mod {a b : Int} : opB .mod (.int a) (.int b) = grd (decide (0 < b)) (.ok (.int (a % b))) := rfl
theorem b_pow {a b : Int} : opB .pow (.int a) (.int b) = grd (decide (0 ≤ b ∧ b ≤ 1000000 ∧ a.natAbs < 2 ^ 64)) (.ok (.int (a ^ b.toNat))) := rfl
theorem x_l {o : Bool} {ds : List D} {i : Int} : opIx (.lst o ds) (.int i) = (match atI ds i with | some d => .ok d | none => stk) := rfl
theorem x_t {ds : List D} {i : Int} : opIx (.tup ds) (.int i) = (match atI ds i with | some d => .ok d | none => stk) := rfl
theorem x_s {z : Str} {i : Int} : opIx (.str z) (.int i) = grd (szOk z.length) (match atI z.cps.toList i with | some c => .ok (.str ⟨#[c]⟩) | none => stk) := rfl
theorem sl_l {o : Bool} {ds : List D} {lo hi : Option Int} : opSl (.lst o ds) lo hi = .ok (.lst true (cutG ds lo hi)) := rfl
theorem sl_t {z : Str} {lo hi : Option Int} : opSl (.str z) lo hi = grd (szOk z.length) (.ok (.str (Txt.slice z lo hi))) := rfl
theorem tr_n : truD .non = .ok false := rfl
theorem tr_b {b : Bool} : truD (.bl b) = .ok b := rfl
theorem tr_i {i : Int} : truD (.int i) = .ok (i != 0) := rfl
theorem c_eq {a b : D} : opC .eq a b = eqN 40 a b := by cases a <;> cases b <;> rfl
noncomputable def notB (r : Bool) : Res Bool := .ok !r
theorem notB_k {r : Bool} : notB r = .ok !r := rfl
theorem c_ne {a b : D} : opC .ne a b = bnd (eqN 40 a b) notB := by cases a <;> cases b <;> rfl
theorem e_ii {n : Nat} {a b : Int} : eqN (n + 1) (.int a) (.int b) = .ok (a == b) := rfl
theorem e_ss {n : Nat} {a b : Str} : eqN (n + 1) (.str a) (.str b) = .ok (a == b) := rfl
theorem e_bb {n : Nat} {a b : Bool} : eqN (n + 1) (.bl a) (.bl b) = .ok (a == b) := rfl
theorem e_nn {n : Nat} : eqN (n + 1) .non .non = .ok true := rfl
theorem e_ni {n : Nat} {a : Int} : eqN (n + 1) .non (.int a) = .ok false := rfl
theorem e_in {n : Nat} {a : Int} : eqN (n + 1) (.int a) .non = .ok false := rfl
theorem ej_nb {n : Nat} {b' : Bool} : eqN (n + 1) (.non) (.bl b') = .ok false := rfl
theorem ej_ni {n : Nat} {i' : Int} : eqN (n + 1) (.non) (.int i') = .ok false := rfl
theorem ej_ns {n : Nat} {x' : Str} : eqN (n + 1) (.non) (.str x') = .ok false := rfl
theorem ej_nt {n : Nat} {ds' : List D} : eqN (n + 1) (.non) (.tup ds') = .ok false := rfl
theorem ej_nl {n : Nat} {o' : Bool} {ds' : List D} : eqN (n + 1) (.non) (.lst o' ds') = .ok false := rfl
theorem ej_bn {n : Nat} {b : Bool} : eqN (n + 1) (.bl b) (.non) = .ok false := rfl
theorem ej_bs {n : Nat} {b : Bool} {x' : Str} : eqN (n + 1) (.bl b) (.str x') = .ok false := rfl
theorem ej_bt {n : Nat} {b : Bool} {ds' : List D} : eqN (n + 1) (.bl b) (.tup ds') = .ok false := rfl
theorem ej_bl {n : Nat} {b : Bool} {o' : Bool} {ds' : List D} : eqN (n + 1) (.bl b) (.lst o' ds') = .ok false := rfl
theorem ej_in {n : Nat} {i : Int} : eqN (n + 1) (.int i) (.non) = .ok false := rfl
theorem ej_is {n : Nat} {i : Int} {x' : Str} : eqN (n + 1) (.int i) (.str x') = .ok false := rfl
theorem ej_it {n : Nat} {i : Int} {ds' : List D} : eqN (n + 1) (.int i) (.tup ds') = .ok false := rfl
theorem ej_il {n : Nat} {i : Int} {o' : Bool} {ds' : List D} : eqN (n + 1) (.int i) (.lst o' ds') = .ok false := rfl
theorem ej_sn {n : Nat} {x : Str} : eqN (n + 1) (.str x) (.non) = .ok false := rfl
theorem ej_sb {n : Nat} {x : Str} {b' : Bool} : eqN (n + 1) (.str x) (.bl b') = .ok false := rfl
theorem ej_si {n : Nat} {x : Str} {i' : Int} : eqN (n + 1) (.str x) (.int i') = .ok false := rfl
theorem ej_st {n : Nat} {x : Str} {ds' : List D} : eqN (n + 1) (.str x) (.tup ds') = .ok false := rfl
theorem ej_sl {n : Nat} {x : Str} {o' : Bool} {ds' : List D} : eqN (n + 1) (.str x) (.lst o' ds') = .ok false := rfl
theorem ej_tn {n : Nat} {ds : List D} : eqN (n + 1) (.tup ds) (.non) = .ok false := rfl
theorem ej_tb {n : Nat} {ds : List D} {b' : Bool} : eqN (n + 1) (.tup ds) (.bl b') = .ok false := rfl
theorem ej_ti {n : Nat} {ds : List D} {i' : Int} : eqN (n + 1) (.tup ds) (.int i') = .ok false := rfl
theorem ej_ts {n : Nat} {ds : List D} {x' : Str} : eqN (n + 1) (.tup ds) (.str x') = .ok false := rfl
theorem ej_tl {n : Nat} {ds : List D} {o' : Bool} {ds' : List D} : eqN (n + 1) (.tup ds) (.lst o' ds') = .ok false := rfl
theorem ej_ln {n : Nat} {o : Bool} {ds : List D} : eqN (n + 1) (.lst o ds) (.non) = .ok false := rfl
theorem ej_lb {n : Nat} {o : Bool} {ds : List D} {b' : Bool} : eqN (n + 1) (.lst o ds) (.bl b') = .ok false := rfl
theorem ej_li {n : Nat} {o : Bool} {ds : List D} {i' : Int} : eqN (n + 1) (.lst o ds) (.int i') = .ok false := rfl
theorem ej_ls {n : Nat} {o : Bool} {ds : List D} {x' : Str} : eqN (n + 1) (.lst o ds) (.str x') = .ok false := rfl
theorem ej_lt {n : Nat} {o : Bool} {ds : List D} {ds' : List D} : eqN (n + 1) (.lst o ds) (.tup ds') = .ok false := rfl
theorem e_tt {n : Nat} {a b : List D} : eqN (n + 1) (.tup a) (.tup b) = eqsG (eqN n) a b := rfl
theorem e_ll {n : Nat} {o o' : Bool} {a b : List D} : eqN (n + 1) (.lst o a) (.lst o' b) = eqsG (eqN n) a b := rfl
theorem es_n {f : D → D → Res Bool} : eqsG f [] [] = .ok true := rfl
noncomputable def andB (x y : Bool) : Res Bool := .ok (x && y)
theorem andB_k {x y : Bool} : andB x y = .ok (x && y) := rfl
noncomputable def esK (f : D → D → Res Bool) (r s : List D) (x : Bool) : Res Bool := bnd (eqsG f r s) (andB x)
theorem esK_k {f : D → D → Res Bool} {r s : List D} {x : Bool} : esK f r s x = bnd (eqsG f r s) (andB x) := rfl
theorem es_c {f : D → D → Res Bool} {a b : D} {r s : List D} : eqsG f (a :: r) (b :: s) = bnd (f a b) (esK f r s) := rfl
theorem es_l {f : D → D → Res Bool} {a : D} {r : List D} : eqsG f (a :: r) [] = .ok false := rfl
theorem es_r {f : D → D → Res Bool} {b : D} {s : List D} : eqsG f [] (b :: s) = .ok false := rfl
theorem c_lt {a b : Int} : opC .lt (.int a) (.int b) = .ok (decide (a < b)) := rfl
theorem c_le {a b : Int} : opC .le (.int a) (.int b) = .ok (decide (a ≤ b)) := rfl
theorem c_gt {a b : Int} : opC .gt (.int a) (.int b) = .ok (decide (b < a)) := rfl
theorem c_ge {a b : Int} : opC .ge (.int a) (.int b) = .ok (decide (b ≤ a)) := rfl
theorem c_ins {y x : Str} : opC .in_ (.str y) (.str x) = .ok (inStr x y) := rfl
theorem c_nins {y x : Str} : opC .nin (.str y) (.str x) = .ok (!inStr x y) := rfl
theorem c_inl {a : D} {o : Bool} {ds : List D} : opC .in_ a (.lst o ds) = anyN a ds := by cases a <;> rfl
theorem c_ninl {a : D} {o : Bool} {ds : List D} : opC .nin a (.lst o ds) = bnd (anyN a ds) notB := by cases a <;> rfl
theorem c_is {a : D} : opC .is_ a .non = .ok (isNon a) := by cases a <;> rfl
theorem c_isn {a : D} : opC .isn a .non = .ok (!isNon a) := by cases a <;> rfl
theorem n_n : isNon .non = true := rfl
theorem n_i {i : Int} : isNon (.int i) = false := rfl
theorem n_s {i : Str} : isNon (.str i) = false := rfl
theorem n_b {b : Bool} : isNon (.bl b) = false := rfl
theorem n_t {ds : List D} : isNon (.tup ds) = false := rfl
theorem n_l {o : Bool} {ds : List D} : isNon (.lst o ds) = false := rfl
theorem c_int {a : D} {ds : List D} : opC .in_ a (.tup ds) = anyN a ds := by cases a <;> rfl
theorem c_nint {a : D} {ds : List D} : opC .nin a (.tup ds) = bnd (anyN a ds) notB := by cases a <;> rfl
theorem an_n {d : D} : anyN d [] = .ok false := rfl
noncomputable def orBB (x y : Bool) : Res Bool := .ok (x || y)
theorem orBB_k {x y : Bool} : orBB x y = .ok (x || y) := rfl
noncomputable def anK (d : D) (r : List D) (x : Bool) : Res Bool := bnd (anyN d r) (orBB x)
theorem anK_k {d : D} {r : List D} {x : Bool} : anK d r x = bnd (anyN d r) (orBB x) := rfl
theorem an_c {d e : D} {r : List D} : anyN d (e :: r) = bnd (eqN 40 e d) (anK d r) := rfl
theorem bi_ls {x : Str} : opBi .len [.str x] = grd (szOk x.length) (.ok (.int x.length)) := rfl
theorem bi_lt {ds : List D} : opBi .len [.tup ds] = .ok (.int ds.length) := rfl
theorem bi_ll {o : Bool} {ds : List D} : opBi .len [.lst o ds] = .ok (.int ds.length) := rfl
theorem bi_min {a b : Int} : opBi .min2 [.int a, .int b] = .ok (.int (if b < a then b else a)) := rfl
theorem bi_max {a b : Int} : opBi .max2 [.int a, .int b] = .ok (.int (if b > a then b else a)) := rfl
theorem bi_inti {i : Int} : opBi .int [.int i] = .ok (.int i) := rfl
theorem bi_intb {b : Bool} : opBi .int [.bl b] = .ok (.int (if b then 1 else 0)) := rfl
theorem bi_listl {o : Bool} {ds : List D} : opBi .list [.lst o ds] = .ok (.lst true ds) := rfl
theorem bi_lists {x : Str} : opBi .list [.str x] = grd (szOk x.length) (.ok (.lst true (charsD x))) := rfl
theorem bi_listt {ds : List D} : opBi .list [.tup ds] = .ok (.lst true ds) := rfl
theorem asStrs_i (ns : List Str) : asStrs (ns.map .str) = some ns := by
 induction ns with
 | nil => rfl
 | cons n ns ih =>
  show (asStrs (ns.map .str)).map (n :: ·) = _
  rw [ih]
  rfl
theorem asBls_i (ns : List Bool) : asBls (ns.map .bl) = some ns := by
 induction ns with
 | nil => rfl
 | cons n ns ih =>
  show (asBls (ns.map .bl)).map (n :: ·) = _
  rw [ih]
  rfl
theorem bi_abs {i : Int} : opBi .abs [.int i] = .ok (.int (if i < 0 then -i else i)) := rfl
theorem bi_any {o : Bool} {bs : List Bool} : opBi .any [.lst o (bs.map .bl)] = .ok (.bl (bs.any id)) := by
 show (match asBls (bs.map .bl) with | some bs => .ok (.bl (bs.any id)) | none => stk) = (_ : Res D)
 rw [asBls_i]
theorem bi_all {o : Bool} {bs : List Bool} : opBi .all [.lst o (bs.map .bl)] = .ok (.bl (bs.all id)) := by
 show (match asBls (bs.map .bl) with | some bs => .ok (.bl (bs.all id)) | none => stk) = (_ : Res D)
 rw [asBls_i]
theorem mt_join {x : Str} {o : Bool} {ys : List Str} (h : (ys.map (·.length)).sum + ys.length * x.length ≤ 16777216) : opMt .join (.str x) [.lst o (ys.map .str)] = .ok (.str (Txt.join x ys)) := by
 show (match asStrs (ys.map .str) with | some ys => grd (decide ((ys.map (fun y : Str => y.length)).sum + ys.length * x.length ≤ 16777216)) (.ok (.str (Txt.join x ys))) | none => stk) = (_ : Res D)
 rw [asStrs_i]
 show grd (decide _) _ = _
 rw [decide_eq_true h]
 rfl
theorem mt_starts {x y : Str} : opMt .starts (.str x) [.str y] = .ok (.bl (Txt.startswith x y)) := rfl
theorem str_t {x : Str} : isStrD (.str x) = true := rfl
theorem isi_si {x : Str} : isiD .str (.str x) = true := rfl
theorem isi_ii {x : Int} : isiD .int (.int x) = true := rfl
theorem isi_bi {x : Int} : isiD .bool (.int x) = false := rfl
theorem isi_tt {x : List D} : isiD .tuple (.tup x) = true := rfl
theorem isj_strn : isiD .str (.non) = false := rfl
theorem isj_strb {b : Bool} : isiD .str (.bl b) = false := rfl
theorem isj_stri {i : Int} : isiD .str (.int i) = false := rfl
theorem isj_strs {x : Str} : isiD .str (.str x) = true := rfl
theorem isj_strt {ds : List D} : isiD .str (.tup ds) = false := rfl
theorem isj_strl {o : Bool} {ds : List D} : isiD .str (.lst o ds) = false := rfl
theorem isj_intn : isiD .int (.non) = false := rfl
theorem isj_intb {b : Bool} : isiD .int (.bl b) = true := rfl
theorem isj_inti {i : Int} : isiD .int (.int i) = true := rfl
theorem isj_ints {x : Str} : isiD .int (.str x) = false := rfl
theorem isj_intt {ds : List D} : isiD .int (.tup ds) = false := rfl
theorem isj_intl {o : Bool} {ds : List D} : isiD .int (.lst o ds) = false := rfl
theorem isj_booln : isiD .bool (.non) = false := rfl
theorem isj_boolb {b : Bool} : isiD .bool (.bl b) = true := rfl
theorem isj_booli {i : Int} : isiD .bool (.int i) = false := rfl
theorem isj_bools {x : Str} : isiD .bool (.str x) = false := rfl
theorem isj_boolt {ds : List D} : isiD .bool (.tup ds) = false := rfl
theorem isj_booll {o : Bool} {ds : List D} : isiD .bool (.lst o ds) = false := rfl
theorem isj_listn : isiD .list (.non) = false := rfl
theorem isj_listb {b : Bool} : isiD .list (.bl b) = false := rfl
theorem isj_listi {i : Int} : isiD .list (.int i) = false := rfl
theorem isj_lists {x : Str} : isiD .list (.str x) = false := rfl
theorem isj_listt {ds : List D} : isiD .list (.tup ds) = false := rfl
theorem isj_listl {o : Bool} {ds : List D} : isiD .list (.lst o ds) = true := rfl
theorem isj_tuplen : isiD .tuple (.non) = false := rfl
theorem isj_tupleb {b : Bool} : isiD .tuple (.bl b) = false := rfl
theorem isj_tuplei {i : Int} : isiD .tuple (.int i) = false := rfl
theorem isj_tuples {x : Str} : isiD .tuple (.str x) = false := rfl
theorem isj_tuplet {ds : List D} : isiD .tuple (.tup ds) = true := rfl
theorem isj_tuplel {o : Bool} {ds : List D} : isiD .tuple (.lst o ds) = false := rfl
theorem isi_ll {o : Bool} {x : List D} : isiD .list (.lst o x) = true := rfl
theorem lf_i (ns : List Int) : lfrees (ns.map .int) = true := by
 rw [lfrees_all, List.all_map, List.all_eq_true]
 intro x _
 rfl
theorem lf_s (ns : List Str) : lfrees (ns.map .str) = true := by
 rw [lfrees_all, List.all_map, List.all_eq_true]
 intro x _
 rfl
theorem er_i {i : Int} : er (.int i) = .int i := by rw [er]
theorem er_s {i : Str} : er (.str i) = .str i := by rw [er]
theorem er_b {i : Bool} : er (.bl i) = .bl i := by rw [er]
theorem er_n : er .non = .non := by rw [er]
theorem er_t {ds : List D} : er (.tup ds) = .tup (ers ds) := by rw [er]
theorem er_l {o : Bool} {ds : List D} : er (.lst o ds) = .lst false (ers ds) := by rw [er]
theorem ers_n : ers [] = [] := by rw [ers]
theorem ers_c {d : D} {ds : List D} : ers (d :: ds) = er d :: ers ds := by rw [ers]
theorem ers_ii (ns : List Int) : ers (ns.map .int) = ns.map .int := ers_lfrees (lf_i ns)
theorem ers_ss (ns : List Str) : ers (ns.map .str) = ns.map .str := ers_lfrees (lf_s ns)
theorem lfr_i {i : Int} : lfree (.int i) = true := rfl
theorem lfr_s {i : Str} : lfree (.str i) = true := rfl
theorem lfr_b {i : Bool} : lfree (.bl i) = true := rfl
theorem lfr_n : lfree .non = true := rfl
theorem lfr_t {ds : List D} : lfree (.tup ds) = lfrees ds := rfl
theorem lfr_l {o : Bool} {ds : List D} : lfree (.lst o ds) = false := rfl
theorem lfrs_n : lfrees [] = true := rfl
theorem lfrs_c {d : D} {ds : List D} : lfrees (d :: ds) = (lfree d && lfrees ds) := rfl
noncomputable def retF : Fl → Res D
 | .nx _ => .ok .non
 | .rt d => .ok d
 | _ => stk
theorem run {fn : Fn} {ds : List D} (h : ds.length = fn.np) : runF cl fn ds = bnd (evSs cl fn.body (ds.map some ++ List.replicate (fn.G.N.length - fn.np) none)) retF := by
 unfold runF
 rw [decide_eq_true h]
 rfl
theorem ret_nx : retF (.nx τ) = .ok .non := rfl
theorem ret_rt {d : D} : retF (.rt d) = .ok d := rfl
theorem call {T : Tb} {n f : Nat} {fn : Fn} {ds : List D} (h : T f = some fn) : callF T (n + 1) f ds = runF (callF T n) fn ds := by
 show (match T f with | some fn => runF (callF T n) fn ds | none => stk) = _
 rw [h]
theorem go {T : Tb} {n f : Nat} {fn : Fn} {ds : List D} {m k : Nat} {body : List IS} (h : T f = some fn) (h1 : fn.np = m) (h2 : fn.G.N.length = k) (h3 : fn.body = body) (hl : ds.length = m) :
  callF T (n + 1) f ds = bnd (evSs (callF T n) body (ds.map some ++ List.replicate (k - m) none)) retF := by
 rw [call h, run (by rw [hl, h1]), h1, h2, h3]
end
end Ev
end L2
namespace L2
open PySem PySem.Spec PyProof.Rows PySem.SeqAt
namespace Ev
section
variable {cl : Nat → List D → Res D} {τ : Ev}
theorem line : sizeLine = 16777216 := sizeLine_eq
theorem c_mulL {a b : Int} (h1 : -18446744073709551616 < a) (h2 : a < 18446744073709551616) : opB .mul (.int a) (.int b) = .ok (.int (a * b)) := by
 rw [b_mul, decide_eq_true (show -(2 ^ 64) < a ∧ a < 2 ^ 64 from ⟨by omega, by omega⟩)]
 rfl
theorem c_mulR {a b : Int} (h1 : -18446744073709551616 < b) (h2 : b < 18446744073709551616) : opB .mul (.int a) (.int b) = .ok (.int (a * b)) := by
 rw [b_mul, decide_eq_true (show -(2 ^ 64) < b ∧ b < 2 ^ 64 from ⟨by omega, by omega⟩), Bool.or_true]
 rfl
theorem c_fdiv {a b : Int} (h1 : 0 < b) (h2 : b < 1073741824) : opB .fdiv (.int a) (.int b) = .ok (.int (a / b)) := by
 rw [b_fdiv, decide_eq_true ⟨h1, h2⟩]
 rfl
theorem c_mod {a b : Int} (h1 : 0 < b) : opB .mod (.int a) (.int b) = .ok (.int (a % b)) := by
 rw [b_mod, decide_eq_true h1]
 rfl
theorem szOk_t {n : Nat} (h : n ≤ 16777216) : szOk n = true := decide_eq_true (by rw [line]; exact h)
theorem szLt_t {n : Nat} (h : n < 16777216) : szLt n = true := decide_eq_true (by rw [line]; exact h)
theorem rngOk_t {i : Int} (h1 : -4611686018427387904 ≤ i) (h2 : i < 4611686018427387904) : rngOk i = true := decide_eq_true ⟨by omega, by omega⟩
theorem atI_map {α β : Type} (f : α → β) (xs : List α) (i : Int) : atI (xs.map f) i = (atI xs i).map f := by
 unfold atI
 rw [List.length_map]
 cases ixN xs.length i with
 | none => rfl
 | some j => exact List.getElem?_map ..
theorem atI_in {α : Type} {xs : List α} {i : Int} (d : α) (h0 : 0 ≤ i) (h1 : i < xs.length) : atI xs i = some (xs.getD i.toNat d) := by
 unfold atI ixN
 rw [if_pos h0, if_pos h1]
 show xs[i.toNat]? = _
 have : i.toNat < xs.length := by omega
 rw [List.getD_eq_getElem?_getD, List.getElem?_eq_getElem this]
 rfl
theorem x_i {o : Bool} {xs : List Int} {i : Int} (h0 : 0 ≤ i) (h1 : i < xs.length) : opIx (.lst o (xs.map .int)) (.int i) = .ok (.int (xs.getD i.toNat 0)) := by
 rw [x_l, atI_map, atI_in 0 h0 h1]
 rfl
theorem x_ss {o : Bool} {xs : List Str} {i : Int} (h0 : 0 ≤ i) (h1 : i < xs.length) : opIx (.lst o (xs.map .str)) (.int i) = .ok (.str (xs.getD i.toNat ⟨#[]⟩)) := by
 rw [x_l, atI_map, atI_in ⟨#[]⟩ h0 h1]
 rfl
theorem x_c {z : Str} {i : Int} (h0 : 0 ≤ i) (h1 : i < z.length) (hz : z.length ≤ 16777216) : opIx (.str z) (.int i) = .ok (.str ⟨#[z.cps.toList.getD i.toNat 0]⟩) := by
 rw [x_s, szOk_t hz]
 have hl : z.cps.toList.length = z.length := by simp [Str.length]
 rw [atI_in 0 h0 (by rw [hl]; exact h1)]
 rfl
theorem cut_to {α : Type} (xs : List α) {m : Int} (h : 0 ≤ m) : cutG xs none (some m) = xs.take m.toNat := by
 unfold cutG HT.sIx
 simp only [List.drop_zero, Nat.sub_zero]
 rw [if_neg (by omega)]
 by_cases hm : m.toNat ≤ xs.length
 ·rw [show min m.toNat xs.length = m.toNat from Nat.min_eq_left hm]
 ·rw [show min m.toNat xs.length = xs.length from Nat.min_eq_right (by omega), List.take_length, List.take_of_length_le (by omega)]
noncomputable def fz : Bool → Option D → Option D
 | true, some d => some (er d)
 | true, none => none
 | false, o => o
theorem fz_t {d : D} : fz true (some d) = some (er d) := rfl
theorem fz_n : fz true none = none := rfl
theorem fz_f {o : Option D} : fz false o = o := rfl
theorem frz_n {is : List Nat} {k : Nat} : frzA is k [] = [] := rfl
theorem frz_c {is : List Nat} {k : Nat} {o : Option D} {τ : Ev} : frzA is k (o :: τ) = fz (is.contains k) o :: frzA is (k + 1) τ := by
 show (if is.contains k then o.map er else o) :: frzA is (k + 1) τ = _
 cases is.contains k <;> cases o <;> rfl
theorem vr_c {d : D} : vars (.c d) = [] := rfl
theorem vr_g {n : Nat} {d : D} : vars (.g n d) = [] := rfl
theorem vr_v {i : Nat} : vars (.v i) = [i] := rfl
theorem vr_bin {o : BOp} {a b : IR} : vars (.bin o a b) = vars a ++ vars b := rfl
theorem vr_tup {es : List IR} : vars (.tup es) = varss es := rfl
theorem vr_lst {es : List IR} : vars (.lst es) = varss es := rfl
theorem vr_call {f : Nat} {es : List IR} : vars (.call f es) = varss es := rfl
theorem vr_bi {f : Bi} {es : List IR} : vars (.bi f es) = varss es := rfl
theorem vr_idx {a i : IR} : vars (.idx a i) = vars a ++ vars i := rfl
theorem vr_mth {m : Mt} {o : IR} {es : List IR} : vars (.mth m o es) = vars o ++ varss es := rfl
theorem vrs_n : varss [] = [] := rfl
theorem vrs_c {e : IR} {es : List IR} : varss (e :: es) = vars e ++ varss es := rfl
theorem nl_comp {G : Gm} {fr : List Nat} {t : Tg} {s : Sr} {i : List IR} {e : IR} : newList? (.comp G fr t s i e) = true := rfl
theorem nl_add {a b : IR} : newList? (.bin .add a b) = true := rfl
theorem nl_sl {a : IR} {b c : Option IR} : newList? (.sl a b c) = true := rfl
theorem nl_list {es : List IR} : newList? (.bi .list es) = true := rfl
theorem nl_v {i : Nat} : newList? (.v i) = false := rfl
theorem nl_idx {a i : IR} : newList? (.idx a i) = false := rfl
theorem k_ll {e : IR} {o : Bool} {ds : List D} {τ : Ev} : keepD e (.lst o ds) τ = cond (newList? e) (cond (lfrees ds) (.lst true ds, τ) (.lst true (ers ds), frz (vars e) τ)) (.lst false (ers ds), frz (vars e) τ) := by
 unfold keepD
 rw [if_neg (show ¬ lfree (.lst o ds) = true by intro z; cases z)]
 cases newList? e
 ·exact Prod.ext (by show er (.lst o ds) = _; rw [er]; rfl) rfl
 ·show (if lfrees ds = true then _ else _) = _
  cases lfrees ds <;> rfl
theorem k_tt {e : IR} {ds : List D} {τ : Ev} : keepD e (.tup ds) τ = cond (lfrees ds) (.tup ds, τ) (.tup (ers ds), frz (vars e) τ) := by
 unfold keepD
 cases h : lfrees ds with
 | true => rw [if_pos (show lfree (.tup ds) = true from h)]; rfl
 | false =>
  rw [if_neg (show ¬ lfree (.tup ds) = true by intro z; rw [show lfree (.tup ds) = lfrees ds from rfl, h] at z; cases z)]
  cases newList? e <;> exact Prod.ext (by show er (.tup ds) = _; rw [er]; rfl) rfl
theorem for_inv {body : D → Ev → Res Fl} (P : Nat → Ev → Prop) : ∀ (its : List D) (k : Nat) (τ : Ev), P k τ → (∀ (i : Nat) (x : D) (τ : Ev), its[i]? = some x → P (k + i) τ → ∃ τ', body x τ = .ok (.nx τ') ∧ P (k + i + 1) τ') → ∃ τ', forM body its τ = .ok (.nx τ') ∧ P (k + its.length) τ'
 | [], k, τ, h, _ => ⟨τ, rfl, h⟩
 | x :: xs, k, τ, h, hb => by
  obtain ⟨τ1, e1, h1⟩ := hb 0 x τ rfl h
  obtain ⟨τ2, e2, h2⟩ := for_inv P xs (k + 1) τ1 h1 fun i y σ hy hp => by
   obtain ⟨τ', e', h'⟩ := hb (i + 1) y σ (by simpa using hy) (by rw [show k + (i + 1) = k + 1 + i by omega]; exact hp)
   exact ⟨τ', e', by rw [show k + 1 + i + 1 = k + (i + 1) + 1 by omega]; exact h'⟩
  refine ⟨τ2, ?_, by rw [List.length_cons, show k + (xs.length + 1) = k + 1 + xs.length by omega]; exact h2⟩
  rw [for_c, e1, bnd_k, ff_nx, e2]
theorem for_all {body : D → Ev → Res Fl} (P : Nat → Ev → Prop) {its : List D} {τ : Ev} (h : P 0 τ) (hb : ∀ (i : Nat) (x : D) (τ : Ev), its[i]? = some x → P i τ → ∃ τ', body x τ = .ok (.nx τ') ∧ P (i + 1) τ') : ∃ τ', forM body its τ = .ok (.nx τ') ∧ P its.length τ' := by
 obtain ⟨τ', h1, h2⟩ := for_inv P its 0 τ h fun i x τ hx hp => by
  rw [Nat.zero_add] at hp ⊢
  exact hb i x τ hx hp
 exact ⟨τ', h1, by rw [Nat.zero_add] at h2; exact h2⟩
theorem fmap_all {α β : Type} {g : D → Res (Option D)} (emb : α → D) (out : α → β) (emb' : β → D) : ∀ (xs : List α), (∀ x ∈ xs, g (emb x) = .ok (some (emb' (out x)))) → fmapM g (xs.map emb) = .ok ((xs.map out).map emb')
 | [], _ => rfl
 | x :: xs, h => by
  show bnd (g (emb x)) _ = _
  rw [h x (by simp)]
  show bnd (fmapM g (xs.map emb)) _ = _
  rw [fmap_all emb out emb' xs fun y hy => h y (List.mem_cons_of_mem _ hy)]
  rfl
theorem noX_k {α : Type} {a : α} : noX (.ok a : Res α) = .ok a := rfl
end
end Ev
end L2
namespace L2
open PySem
theorem ev0 : type_of% (And.intro (And.intro (And.intro (And.intro (And.intro (And.intro (And.intro (And.intro @Ev.bnd_k @Ev.grd_t) (And.intro @Ev.if_t (And.intro @Ev.if_f @Ev.r_c))) (And.intro (And.intro @Ev.r_g (And.intro @Ev.r_v @Ev.binK_k)) (And.intro @Ev.r_bin (And.intro @Ev.r_neg @Ev.negD_i)))) (And.intro (And.intro (And.intro @Ev.blK_k (And.intro @Ev.cmpK2_k @Ev.cmpK_k)) (And.intro @Ev.r_cmp (And.intro @Ev.chK3_k @Ev.chK2_k))) (And.intro (And.intro @Ev.chK_k (And.intro @Ev.r_chain @Ev.andK2_k)) (And.intro @Ev.andK_k (And.intro @Ev.r_and @Ev.orK2_k))))) (And.intro (And.intro (And.intro (And.intro @Ev.orK_k (And.intro @Ev.r_or @Ev.notK2_k)) (And.intro @Ev.notK_k (And.intro @Ev.r_not @Ev.iteK2_k))) (And.intro (And.intro @Ev.iteK_k (And.intro @Ev.r_ite @Ev.tupK_k)) (And.intro @Ev.r_tup (And.intro @Ev.lstK_k @Ev.r_lst)))) (And.intro (And.intro (And.intro @Ev.idxK_k (And.intro @Ev.r_idx @Ev.slK2_k)) (And.intro @Ev.slK_k (And.intro @Ev.r_sl @Ev.callK_k))) (And.intro (And.intro @Ev.r_call (And.intro @Ev.r_bi @Ev.isiK_k)) (And.intro @Ev.r_lrev (And.intro @Ev.rv_l @Ev.r_isi)))))) (And.intro (And.intro (And.intro (And.intro (And.intro @Ev.mthK_k (And.intro @Ev.r_mth @Ev.lstT_k)) (And.intro @Ev.compK_k (And.intro @Ev.r_comp @Ev.rs_n))) (And.intro (And.intro @Ev.consK_k (And.intro @Ev.rsK_k @Ev.rs_c)) (And.intro @Ev.intO_i (And.intro @Ev.ro_n @Ev.ro_s)))) (And.intro (And.intro (And.intro @Ev.ts_n (And.intro @Ev.tsK_k @Ev.ts_c)) (And.intro @Ev.rng1D_i (And.intro @Ev.rng2D_i @Ev.s_r1))) (And.intro (And.intro @Ev.r2K_k (And.intro @Ev.s_r2 @Ev.s_val)) (And.intro @Ev.it_l (And.intro @Ev.it_t @Ev.it_s))))) (And.intro (And.intro (And.intro (And.intro @Ev.t_t (And.intro @Ev.o_v @Ev.otupK_k)) (And.intro @Ev.o_tup (And.intro @Ev.olstK_k @Ev.o_lst))) (And.intro (And.intro @Ev.oiteK_k (And.intro @Ev.o_ite @Ev.ocallK2_k)) (And.intro @Ev.ocallK_k (And.intro @Ev.o_call @Ev.keepK_k)))) (And.intro (And.intro (And.intro @Ev.o_c (And.intro @Ev.o_g @Ev.o_bin)) (And.intro @Ev.o_neg (And.intro @Ev.o_cmp @Ev.o_chain))) (And.intro (And.intro @Ev.o_and (And.intro @Ev.o_or @Ev.o_not)) (And.intro @Ev.o_idx (And.intro @Ev.o_sl @Ev.o_bi))))))) (And.intro (And.intro (And.intro (And.intro (And.intro (And.intro @Ev.o_lrev @Ev.o_isi) (And.intro @Ev.o_mth (And.intro @Ev.o_comp @Ev.os_n))) (And.intro (And.intro @Ev.osK2_k (And.intro @Ev.osK_k @Ev.os_c)) (And.intro @Ev.smK_k (And.intro @Ev.bdK2_k @Ev.bdK_k)))) (And.intro (And.intro (And.intro @Ev.body_eq (And.intro @Ev.blk_eq @Ev.k_i)) (And.intro @Ev.k_s (And.intro @Ev.k_b @Ev.k_n))) (And.intro (And.intro @Ev.nxK_k (And.intro @Ev.asgK_k @Ev.st_asg)) (And.intro @Ev.setL_t (And.intro @Ev.setxD_i @Ev.setixK_k))))) (And.intro (And.intro (And.intro (And.intro @Ev.st_setix (And.intro @Ev.appK_k @Ev.app0_t)) (And.intro @Ev.appD_t (And.intro @Ev.st_app @Ev.expK_k))) (And.intro (And.intro @Ev.st_exp (And.intro @Ev.rtK_k @Ev.st_ret)) (And.intro @Ev.st_retN (And.intro @Ev.ifK_k @Ev.st_if)))) (And.intro (And.intro (And.intro @Ev.forK_k (And.intro @Ev.st_for @Ev.st_while)) (And.intro @Ev.rvK_k (And.intro @Ev.st_rvs @Ev.clK_k))) (And.intro (And.intro @Ev.st_clr (And.intro @Ev.st_brk @Ev.st_cnt)) (And.intro @Ev.st_pass (And.intro @Ev.ss_n @Ev.ss_c)))))) (And.intro (And.intro (And.intro (And.intro (And.intro @Ev.sq_nx (And.intro @Ev.sq_ct @Ev.sq_bk)) (And.intro @Ev.sq_rt (And.intro @Ev.srcK_k @Ev.srcvK_k))) (And.intro (And.intro @Ev.src_1 (And.intro @Ev.src_2 @Ev.src_v)) (And.intro @Ev.for_n (And.intro @Ev.for_c @Ev.ff_nx)))) (And.intro (And.intro (And.intro @Ev.ff_ct (And.intro @Ev.ff_bk @Ev.ff_rt)) (And.intro @Ev.t_nm (And.intro @Ev.t_tp @Ev.t_tl))) (And.intro (And.intro @Ev.ts'_n (And.intro @Ev.ts'_c @Ev.sl_0)) (And.intro @Ev.sl_s (And.intro @Ev.set_0 @Ev.set_s))))) (And.intro (And.intro (And.intro (And.intro @Ev.b_add (And.intro @Ev.b_adds @Ev.b_addl)) (And.intro @Ev.b_sub (And.intro @Ev.b_pow @Ev.x_t))) (And.intro (And.intro @Ev.sl_l (And.intro @Ev.sl_t @Ev.tr_n)) (And.intro @Ev.tr_b (And.intro @Ev.tr_i @Ev.c_eq)))) (And.intro (And.intro (And.intro @Ev.notB_k (And.intro @Ev.c_ne @Ev.e_ii)) (And.intro @Ev.e_ss (And.intro @Ev.e_bb @Ev.e_nn))) (And.intro (And.intro @Ev.e_ni (And.intro @Ev.e_in @Ev.ej_nb)) (And.intro @Ev.ej_ni (And.intro @Ev.ej_ns @Ev.ej_nt)))))))) (And.intro (And.intro (And.intro (And.intro (And.intro (And.intro (And.intro @Ev.ej_nl @Ev.ej_bn) (And.intro @Ev.ej_bs (And.intro @Ev.ej_bt @Ev.ej_bl))) (And.intro (And.intro @Ev.ej_in (And.intro @Ev.ej_is @Ev.ej_it)) (And.intro @Ev.ej_il (And.intro @Ev.ej_sn @Ev.ej_sb)))) (And.intro (And.intro (And.intro @Ev.ej_si (And.intro @Ev.ej_st @Ev.ej_sl)) (And.intro @Ev.ej_tn (And.intro @Ev.ej_tb @Ev.ej_ti))) (And.intro (And.intro @Ev.ej_ts (And.intro @Ev.ej_tl @Ev.ej_ln)) (And.intro @Ev.ej_lb (And.intro @Ev.ej_li @Ev.ej_ls))))) (And.intro (And.intro (And.intro (And.intro @Ev.ej_lt (And.intro @Ev.e_tt @Ev.e_ll)) (And.intro @Ev.es_n (And.intro @Ev.andB_k @Ev.esK_k))) (And.intro (And.intro @Ev.es_c (And.intro @Ev.es_l @Ev.es_r)) (And.intro @Ev.c_lt (And.intro @Ev.c_le @Ev.c_gt)))) (And.intro (And.intro (And.intro @Ev.c_ge (And.intro @Ev.c_ins @Ev.c_nins)) (And.intro @Ev.c_inl (And.intro @Ev.c_ninl @Ev.c_is))) (And.intro (And.intro @Ev.c_isn (And.intro @Ev.n_n @Ev.n_i)) (And.intro @Ev.n_s (And.intro @Ev.n_b @Ev.n_t)))))) (And.intro (And.intro (And.intro (And.intro (And.intro @Ev.n_l (And.intro @Ev.c_int @Ev.c_nint)) (And.intro @Ev.an_n (And.intro @Ev.orBB_k @Ev.anK_k))) (And.intro (And.intro @Ev.an_c (And.intro @Ev.bi_ls @Ev.bi_lt)) (And.intro @Ev.bi_ll (And.intro @Ev.bi_min @Ev.bi_max)))) (And.intro (And.intro (And.intro @Ev.bi_inti (And.intro @Ev.bi_intb @Ev.bi_listl)) (And.intro @Ev.bi_lists (And.intro @Ev.bi_listt @Ev.bi_abs))) (And.intro (And.intro @Ev.bi_any (And.intro @Ev.bi_all @Ev.mt_starts)) (And.intro @Ev.str_t (And.intro @Ev.isi_si @Ev.isi_ii))))) (And.intro (And.intro (And.intro (And.intro @Ev.isi_bi (And.intro @Ev.isi_tt @Ev.isj_strn)) (And.intro @Ev.isj_strb (And.intro @Ev.isj_stri @Ev.isj_strs))) (And.intro (And.intro @Ev.isj_strt (And.intro @Ev.isj_strl @Ev.isj_intn)) (And.intro @Ev.isj_intb (And.intro @Ev.isj_inti @Ev.isj_ints)))) (And.intro (And.intro (And.intro @Ev.isj_intt (And.intro @Ev.isj_intl @Ev.isj_booln)) (And.intro @Ev.isj_boolb (And.intro @Ev.isj_booli @Ev.isj_bools))) (And.intro (And.intro @Ev.isj_boolt (And.intro @Ev.isj_booll @Ev.isj_listn)) (And.intro @Ev.isj_listb (And.intro @Ev.isj_listi @Ev.isj_lists))))))) (And.intro (And.intro (And.intro (And.intro (And.intro (And.intro @Ev.isj_listt (And.intro @Ev.isj_listl @Ev.isj_tuplen)) (And.intro @Ev.isj_tupleb (And.intro @Ev.isj_tuplei @Ev.isj_tuples))) (And.intro (And.intro @Ev.isj_tuplet (And.intro @Ev.isj_tuplel @Ev.isi_ll)) (And.intro @Ev.er_i (And.intro @Ev.er_s @Ev.er_b)))) (And.intro (And.intro (And.intro @Ev.er_n (And.intro @Ev.er_t @Ev.er_l)) (And.intro @Ev.ers_n (And.intro @Ev.ers_c @Ev.ers_ii))) (And.intro (And.intro @Ev.ers_ss (And.intro @Ev.lfr_i @Ev.lfr_s)) (And.intro @Ev.lfr_b (And.intro @Ev.lfr_n @Ev.lfr_t))))) (And.intro (And.intro (And.intro (And.intro @Ev.lfr_l (And.intro @Ev.lfrs_n @Ev.lfrs_c)) (And.intro @Ev.ret_nx (And.intro @Ev.ret_rt @Ev.c_mulL))) (And.intro (And.intro @Ev.c_mulR (And.intro @Ev.c_fdiv @Ev.c_mod)) (And.intro @Ev.szOk_t (And.intro @Ev.szLt_t @Ev.rngOk_t)))) (And.intro (And.intro (And.intro @Ev.x_i (And.intro @Ev.x_ss @Ev.x_c)) (And.intro @Ev.noX_k (And.intro @Ev.fz_t @Ev.fz_n))) (And.intro (And.intro @Ev.fz_f (And.intro @Ev.frz_n @Ev.frz_c)) (And.intro @Ev.vr_c (And.intro @Ev.vr_g @Ev.vr_v)))))) (And.intro (And.intro (And.intro (And.intro (And.intro @Ev.vr_bin (And.intro @Ev.vr_tup @Ev.vr_lst)) (And.intro @Ev.vr_call (And.intro @Ev.vr_bi @Ev.vr_idx))) (And.intro (And.intro @Ev.vr_mth (And.intro @Ev.vrs_n @Ev.vrs_c)) (And.intro @Ev.nl_comp (And.intro @Ev.nl_add @Ev.nl_sl)))) (And.intro (And.intro (And.intro @Ev.nl_list (And.intro @Ev.nl_v @Ev.nl_idx)) (And.intro @Ev.k_ll (And.intro @Ev.k_tt @cond_true.{1}))) (And.intro (And.intro @cond_false.{1} (And.intro @Ev.lf_i @Ev.lf_s)) (And.intro @List.contains_cons.{0} (And.intro @List.contains_nil.{0} @Bool.or_false))))) (And.intro (And.intro (And.intro (And.intro @Bool.or_true (And.intro @Bool.true_or @Bool.false_or)) (And.intro @List.map_cons.{0, 0} (And.intro @List.map_nil.{0, 0} @List.cons_append.{0}))) (And.intro (And.intro @List.nil_append.{0} (And.intro @List.replicate_succ.{0} @List.replicate_zero.{0})) (And.intro @List.length_cons.{0} (And.intro @List.length_nil.{0} @Nat.zero_add)))) (And.intro (And.intro (And.intro @decide_true (And.intro @Bool.and_self @Bool.not_true)) (And.intro @Bool.not_false (And.intro @Bool.and_true @Bool.true_and))) (And.intro (And.intro @Bool.and_false (And.intro @Bool.false_and @beq_self_eq_true.{0})) (And.intro @if_true.{1} (And.intro @if_false.{1} @Bool.false_eq_true))))))))) := ⟨⟨⟨⟨⟨⟨⟨⟨@Ev.bnd_k, @Ev.grd_t⟩, ⟨@Ev.if_t, ⟨@Ev.if_f, @Ev.r_c⟩⟩⟩, ⟨⟨@Ev.r_g, ⟨@Ev.r_v, @Ev.binK_k⟩⟩, ⟨@Ev.r_bin, ⟨@Ev.r_neg, @Ev.negD_i⟩⟩⟩⟩, ⟨⟨⟨@Ev.blK_k, ⟨@Ev.cmpK2_k, @Ev.cmpK_k⟩⟩, ⟨@Ev.r_cmp, ⟨@Ev.chK3_k, @Ev.chK2_k⟩⟩⟩, ⟨⟨@Ev.chK_k, ⟨@Ev.r_chain, @Ev.andK2_k⟩⟩, ⟨@Ev.andK_k, ⟨@Ev.r_and, @Ev.orK2_k⟩⟩⟩⟩⟩, ⟨⟨⟨⟨@Ev.orK_k, ⟨@Ev.r_or, @Ev.notK2_k⟩⟩, ⟨@Ev.notK_k, ⟨@Ev.r_not, @Ev.iteK2_k⟩⟩⟩, ⟨⟨@Ev.iteK_k, ⟨@Ev.r_ite, @Ev.tupK_k⟩⟩, ⟨@Ev.r_tup, ⟨@Ev.lstK_k, @Ev.r_lst⟩⟩⟩⟩, ⟨⟨⟨@Ev.idxK_k, ⟨@Ev.r_idx, @Ev.slK2_k⟩⟩, ⟨@Ev.slK_k, ⟨@Ev.r_sl, @Ev.callK_k⟩⟩⟩, ⟨⟨@Ev.r_call, ⟨@Ev.r_bi, @Ev.isiK_k⟩⟩, ⟨@Ev.r_lrev, ⟨@Ev.rv_l, @Ev.r_isi⟩⟩⟩⟩⟩⟩, ⟨⟨⟨⟨⟨@Ev.mthK_k, ⟨@Ev.r_mth, @Ev.lstT_k⟩⟩, ⟨@Ev.compK_k, ⟨@Ev.r_comp, @Ev.rs_n⟩⟩⟩, ⟨⟨@Ev.consK_k, ⟨@Ev.rsK_k, @Ev.rs_c⟩⟩, ⟨@Ev.intO_i, ⟨@Ev.ro_n, @Ev.ro_s⟩⟩⟩⟩, ⟨⟨⟨@Ev.ts_n, ⟨@Ev.tsK_k, @Ev.ts_c⟩⟩, ⟨@Ev.rng1D_i, ⟨@Ev.rng2D_i, @Ev.s_r1⟩⟩⟩, ⟨⟨@Ev.r2K_k, ⟨@Ev.s_r2, @Ev.s_val⟩⟩, ⟨@Ev.it_l, ⟨@Ev.it_t, @Ev.it_s⟩⟩⟩⟩⟩, ⟨⟨⟨⟨@Ev.t_t, ⟨@Ev.o_v, @Ev.otupK_k⟩⟩, ⟨@Ev.o_tup, ⟨@Ev.olstK_k, @Ev.o_lst⟩⟩⟩, ⟨⟨@Ev.oiteK_k, ⟨@Ev.o_ite, @Ev.ocallK2_k⟩⟩, ⟨@Ev.ocallK_k, ⟨@Ev.o_call, @Ev.keepK_k⟩⟩⟩⟩, ⟨⟨⟨@Ev.o_c, ⟨@Ev.o_g, @Ev.o_bin⟩⟩, ⟨@Ev.o_neg, ⟨@Ev.o_cmp, @Ev.o_chain⟩⟩⟩, ⟨⟨@Ev.o_and, ⟨@Ev.o_or, @Ev.o_not⟩⟩, ⟨@Ev.o_idx, ⟨@Ev.o_sl, @Ev.o_bi⟩⟩⟩⟩⟩⟩⟩, ⟨⟨⟨⟨⟨⟨@Ev.o_lrev, @Ev.o_isi⟩, ⟨@Ev.o_mth, ⟨@Ev.o_comp, @Ev.os_n⟩⟩⟩, ⟨⟨@Ev.osK2_k, ⟨@Ev.osK_k, @Ev.os_c⟩⟩, ⟨@Ev.smK_k, ⟨@Ev.bdK2_k, @Ev.bdK_k⟩⟩⟩⟩, ⟨⟨⟨@Ev.body_eq, ⟨@Ev.blk_eq, @Ev.k_i⟩⟩, ⟨@Ev.k_s, ⟨@Ev.k_b, @Ev.k_n⟩⟩⟩, ⟨⟨@Ev.nxK_k, ⟨@Ev.asgK_k, @Ev.st_asg⟩⟩, ⟨@Ev.setL_t, ⟨@Ev.setxD_i, @Ev.setixK_k⟩⟩⟩⟩⟩, ⟨⟨⟨⟨@Ev.st_setix, ⟨@Ev.appK_k, @Ev.app0_t⟩⟩, ⟨@Ev.appD_t, ⟨@Ev.st_app, @Ev.expK_k⟩⟩⟩, ⟨⟨@Ev.st_exp, ⟨@Ev.rtK_k, @Ev.st_ret⟩⟩, ⟨@Ev.st_retN, ⟨@Ev.ifK_k, @Ev.st_if⟩⟩⟩⟩, ⟨⟨⟨@Ev.forK_k, ⟨@Ev.st_for, @Ev.st_while⟩⟩, ⟨@Ev.rvK_k, ⟨@Ev.st_rvs, @Ev.clK_k⟩⟩⟩, ⟨⟨@Ev.st_clr, ⟨@Ev.st_brk, @Ev.st_cnt⟩⟩, ⟨@Ev.st_pass, ⟨@Ev.ss_n, @Ev.ss_c⟩⟩⟩⟩⟩⟩, ⟨⟨⟨⟨⟨@Ev.sq_nx, ⟨@Ev.sq_ct, @Ev.sq_bk⟩⟩, ⟨@Ev.sq_rt, ⟨@Ev.srcK_k, @Ev.srcvK_k⟩⟩⟩, ⟨⟨@Ev.src_1, ⟨@Ev.src_2, @Ev.src_v⟩⟩, ⟨@Ev.for_n, ⟨@Ev.for_c, @Ev.ff_nx⟩⟩⟩⟩, ⟨⟨⟨@Ev.ff_ct, ⟨@Ev.ff_bk, @Ev.ff_rt⟩⟩, ⟨@Ev.t_nm, ⟨@Ev.t_tp, @Ev.t_tl⟩⟩⟩, ⟨⟨@Ev.ts'_n, ⟨@Ev.ts'_c, @Ev.sl_0⟩⟩, ⟨@Ev.sl_s, ⟨@Ev.set_0, @Ev.set_s⟩⟩⟩⟩⟩, ⟨⟨⟨⟨@Ev.b_add, ⟨@Ev.b_adds, @Ev.b_addl⟩⟩, ⟨@Ev.b_sub, ⟨@Ev.b_pow, @Ev.x_t⟩⟩⟩, ⟨⟨@Ev.sl_l, ⟨@Ev.sl_t, @Ev.tr_n⟩⟩, ⟨@Ev.tr_b, ⟨@Ev.tr_i, @Ev.c_eq⟩⟩⟩⟩, ⟨⟨⟨@Ev.notB_k, ⟨@Ev.c_ne, @Ev.e_ii⟩⟩, ⟨@Ev.e_ss, ⟨@Ev.e_bb, @Ev.e_nn⟩⟩⟩, ⟨⟨@Ev.e_ni, ⟨@Ev.e_in, @Ev.ej_nb⟩⟩, ⟨@Ev.ej_ni, ⟨@Ev.ej_ns, @Ev.ej_nt⟩⟩⟩⟩⟩⟩⟩⟩, ⟨⟨⟨⟨⟨⟨⟨@Ev.ej_nl, @Ev.ej_bn⟩, ⟨@Ev.ej_bs, ⟨@Ev.ej_bt, @Ev.ej_bl⟩⟩⟩, ⟨⟨@Ev.ej_in, ⟨@Ev.ej_is, @Ev.ej_it⟩⟩, ⟨@Ev.ej_il, ⟨@Ev.ej_sn, @Ev.ej_sb⟩⟩⟩⟩, ⟨⟨⟨@Ev.ej_si, ⟨@Ev.ej_st, @Ev.ej_sl⟩⟩, ⟨@Ev.ej_tn, ⟨@Ev.ej_tb, @Ev.ej_ti⟩⟩⟩, ⟨⟨@Ev.ej_ts, ⟨@Ev.ej_tl, @Ev.ej_ln⟩⟩, ⟨@Ev.ej_lb, ⟨@Ev.ej_li, @Ev.ej_ls⟩⟩⟩⟩⟩, ⟨⟨⟨⟨@Ev.ej_lt, ⟨@Ev.e_tt, @Ev.e_ll⟩⟩, ⟨@Ev.es_n, ⟨@Ev.andB_k, @Ev.esK_k⟩⟩⟩, ⟨⟨@Ev.es_c, ⟨@Ev.es_l, @Ev.es_r⟩⟩, ⟨@Ev.c_lt, ⟨@Ev.c_le, @Ev.c_gt⟩⟩⟩⟩, ⟨⟨⟨@Ev.c_ge, ⟨@Ev.c_ins, @Ev.c_nins⟩⟩, ⟨@Ev.c_inl, ⟨@Ev.c_ninl, @Ev.c_is⟩⟩⟩, ⟨⟨@Ev.c_isn, ⟨@Ev.n_n, @Ev.n_i⟩⟩, ⟨@Ev.n_s, ⟨@Ev.n_b, @Ev.n_t⟩⟩⟩⟩⟩⟩, ⟨⟨⟨⟨⟨@Ev.n_l, ⟨@Ev.c_int, @Ev.c_nint⟩⟩, ⟨@Ev.an_n, ⟨@Ev.orBB_k, @Ev.anK_k⟩⟩⟩, ⟨⟨@Ev.an_c, ⟨@Ev.bi_ls, @Ev.bi_lt⟩⟩, ⟨@Ev.bi_ll, ⟨@Ev.bi_min, @Ev.bi_max⟩⟩⟩⟩, ⟨⟨⟨@Ev.bi_inti, ⟨@Ev.bi_intb, @Ev.bi_listl⟩⟩, ⟨@Ev.bi_lists, ⟨@Ev.bi_listt, @Ev.bi_abs⟩⟩⟩, ⟨⟨@Ev.bi_any, ⟨@Ev.bi_all, @Ev.mt_starts⟩⟩, ⟨@Ev.str_t, ⟨@Ev.isi_si, @Ev.isi_ii⟩⟩⟩⟩⟩, ⟨⟨⟨⟨@Ev.isi_bi, ⟨@Ev.isi_tt, @Ev.isj_strn⟩⟩, ⟨@Ev.isj_strb, ⟨@Ev.isj_stri, @Ev.isj_strs⟩⟩⟩, ⟨⟨@Ev.isj_strt, ⟨@Ev.isj_strl, @Ev.isj_intn⟩⟩, ⟨@Ev.isj_intb, ⟨@Ev.isj_inti, @Ev.isj_ints⟩⟩⟩⟩, ⟨⟨⟨@Ev.isj_intt, ⟨@Ev.isj_intl, @Ev.isj_booln⟩⟩, ⟨@Ev.isj_boolb, ⟨@Ev.isj_booli, @Ev.isj_bools⟩⟩⟩, ⟨⟨@Ev.isj_boolt, ⟨@Ev.isj_booll, @Ev.isj_listn⟩⟩, ⟨@Ev.isj_listb, ⟨@Ev.isj_listi, @Ev.isj_lists⟩⟩⟩⟩⟩⟩⟩, ⟨⟨⟨⟨⟨⟨@Ev.isj_listt, ⟨@Ev.isj_listl, @Ev.isj_tuplen⟩⟩, ⟨@Ev.isj_tupleb, ⟨@Ev.isj_tuplei, @Ev.isj_tuples⟩⟩⟩, ⟨⟨@Ev.isj_tuplet, ⟨@Ev.isj_tuplel, @Ev.isi_ll⟩⟩, ⟨@Ev.er_i, ⟨@Ev.er_s, @Ev.er_b⟩⟩⟩⟩, ⟨⟨⟨@Ev.er_n, ⟨@Ev.er_t, @Ev.er_l⟩⟩, ⟨@Ev.ers_n, ⟨@Ev.ers_c, @Ev.ers_ii⟩⟩⟩, ⟨⟨@Ev.ers_ss, ⟨@Ev.lfr_i, @Ev.lfr_s⟩⟩, ⟨@Ev.lfr_b, ⟨@Ev.lfr_n, @Ev.lfr_t⟩⟩⟩⟩⟩, ⟨⟨⟨⟨@Ev.lfr_l, ⟨@Ev.lfrs_n, @Ev.lfrs_c⟩⟩, ⟨@Ev.ret_nx, ⟨@Ev.ret_rt, @Ev.c_mulL⟩⟩⟩, ⟨⟨@Ev.c_mulR, ⟨@Ev.c_fdiv, @Ev.c_mod⟩⟩, ⟨@Ev.szOk_t, ⟨@Ev.szLt_t, @Ev.rngOk_t⟩⟩⟩⟩, ⟨⟨⟨@Ev.x_i, ⟨@Ev.x_ss, @Ev.x_c⟩⟩, ⟨@Ev.noX_k, ⟨@Ev.fz_t, @Ev.fz_n⟩⟩⟩, ⟨⟨@Ev.fz_f, ⟨@Ev.frz_n, @Ev.frz_c⟩⟩, ⟨@Ev.vr_c, ⟨@Ev.vr_g, @Ev.vr_v⟩⟩⟩⟩⟩⟩, ⟨⟨⟨⟨⟨@Ev.vr_bin, ⟨@Ev.vr_tup, @Ev.vr_lst⟩⟩, ⟨@Ev.vr_call, ⟨@Ev.vr_bi, @Ev.vr_idx⟩⟩⟩, ⟨⟨@Ev.vr_mth, ⟨@Ev.vrs_n, @Ev.vrs_c⟩⟩, ⟨@Ev.nl_comp, ⟨@Ev.nl_add, @Ev.nl_sl⟩⟩⟩⟩, ⟨⟨⟨@Ev.nl_list, ⟨@Ev.nl_v, @Ev.nl_idx⟩⟩, ⟨@Ev.k_ll, ⟨@Ev.k_tt, @cond_true.{1}⟩⟩⟩, ⟨⟨@cond_false.{1}, ⟨@Ev.lf_i, @Ev.lf_s⟩⟩, ⟨@List.contains_cons.{0}, ⟨@List.contains_nil.{0}, @Bool.or_false⟩⟩⟩⟩⟩, ⟨⟨⟨⟨@Bool.or_true, ⟨@Bool.true_or, @Bool.false_or⟩⟩, ⟨@List.map_cons.{0, 0}, ⟨@List.map_nil.{0, 0}, @List.cons_append.{0}⟩⟩⟩, ⟨⟨@List.nil_append.{0}, ⟨@List.replicate_succ.{0}, @List.replicate_zero.{0}⟩⟩, ⟨@List.length_cons.{0}, ⟨@List.length_nil.{0}, @Nat.zero_add⟩⟩⟩⟩, ⟨⟨⟨@decide_true, ⟨@Bool.and_self, @Bool.not_true⟩⟩, ⟨@Bool.not_false, ⟨@Bool.and_true, @Bool.true_and⟩⟩⟩, ⟨⟨@Bool.and_false, ⟨@Bool.false_and, @beq_self_eq_true.{0}⟩⟩, ⟨@if_true.{1}, ⟨@if_false.{1}, @Bool.false_eq_true⟩⟩⟩⟩⟩⟩⟩⟩⟩
end L2
namespace L2
open PySem
namespace Fr
noncomputable def bCell : List IS := [(.if_ (.cmp .lt (.v 1) (.bi .len [(.v 0)])) [(.ret (.idx (.v 0) (.v 1)))] []), (.ret (.c (.int 0)))]
noncomputable def bWhole : List IS := [(.ret (.and_ (.isi (.v 0) .int) (.not_ (.isi (.v 0) .bool))))]
end Fr
end L2
namespace L2
open PySem PySem.Spec PyProof.Rows PySem.SeqAt
namespace Ab
theorem no_n {α : Type} {c : α} {P : Prop} (h : none = some c) : P := by cases h
inductive A where
 | non
 | bl (b : Option Bool)
 | cs (x : Str)
 | int (lo hi : Option Int)
 | str (lo hi m : Nat)
 | tup (us : List (List A))
 | ls (o : Bool) (us : List (List A))
 | lst (o : Bool) (u : List A) (lo hi : Nat)
 deriving Inhabited
noncomputable abbrev U := List A
noncomputable def loOk : Option Int → Int → Prop
 | none, _ => True
 | some l, i => l ≤ i
noncomputable def hiOk : Option Int → Int → Prop
 | none, _ => True
 | some h, i => i ≤ h
noncomputable def inM (m : Nat) (x : Str) : Prop := ∀ c ∈ x.cps.toList, m.testBit c = true
mutual
inductive In : D → A → Prop where
 | non : In .non .non
 | bl (b : Bool) : In (.bl b) (.bl none)
 | blc (b : Bool) : In (.bl b) (.bl (some b))
 | cs (x : Str) : In (.str x) (.cs x)
 | int {i : Int} {lo hi : Option Int} : loOk lo i → hiOk hi i → In (.int i) (.int lo hi)
 | str {x : Str} {lo hi m : Nat} : lo ≤ x.length → x.length ≤ hi → inM m x → In (.str x) (.str lo hi m)
 | tup {ds : List D} {us : List (List A)} : Ins ds us → In (.tup ds) (.tup us)
 | ls {o o' : Bool} {ds : List D} {us : List (List A)} : (o = true → o' = true) → Ins ds us → In (.lst o' ds) (.ls o us)
 | lst {o o' : Bool} {ds : List D} {u : List A} {lo hi : Nat} : (o = true → o' = true) → lo ≤ ds.length → ds.length ≤ hi → InA ds u → In (.lst o' ds) (.lst o u lo hi)
inductive InU : D → List A → Prop where
 | hd {d : D} {a : A} {u : List A} : In d a → InU d (a :: u)
 | tl {d : D} {a : A} {u : List A} : InU d u → InU d (a :: u)
inductive Ins : List D → List (List A) → Prop where
 | nil : Ins [] []
 | cons {d : D} {u : List A} {ds : List D} {us : List (List A)} : InU d u → Ins ds us → Ins (d :: ds) (u :: us)
inductive InA : List D → List A → Prop where
 | nil {u : List A} : InA [] u
 | cons {d : D} {ds : List D} {u : List A} : InU d u → InA ds u → InA (d :: ds) u
end
theorem inU_iff {d : D} : ∀ {u : U}, InU d u ↔ ∃ a ∈ u, In d a
 | [] => ⟨(fun h => nomatch h), (fun ⟨_, h, _⟩ => nomatch h)⟩
 | a :: u => by
  constructor
  ·intro h
   cases h with
   | hd h => exact ⟨a, by simp, h⟩
   | tl h => obtain ⟨b, hb, h'⟩ := inU_iff.mp h; exact ⟨b, List.mem_cons_of_mem _ hb, h'⟩
  ·rintro ⟨b, hb, h⟩
   rcases List.mem_cons.mp hb with rfl | hb
   ·exact .hd h
   ·exact .tl (inU_iff.mpr ⟨b, hb, h⟩)
theorem inU_of {d : D} {a : A} {u : U} (ha : a ∈ u) (h : In d a) : InU d u := inU_iff.mpr ⟨a, ha, h⟩
theorem inU_1 {d : D} {a : A} : InU d [a] ↔ In d a := by
 constructor
 ·intro h
  cases h with
  | hd h => exact h
  | tl h => cases h
 ·exact .hd
theorem inU_sub {d : D} {u v : U} (h : InU d u) (s : ∀ a ∈ u, a ∈ v) : InU d v := by
 obtain ⟨a, ha, h⟩ := inU_iff.mp h
 exact inU_of (s a ha) h
theorem inA_iff {u : U} : ∀ {ds : List D}, InA ds u ↔ ∀ d ∈ ds, InU d u
 | [] => ⟨(fun _ _ h => nomatch h), (fun _ => .nil)⟩
 | d :: ds => by
  constructor
  ·intro h
   cases h with
   | cons h1 h2 =>
    intro x hx
    rcases List.mem_cons.mp hx with rfl | hx
    ·exact h1
    ·exact inA_iff.mp h2 x hx
  ·intro h
   exact .cons (h d (by simp)) (inA_iff.mpr fun x hx => h x (List.mem_cons_of_mem _ hx))
theorem ins_len : ∀ {ds : List D} {us : List U}, Ins ds us → ds.length = us.length
 | _, _, .nil => rfl
 | _, _, .cons _ h => by rw [List.length_cons, List.length_cons, ins_len h]
theorem ins_get : ∀ {ds : List D} {us : List U}, Ins ds us → ∀ (i : Nat) (d : D), ds[i]? = some d → ∃ u, us[i]? = some u ∧ InU d u
 | _, _, .nil, i, d, h => by cases i <;> cases h
 | _, _, .cons h1 h2, 0, d, h => by cases h; exact ⟨_, rfl, h1⟩
 | _, _, .cons h1 h2, i + 1, d, h => ins_get h2 i d (by simpa using h)
theorem ins_app : ∀ {ds es : List D} {us vs : List U}, Ins ds us → Ins es vs → Ins (ds ++ es) (us ++ vs)
 | _, _, _, _, .nil, h => h
 | _, _, _, _, .cons h1 h2, h => .cons h1 (ins_app h2 h)
theorem ins_flat {ds : List D} {us : List U} (h : Ins ds us) : InA ds us.flatten := by
 rw [inA_iff]
 intro d hd
 obtain ⟨i, hi⟩ := List.mem_iff_getElem?.mp hd
 obtain ⟨u, hu, hin⟩ := ins_get h i d hi
 exact inU_sub hin fun a ha => List.mem_flatten.mpr ⟨u, List.mem_iff_getElem?.mpr ⟨i, hu⟩, ha⟩
noncomputable def loLe : Option Int → Option Int → Bool
 | none, _ => true
 | some _, none => false
 | some a, some b => decide (a ≤ b)
noncomputable def hiLe : Option Int → Option Int → Bool
 | _, none => true
 | none, some _ => false
 | some a, some b => decide (a ≤ b)
noncomputable def maskL : List Nat → Nat
 | [] => 0
 | c :: cs => maskL cs ||| (1 <<< c)
noncomputable def maskOf (x : Str) : Nat := maskL x.cps.toList
theorem maskL_in : ∀ {cs : List Nat} {c : Nat}, c ∈ cs → (maskL cs).testBit c = true
 | a :: cs, c, h => by
  rw [maskL, Nat.testBit_or]
  rcases List.mem_cons.mp h with rfl | h
  ·rw [Nat.testBit_shiftLeft]; simp
  ·rw [maskL_in h, Bool.true_or]
theorem maskOf_in (x : Str) : inM (maskOf x) x := fun _ h => maskL_in h
theorem mask_sub {m m' : Nat} (h : (m ||| m' == m') = true) {x : Str} (hx : inM m x) : inM m' x := fun c hc => by
 rw [← eq_of_beq h, Nat.testBit_or, hx c hc, Bool.true_or]
noncomputable def all2 (f : U → U → Bool) : List U → List U → Bool
 | [], [] => true
 | u :: us, v :: vs => f u v && all2 f us vs
 | _, _ => false
noncomputable def leBl (x : Option Bool) : A → Bool
 | .bl none => true
 | .bl y => x == y
 | _ => false
noncomputable def leCs (x : Str) : A → Bool
 | .cs y => decide (x.cps.toList = y.cps.toList)
 | .str lo hi m => decide (lo ≤ x.length) && decide (x.length ≤ hi) && (maskOf x ||| m == m)
 | _ => false
noncomputable def leI (l h : Option Int) : A → Bool
 | .int l' h' => loLe l' l && hiLe h h'
 | _ => false
noncomputable def leSt (l h m : Nat) : A → Bool
 | .str l' h' m' => decide (l' ≤ l) && decide (h ≤ h') && (m ||| m' == m')
 | _ => false
noncomputable def leTp (f : U → U → Bool) (us : List U) : A → Bool
 | .tup vs => all2 f us vs
 | _ => false
noncomputable def leLs (f : U → U → Bool) (o : Bool) (us : List U) : A → Bool
 | .ls o' vs => (!o' || o) && all2 f us vs
 | .lst o' v lo hi => (!o' || o) && decide (lo ≤ us.length) && decide (us.length ≤ hi) && us.all fun u => f u v
 | _ => false
noncomputable def leLl (f : U → U → Bool) (o : Bool) (u : U) (l h : Nat) : A → Bool
 | .lst o' v l' h' => (!o' || o) && decide (l' ≤ l) && decide (h ≤ h') && (h == 0 || f u v)
 | _ => false
noncomputable def leNo : A → Bool
 | .non => true
 | _ => false
noncomputable def leA : Nat → A → A → Bool
 | 0, _ => fun _ => false
 | _ + 1, .non => leNo
 | _ + 1, .bl x => leBl x
 | _ + 1, .cs x => leCs x
 | _ + 1, .int l h => leI l h
 | _ + 1, .str l h m => leSt l h m
 | n + 1, .tup us => leTp (fun u v => u.all fun x => v.any fun y => leA n x y) us
 | n + 1, .ls o us => leLs (fun u v => u.all fun x => v.any fun y => leA n x y) o us
 | n + 1, .lst o u l h => leLl (fun u v => u.all fun x => v.any fun y => leA n x y) o u l h
noncomputable def leU (n : Nat) (u v : U) : Bool := u.all fun x => v.any fun y => leA n x y
theorem leU_of {n : Nat} (ih : ∀ {a b : A} {d : D}, leA n a b = true → In d a → In d b) {u v : U} {d : D} (h : (u.all fun x => v.any fun y => leA n x y) = true) (hd : InU d u) : InU d v := by
 obtain ⟨a, ha, hd⟩ := inU_iff.mp hd
 have := List.all_eq_true.mp h a ha
 obtain ⟨b, hb, hab⟩ := List.any_eq_true.mp this
 exact inU_of hb (ih hab hd)
theorem all2_ins {f : U → U → Bool} (hf : ∀ {u v : U} {d : D}, f u v = true → InU d u → InU d v) : ∀ {us vs : List U} {ds : List D}, all2 f us vs = true → Ins ds us → Ins ds vs
 | [], [], _, _, h => h
 | u :: us, v :: vs, _, h, .cons h1 h2 => by
  rw [all2, Bool.and_eq_true] at h
  exact .cons (hf h.1 h1) (all2_ins hf h.2 h2)
 | [], _ :: _, _, h, _ => by cases h
 | _ :: _, [], _, h, _ => by cases h
theorem lo_le {a b : Option Int} {i : Int} (h : loLe a b = true) (hb : loOk b i) : loOk a i := by
 cases a with
 | none => trivial
 | some a =>
  cases b with
  | none => cases h
  | some b => exact Int.le_trans (of_decide_eq_true h) hb
theorem hi_le {a b : Option Int} {i : Int} (h : hiLe a b = true) (hb : hiOk a i) : hiOk b i := by
 cases b with
 | none => trivial
 | some b =>
  cases a with
  | none => cases h
  | some a => exact Int.le_trans hb (of_decide_eq_true h)
theorem str_ext {x y : Str} (h : x.cps.toList = y.cps.toList) : x = y := by
 cases x; cases y
 exact congrArg _ (Array.toList_inj.mp h)
theorem own_le {o o' p : Bool} (h : (!o' || o) = true) (hp : o = true → p = true) : o' = true → p = true := by
 intro e; subst e; exact hp (by simpa using h)
theorem nh {P : Prop} (h : false = true) : P := by cases h
theorem leA_ok : ∀ (n : Nat) {a b : A} {d : D}, leA n a b = true → In d a → In d b
 | 0, _, _, _, h, _ => nh h
 | n + 1, a, b, d, h, hd => by
  cases hd with
  | non => cases b <;> first | exact .non | exact nh h
  | bl x =>
   cases b with
   | bl y =>
    cases y with
    | none => exact .bl _
    | some y => exact nh h
   | _ => exact nh h
  | blc x =>
   cases b with
   | bl y =>
    cases y with
    | none => exact .bl _
    | some y => have h : (some x == some y) = true := h; rw [Option.some.inj (eq_of_beq h)]; exact .blc _
   | _ => exact nh h
  | cs x =>
   cases b with
   | cs y => rw [str_ext (of_decide_eq_true h)]; exact .cs _
   | str lo hi m =>
    have h : (decide (lo ≤ x.length) && decide (x.length ≤ hi) && (maskOf x ||| m == m)) = true := h
    rw [Bool.and_eq_true, Bool.and_eq_true] at h
    exact .str (of_decide_eq_true h.1.1) (of_decide_eq_true h.1.2) (mask_sub h.2 (maskOf_in _))
   | _ => exact nh h
  | int h1 h2 =>
   cases b with
   | int l' h' =>
    have h : (loLe l' _ && hiLe _ h') = true := h
    rw [Bool.and_eq_true] at h
    exact .int (lo_le h.1 h1) (hi_le h.2 h2)
   | _ => exact nh h
  | str h1 h2 h3 =>
   cases b with
   | str l' h' m' =>
    have h : (decide (l' ≤ _) && decide (_ ≤ h') && (_ ||| m' == m')) = true := h
    rw [Bool.and_eq_true, Bool.and_eq_true] at h
    exact .str (Nat.le_trans (of_decide_eq_true h.1.1) h1) (Nat.le_trans h2 (of_decide_eq_true h.1.2)) (mask_sub h.2 h3)
   | _ => exact nh h
  | tup h1 =>
   cases b with
   | tup vs => exact .tup (all2_ins (leU_of (leA_ok n)) h h1)
   | _ => exact nh h
  | ls h1 h2 =>
   cases b with
   | ls o' vs =>
    have h : ((!o' || _) && all2 _ _ vs) = true := h
    rw [Bool.and_eq_true] at h
    exact .ls (own_le h.1 h1) (all2_ins (leU_of (leA_ok n)) h.2 h2)
   | lst o' v lo hi =>
    have h : ((!o' || _) && decide (lo ≤ _) && decide (_ ≤ hi) && _) = true := h
    rw [Bool.and_eq_true, Bool.and_eq_true, Bool.and_eq_true] at h
    have hl := ins_len h2
    refine .lst (own_le h.1.1.1 h1) (by rw [hl]; exact of_decide_eq_true h.1.1.2) (by rw [hl]; exact of_decide_eq_true h.1.2) (inA_iff.mpr fun d hd => ?_)
    obtain ⟨i, hi⟩ := List.mem_iff_getElem?.mp hd
    obtain ⟨u, hu, hin⟩ := ins_get h2 i d hi
    exact leU_of (leA_ok n) (List.all_eq_true.mp h.2 u (List.mem_iff_getElem?.mpr ⟨i, hu⟩)) hin
   | _ => exact nh h
  | lst h1 h2 h3 h4 =>
   cases b with
   | lst o' v l' h' =>
    have h : ((!o' || _) && decide (l' ≤ _) && decide (_ ≤ h') && (_ == 0 || _)) = true := h
    rw [Bool.and_eq_true, Bool.and_eq_true, Bool.and_eq_true] at h
    have h02 := Bool.or_eq_true_iff.mp h.2
    refine .lst (own_le h.1.1.1 h1) (Nat.le_trans (of_decide_eq_true h.1.1.2) h2) (Nat.le_trans h3 (of_decide_eq_true h.1.2)) (inA_iff.mpr fun d hd => ?_)
    rcases h02 with h0 | h0
    ·rw [eq_of_beq h0] at h3
     rw [List.eq_nil_of_length_eq_zero (Nat.le_zero.mp h3)] at hd
     cases hd
    ·exact leU_of (leA_ok n) h0 (inA_iff.mp h4 d hd)
   | _ => exact nh h
theorem leU_ok {n : Nat} {u v : U} {d : D} (h : leU n u v = true) (hd : InU d u) : InU d v := leU_of (leA_ok n) h hd
mutual
noncomputable def era : A → A
 | .non => .non
 | .bl b => .bl b
 | .cs x => .cs x
 | .int l h => .int l h
 | .str l h m => .str l h m
 | .tup us => .tup (eraUs us)
 | .ls _ us => .ls false (eraUs us)
 | .lst _ u l h => .lst false (eraU u) l h
noncomputable def eraU : List A → List A
 | [] => []
 | a :: u => era a :: eraU u
noncomputable def eraUs : List (List A) → List (List A)
 | [] => []
 | u :: us => eraU u :: eraUs us
end
theorem nofalse {o : Bool} : (false = true → o = true) := fun h => by cases h
mutual
theorem er_in : ∀ {d : D} {a : A}, In d a → In (er d) (era a)
 | _, _, .non => by rw [er, era]; exact .non
 | _, _, .bl b => by rw [er, era]; exact .bl b
 | _, _, .blc b => by rw [er, era]; exact .blc b
 | _, _, .cs x => by rw [er, era]; exact .cs x
 | _, _, .int h1 h2 => by rw [er, era]; exact .int h1 h2
 | _, _, .str h1 h2 h3 => by rw [er, era]; exact .str h1 h2 h3
 | _, _, .tup h => by rw [er, era]; exact .tup (er_ins h)
 | _, _, .ls h1 h => by rw [er, era]; exact .ls nofalse (er_ins h)
 | _, _, .lst h1 h2 h3 h => by rw [er, era]; exact .lst nofalse (by rw [ers_length]; exact h2) (by rw [ers_length]; exact h3) (er_inA h)
theorem er_inU : ∀ {d : D} {u : List A}, InU d u → InU (er d) (eraU u)
 | _, _, .hd h => by rw [eraU]; exact .hd (er_in h)
 | _, _, .tl h => by rw [eraU]; exact .tl (er_inU h)
theorem er_ins : ∀ {ds : List D} {us : List (List A)}, Ins ds us → Ins (ers ds) (eraUs us)
 | _, _, .nil => by rw [ers, eraUs]; exact .nil
 | _, _, .cons h1 h2 => by rw [ers, eraUs]; exact .cons (er_inU h1) (er_ins h2)
theorem er_inA : ∀ {ds : List D} {u : List A}, InA ds u → InA (ers ds) (eraU u)
 | _, _, .nil => by rw [ers]; exact .nil
 | _, _, .cons h1 h2 => by rw [ers]; exact .cons (er_inU h1) (er_inA h2)
end
mutual
theorem in_er : ∀ {d : D} {a : A}, In d a → In d (era a)
 | _, _, .non => by rw [era]; exact .non
 | _, _, .bl b => by rw [era]; exact .bl b
 | _, _, .blc b => by rw [era]; exact .blc b
 | _, _, .cs x => by rw [era]; exact .cs x
 | _, _, .int h1 h2 => by rw [era]; exact .int h1 h2
 | _, _, .str h1 h2 h3 => by rw [era]; exact .str h1 h2 h3
 | _, _, .tup h => by rw [era]; exact .tup (in_ers h)
 | _, _, .ls h1 h => by rw [era]; exact .ls nofalse (in_ers h)
 | _, _, .lst h1 h2 h3 h => by rw [era]; exact .lst nofalse h2 h3 (in_erA h)
theorem in_erU : ∀ {d : D} {u : List A}, InU d u → InU d (eraU u)
 | _, _, .hd h => by rw [eraU]; exact .hd (in_er h)
 | _, _, .tl h => by rw [eraU]; exact .tl (in_erU h)
theorem in_ers : ∀ {ds : List D} {us : List (List A)}, Ins ds us → Ins ds (eraUs us)
 | _, _, .nil => by rw [eraUs]; exact .nil
 | _, _, .cons h1 h2 => by rw [eraUs]; exact .cons (in_erU h1) (in_ers h2)
theorem in_erA : ∀ {ds : List D} {u : List A}, InA ds u → InA ds (eraU u)
 | _, _, .nil => .nil
 | _, _, .cons h1 h2 => .cons (in_erU h1) (in_erA h2)
end
mutual
noncomputable def lfA : A → Bool
 | .non => true
 | .bl _ => true
 | .cs _ => true
 | .int _ _ => true
 | .str _ _ _ => true
 | .tup us => lfUs us
 | .ls _ _ => false
 | .lst _ _ _ _ => false
noncomputable def lfU : List A → Bool
 | [] => true
 | a :: u => lfA a && lfU u
noncomputable def lfUs : List (List A) → Bool
 | [] => true
 | u :: us => lfU u && lfUs us
end
mutual
theorem lf_in : ∀ {d : D} {a : A}, In d a → lfA a = true → lfree d = true
 | _, _, .non, _ => rfl
 | _, _, .bl b, _ => rfl
 | _, _, .blc b, _ => rfl
 | _, _, .cs x, _ => rfl
 | _, _, .int h1 h2, _ => rfl
 | _, _, .str h1 h2 h3, _ => rfl
 | _, _, .tup h, e => by rw [lfA] at e; rw [lfree]; exact lf_ins h e
 | _, _, .ls h1 h, e => by rw [lfA] at e; cases e
 | _, _, .lst h1 h2 h3 h, e => by rw [lfA] at e; cases e
theorem lf_inU : ∀ {d : D} {u : List A}, InU d u → lfU u = true → lfree d = true
 | _, _, .hd h, e => by rw [lfU, Bool.and_eq_true] at e; exact lf_in h e.1
 | _, _, .tl h, e => by rw [lfU, Bool.and_eq_true] at e; exact lf_inU h e.2
theorem lf_ins : ∀ {ds : List D} {us : List (List A)}, Ins ds us → lfUs us = true → lfrees ds = true
 | _, _, .nil, _ => rfl
 | _, _, .cons h1 h2, e => by rw [lfUs, Bool.and_eq_true] at e; rw [lfrees, lf_inU h1 e.1, lf_ins h2 e.2]; rfl
end
theorem lf_inA {u : U} (e : lfU u = true) : ∀ {ds : List D}, InA ds u → lfrees ds = true
 | _, .nil => rfl
 | _, .cons h1 h2 => by rw [lfrees, lf_inU h1 e, lf_inA e h2]; rfl
noncomputable abbrev AE := List (Option A)
noncomputable def slOk (o : Option D) (b : Option A) : Prop := ∀ a, b = some a → ∃ d, o = some d ∧ In d a
inductive Gam : Ev → AE → Prop where
 | nil : Gam [] []
 | cons {o : Option D} {b : Option A} {τ : Ev} {E : AE} : slOk o b → Gam τ E → Gam (o :: τ) (b :: E)
noncomputable def slotA (E : AE) (i : Nat) : Option A := (E[i]?).join
theorem Gam.get : ∀ {τ : Ev} {E : AE}, Gam τ E → ∀ {i : Nat} {a : A}, slotA E i = some a → ∃ d, slotD τ i = some d ∧ In d a
 | _, _, .nil, i, a, h => by cases i <;> cases h
 | _, _, .cons h1 h2, 0, a, h => by
  unfold slotA at h
  rw [List.getElem?_cons_zero] at h
  obtain ⟨d, rfl, hd⟩ := h1 a h
  exact ⟨d, by unfold slotD; simp, hd⟩
 | _, _, .cons h1 h2, i + 1, a, h => by
  unfold slotA at h
  rw [List.getElem?_cons_succ] at h
  obtain ⟨d, hd, hi⟩ := Gam.get h2 (i := i) (a := a) h
  exact ⟨d, by rw [slotD_cons]; exact hd, hi⟩
theorem slOk_n {o : Option D} : slOk o none := fun _ h => by cases h
theorem slOk_s {d : D} {a : A} (h : In d a) : slOk (some d) (some a) := fun _ e => by cases e; exact ⟨d, rfl, h⟩
theorem Gam.set : ∀ {τ : Ev} {E : AE}, Gam τ E → ∀ (i : Nat) {o : Option D} {b : Option A}, slOk o b → Gam (τ.set i o) (E.set i b)
 | _, _, .nil, i, _, _, _ => by cases i <;> exact .nil
 | _, _, .cons h1 h2, 0, _, _, h => .cons h h2
 | _, _, .cons h1 h2, i + 1, _, _, h => .cons h1 (Gam.set h2 i h)
theorem Gam.setA : ∀ {τ : Ev} {E : AE}, Gam τ E → ∀ (i : Nat) {b : Option A}, (∀ a, b = some a → ∃ d, slotD τ i = some d ∧ In d a) → Gam τ (E.set i b)
 | _, _, .nil, i, _, _ => by cases i <;> exact .nil
 | _, _, .cons (o := o) h1 h2, 0, b, h => .cons (fun a ha => by obtain ⟨d, hd, hi⟩ := h a ha; exact ⟨d, by unfold slotD at hd; simpa using hd, hi⟩) h2
 | _, _, .cons h1 h2, i + 1, b, h => .cons h1 (Gam.setA h2 i fun a ha => by obtain ⟨d, hd, hi⟩ := h a ha; exact ⟨d, by rw [slotD_cons] at hd; exact hd, hi⟩)
theorem Gam.app : ∀ {τ τ' : Ev} {E E' : AE}, Gam τ E → Gam τ' E' → Gam (τ ++ τ') (E ++ E')
 | _, _, _, _, .nil, h => h
 | _, _, _, _, .cons h1 h2, h => .cons h1 (Gam.app h2 h)
theorem Gam.non : ∀ n : Nat, Gam (List.replicate n none) (List.replicate n none)
 | 0 => .nil
 | n + 1 => .cons slOk_n (Gam.non n)
noncomputable def frzE (is : List Nat) : Nat → AE → AE
 | _, [] => []
 | k, b :: E => (if is.contains k then b.map era else b) :: frzE is (k + 1) E
theorem Gam.frz {is : List Nat} : ∀ {τ : Ev} {E : AE} (k : Nat), Gam τ E → Gam (frzA is k τ) (frzE is k E)
 | _, _, k, .nil => .nil
 | _, _, k, .cons h1 h2 => by
  rw [frzA, frzE]
  refine .cons ?_ (Gam.frz (k + 1) h2)
  cases is.contains k with
  | false => exact h1
  | true =>
   rw [if_pos rfl, if_pos rfl]
   intro a ha
   obtain ⟨b, hb, rfl⟩ := Option.map_eq_some_iff.mp ha
   obtain ⟨d, rfl, hd⟩ := h1 b hb
   exact ⟨er d, rfl, er_in hd⟩
theorem Gam.frzN {is : List Nat} : ∀ {τ : Ev} {E : AE} (k : Nat), Gam τ E → Gam τ (frzE is k E)
 | _, _, k, .nil => .nil
 | _, _, k, .cons h1 h2 => by
  rw [frzE]
  refine .cons ?_ (Gam.frzN (k + 1) h2)
  cases is.contains k with
  | false => exact h1
  | true =>
   rw [if_pos rfl]
   intro a ha
   obtain ⟨b, hb, rfl⟩ := Option.map_eq_some_iff.mp ha
   obtain ⟨d, rfl, hd⟩ := h1 b hb
   exact ⟨d, rfl, in_er hd⟩
noncomputable def fuel : Nat := 24
noncomputable def leO : Option A → Option A → Bool
 | _, none => true
 | some a, some b => leA fuel a b
 | none, some _ => false
noncomputable def leE : AE → AE → Bool
 | [], [] => true
 | a :: E, b :: F => leO a b && leE E F
 | _, _ => false
theorem leE_ok : ∀ {E F : AE} {τ : Ev}, leE E F = true → Gam τ E → Gam τ F
 | [], [], _, _, h => h
 | a :: E, b :: F, _, h, .cons h1 h2 => by
  rw [leE, Bool.and_eq_true] at h
  refine .cons ?_ (leE_ok h.2 h2)
  cases b with
  | none => exact slOk_n
  | some b =>
   cases a with
   | none => cases h.1
   | some a =>
    obtain ⟨d, rfl, hd⟩ := h1 a rfl
    exact slOk_s (leA_ok fuel h.1 hd)
 | [], _ :: _, _, h, _ => by cases h
 | _ :: _, [], _, h, _ => by cases h
noncomputable def mLo : Option Int → Option Int → Option Int
 | some a, some b => some (min a b)
 | _, _ => none
noncomputable def mHi : Option Int → Option Int → Option Int
 | some a, some b => some (max a b)
 | _, _ => none
noncomputable def insU (f : A → A → Option A) (a : A) : U → U
 | [] => [a]
 | b :: u => match f a b with
  | some c => c :: u
  | none => b :: insU f a u
noncomputable def norU (f : A → A → Option A) : U → U
 | [] => []
 | a :: u => insU f a (norU f u)
noncomputable def z2 (f : U → U → Option U) : List U → List U → Option (List U)
 | [], [] => some []
 | u :: us, v :: vs => match f u v, z2 f us vs with
  | some w, some ws => some (w :: ws)
  | _, _ => none
 | _, _ => none
noncomputable def jA : Nat → A → A → Option A
 | 0, _, _ => none
 | n + 1, a, b => match a, b with
  | .non, .non => some .non
  | .bl x, .bl y => some (.bl (if x = y then x else none))
  | .cs x, .cs y => if x.cps.toList = y.cps.toList then some (.cs x) else none
  | .int l h, .int l' h' => some (.int (mLo l l') (mHi h h'))
  | .str l h m, .str l' h' m' => some (.str (min l l') (max h h') (m ||| m'))
  | .tup us, .tup vs => (z2 (fun u v => match u, v with | [x], [y] => (jA n x y).map (fun z => [z]) | u, v => if (norU (jA n) (u ++ v)).length ≤ max u.length v.length then some (norU (jA n) (u ++ v)) else none) us vs).map .tup
  | .ls o us, .ls o' vs => match z2 (fun u v => some (norU (jA n) (u ++ v))) us vs with
   | some ws => some (.ls (o && o') ws)
   | none => some (.lst (o && o') (norU (jA n) (us.flatten ++ vs.flatten)) (min us.length vs.length) (max us.length vs.length))
  | .ls o us, .lst o' v l h => some (.lst (o && o') (norU (jA n) (us.flatten ++ v)) (min us.length l) (max us.length h))
  | .lst o' v l h, .ls o us => some (.lst (o && o') (norU (jA n) (us.flatten ++ v)) (min us.length l) (max us.length h))
  | .lst o u l h, .lst o' v l' h' => some (.lst (o && o') (norU (jA n) (u ++ v)) (min l l') (max h h'))
  | _, _ => none
noncomputable def nor (u : U) : U := let v := norU (jA fuel) u; if leU fuel u v then v else u
theorem nor_ok {d : D} {u : U} (h : InU d u) : InU d (nor u) := by
 unfold nor
 dsimp only
 split
 ·exact leU_ok ‹_› h
 ·exact h
noncomputable def jO : Option A → Option A → Option (Option A)
 | none, _ => some none
 | _, none => some none
 | some a, some b => (jA fuel a b).map some
noncomputable def jE : AE → AE → Option AE
 | [], [] => some []
 | a :: E, b :: F => match jO a b, jE E F with
  | some c, some G => some (c :: G)
  | _, _ => none
 | _, _ => none
noncomputable def insE (E : AE) : List AE → List AE
 | [] => [E]
 | F :: r => match jE E F with
  | some G => G :: r
  | none => F :: insE E r
noncomputable def norE (es : List AE) : List AE := let v := es.foldr insE []; if es.all (fun E => v.any (leE E)) then v else es
theorem norE_ok {τ : Ev} {es : List AE} (h : ∃ E ∈ es, Gam τ E) : ∃ E ∈ norE es, Gam τ E := by
 unfold norE
 dsimp only
 split
 ·rename_i hh
  obtain ⟨E, hE, hg⟩ := h
  obtain ⟨F, hF, hl⟩ := List.any_eq_true.mp (List.all_eq_true.mp hh E hE)
  exact ⟨F, hF, leE_ok hl hg⟩
 ·exact h
end Ab
end L2
namespace L2
open PySem PySem.Spec PyProof.Rows PySem.SeqAt
namespace Ab
noncomputable def Wp {α : Type} (r : Res α) (P : α → Prop) : Prop := ∃ a, r = .ok a ∧ P a
theorem Wp.ok {α : Type} {a : α} {P : α → Prop} (h : P a) : Wp (.ok a) P := ⟨a, rfl, h⟩
theorem Wp.bnd {α β : Type} {x : Res α} {f : α → Res β} {P : β → Prop} {Q : α → Prop} (h : Wp x Q) (k : ∀ a, Q a → Wp (f a) P) : Wp (L2.bnd x f) P := by
 obtain ⟨a, rfl, ha⟩ := h
 exact k a ha
theorem Wp.mono {α : Type} {x : Res α} {P Q : α → Prop} (h : Wp x P) (k : ∀ a, P a → Q a) : Wp x Q := by
 obtain ⟨a, e, ha⟩ := h
 exact ⟨a, e, k a ha⟩
noncomputable def toS : A → Option (Nat × Nat × Nat)
 | .cs x => some (x.length, x.length, maskOf x)
 | .str l h m => some (l, h, m)
 | _ => none
theorem toS_ok {d : D} {a : A} {p : Nat × Nat × Nat} (h : toS a = some p) (hd : In d a) : ∃ x, d = .str x ∧ p.1 ≤ x.length ∧ x.length ≤ p.2.1 ∧ inM p.2.2 x := by
 cases hd <;> cases h
 ·exact ⟨_, rfl, Nat.le_refl _, Nat.le_refl _, maskOf_in _⟩
 ·exact ⟨_, rfl, by assumption, by assumption, by assumption⟩
noncomputable def toL : A → Option (U × Nat × Nat)
 | .ls _ us => some (us.flatten, us.length, us.length)
 | .lst _ u l h => some (u, l, h)
 | _ => none
theorem toL_ok {d : D} {a : A} {p : U × Nat × Nat} (h : toL a = some p) (hd : In d a) : ∃ o ds, d = .lst o ds ∧ p.2.1 ≤ ds.length ∧ ds.length ≤ p.2.2 ∧ InA ds p.1 := by
 cases hd <;> cases h
 ·rename_i h2
  have := ins_len h2
  exact ⟨_, _, rfl, Nat.le_of_eq this.symm, Nat.le_of_eq this, ins_flat h2⟩
 ·exact ⟨_, _, rfl, by assumption, by assumption, by assumption⟩
theorem in_app {x y : Str} {m m' : Nat} (h : inM m x) (h' : inM m' y) : inM (m ||| m') (x ++ y) := by
 intro c hc
 have : c ∈ x.cps.toList ++ y.cps.toList := by
  have e : (x ++ y).cps = x.cps ++ y.cps := rfl
  rw [e, Array.toList_append] at hc
  exact hc
 rw [Nat.testBit_or]
 rcases List.mem_append.mp this with hc | hc
 ·rw [h c hc, Bool.true_or]
 ·rw [h' c hc, Bool.or_true]
theorem len_app (x y : Str) : (x ++ y).length = x.length + y.length := by
 show (x.cps ++ y.cps).size = x.cps.size + y.cps.size
 exact Array.size_append
noncomputable def oAdd : Option Int → Option Int → Option Int
 | some a, some b => some (a + b)
 | _, _ => none
noncomputable def oSub : Option Int → Option Int → Option Int
 | some a, some b => some (a - b)
 | _, _ => none
theorem lo_add {a b : Option Int} {i j : Int} (h : loOk a i) (h' : loOk b j) : loOk (oAdd a b) (i + j) := by
 cases a <;> cases b <;> first | trivial | exact Int.add_le_add h h'
theorem hi_add {a b : Option Int} {i j : Int} (h : hiOk a i) (h' : hiOk b j) : hiOk (oAdd a b) (i + j) := by
 cases a <;> cases b <;> first | trivial | exact Int.add_le_add h h'
theorem lo_sub {a b : Option Int} {i j : Int} (h : loOk a i) (h' : hiOk b j) : loOk (oSub a b) (i - j) := by
 cases a <;> cases b <;> first | trivial | exact Int.sub_le_sub h h'
theorem hi_sub {a b : Option Int} {i j : Int} (h : hiOk a i) (h' : loOk b j) : hiOk (oSub a b) (i - j) := by
 cases a <;> cases b <;> first | trivial | exact Int.sub_le_sub h h'
noncomputable def aMul : Option Int → Option Int → Option Int → Option Int → Option A
 | some l, some h, some l', some h' =>
  if -18446744073709551616 < l ∧ h < 18446744073709551616 then
   if 0 ≤ l ∧ 0 ≤ l' then some (.int (some (l * l')) (some (h * h')))
   else some (.int (some (-(((max l.natAbs h.natAbs) * (max l'.natAbs h'.natAbs) : Nat) : Int))) (some (((max l.natAbs h.natAbs) * (max l'.natAbs h'.natAbs) : Nat) : Int)))
  else none
 | some l, some h, _, _ => if -18446744073709551616 < l ∧ h < 18446744073709551616 then some (.int none none) else none
 | _, _, some l, some h => if -18446744073709551616 < l ∧ h < 18446744073709551616 then some (.int none none) else none
 | _, _, _, _ => none
noncomputable def aFd : Option Int → Option Int → Option Int → Option Int → Option A
 | l, h, some l', some h' => if 0 < l' ∧ h' < 1073741824 then
   if l' = h' then some (.int (l.map (· / l')) (h.map (· / l')))
   else some (.int (match l with | some l => if 0 ≤ l then some 0 else none | none => none) none)
  else none
 | _, _, _, _ => none
noncomputable def aMod : Option Int → Option Int → Option A
 | some l', h' => if 0 < l' then some (.int (some 0) (h'.map (· - 1))) else none
 | _, _ => none
noncomputable def cst? : A → Option D
 | .int (some l) (some h) => if l = h then some (.int l) else none
 | .cs x => some (.str x)
 | .bl (some b) => some (.bl b)
 | .non => some .non
 | _ => none
theorem cst_ok {a : A} {c d : D} (h : cst? a = some c) (hd : In d a) : d = c := by
 cases hd with
 | non => cases h; rfl
 | bl b => cases h
 | blc b => cases h; rfl
 | cs x => cases h; rfl
 | @int i lo hi h1 h2 =>
  cases lo with
  | none => cases h
  | some l =>
   cases hi with
   | none => cases h
   | some k =>
    have h' : (if l = k then some (D.int l) else none) = some c := h
    split at h'
    ·cases h'
     rename_i e
     subst e
     have : l ≤ i := h1
     have : i ≤ l := h2
     rw [show i = l by omega]
    ·cases h'
 | str => cases h
 | tup => cases h
 | ls => cases h
 | lst => cases h
noncomputable def ofD : D → Option A
 | .int i => some (.int (some i) (some i))
 | .str x => some (.cs x)
 | .bl b => some (.bl (some b))
 | .non => some .non
 | _ => none
theorem ofD_ok {d : D} {a : A} (h : ofD d = some a) : In d a := by
 cases d <;> cases h
 ·exact .non
 ·exact .blc _
 ·exact .int (Int.le_refl _) (Int.le_refl _)
 ·exact .cs _
noncomputable def aBc (op : BOp) (a b : A) : Option A := match cst? a, cst? b with
 | some x, some y => match opB op x y with
  | .ok d => ofD d
  | _ => none
 | _, _ => none
noncomputable def ii (f : Option Int → Option Int → Option Int → Option Int → Option A) : A → A → Option A
 | .int l h, .int l' h' => f l h l' h'
 | _, _ => none
noncomputable def orA : Option A → Option A → Option A
 | some p, _ => some p
 | none, x => x
theorem orA_ok {o x : Option A} {p : A} (h : orA o x = some p) : o = some p ∨ x = some p := by
 cases o with
 | some q => exact .inl h
 | none => exact .inr h
theorem ii_ok {f : Option Int → Option Int → Option Int → Option Int → Option A} {a b c : A} {x y : D} (e : ii f a b = some c) (hx : In x a) (hy : In y b) : ∃ i j l h l' h', x = .int i ∧ y = .int j ∧ loOk l i ∧ hiOk h i ∧ loOk l' j ∧ hiOk h' j ∧ f l h l' h' = some c := by
 cases hx with
 | int h1 h2 =>
  cases hy with
  | int h3 h4 => exact ⟨_, _, _, _, _, _, rfl, rfl, h1, h2, h3, h4, e⟩
  | _ => exact no_n e
 | _ => exact no_n e
noncomputable def catLs : A → A → Option A
 | .ls _ us, .ls _ vs => if us.length + vs.length ≤ 16777216 then some (.ls true (us ++ vs)) else none
 | _, _ => none
noncomputable def catS (a b : A) : Option A := (toS a).bind fun p => (toS b).bind fun q => if p.2.1 + q.2.1 ≤ 16777216 then some (.str (p.1 + q.1) (p.2.1 + q.2.1) (p.2.2 ||| q.2.2)) else none
noncomputable def catL (a b : A) : Option A := (toL a).bind fun p => (toL b).bind fun q => if p.2.2 + q.2.2 ≤ 16777216 then some (.lst true (nor (p.1 ++ q.1)) (p.2.1 + q.2.1) (p.2.2 + q.2.2)) else none
noncomputable def aB : BOp → A → A → Option A
 | .add => fun a b => orA (ii (fun l h l' h' => some (.int (oAdd l l') (oAdd h h'))) a b) (orA (catLs a b) (orA (catS a b) (catL a b)))
 | .sub => ii fun l h l' h' => some (.int (oSub l h') (oSub h l'))
 | .mul => ii aMul
 | .fdiv => ii aFd
 | .mod => ii fun _ _ l' h' => aMod l' h'
 | .pow => aBc .pow
theorem mul_abs {l h i : Int} (h1 : l ≤ i) (h2 : i ≤ h) : i.natAbs ≤ max l.natAbs h.natAbs := by omega
theorem aMul_ok {l h l' h' : Option Int} {c : A} {i j : Int} (e : aMul l h l' h' = some c) (h1 : loOk l i) (h2 : hiOk h i) (h3 : loOk l' j) (h4 : hiOk h' j) : Wp (opB .mul (.int i) (.int j)) fun d => In d c := by
 unfold aMul at e
 split at e
 ·rename_i l h l' h'
  split at e
  ·rename_i hb
   have a1 : l ≤ i := h1
   have a2 : i ≤ h := h2
   have a3 : l' ≤ j := h3
   have a4 : j ≤ h' := h4
   split at e
   ·rename_i hn
    cases e
    refine ⟨_, Ev.c_mulL (by omega) (by omega), .int ?_ ?_⟩
    ·exact Int.mul_le_mul a1 a3 hn.2 (by omega)
    ·exact Int.mul_le_mul a2 a4 (by omega) (by omega)
   ·first | exact no_n e | cases e
    have m1 := mul_abs a1 a2
    have m2 := mul_abs a3 a4
    have m3 : (i * j).natAbs ≤ max l.natAbs h.natAbs * max l'.natAbs h'.natAbs := by
     rw [Int.natAbs_mul]
     exact Nat.mul_le_mul m1 m2
    generalize max l.natAbs h.natAbs * max l'.natAbs h'.natAbs = M at *
    refine ⟨_, Ev.c_mulL (by omega) (by omega), .int ?_ ?_⟩
    ·show -((M : Nat) : Int) ≤ i * j
     omega
    ·show i * j ≤ ((M : Nat) : Int)
     omega
  ·first | exact no_n e | cases e
 ·split at e
  ·rename_i hb
   cases e
   have a1 : _ ≤ i := h1
   have a2 : i ≤ _ := h2
   exact ⟨_, Ev.c_mulL (by omega) (by omega), .int trivial trivial⟩
  ·first | exact no_n e | cases e
 ·split at e
  ·rename_i hb
   cases e
   have a1 : _ ≤ j := h3
   have a2 : j ≤ _ := h4
   exact ⟨_, Ev.c_mulR (by omega) (by omega), .int trivial trivial⟩
  ·first | exact no_n e | cases e
 ·first | exact no_n e | cases e
theorem aFd_ok {l h l' h' : Option Int} {c : A} {i j : Int} (e : aFd l h l' h' = some c) (h1 : loOk l i) (h2 : hiOk h i) (h3 : loOk l' j) (h4 : hiOk h' j) : Wp (opB .fdiv (.int i) (.int j)) fun d => In d c := by
 unfold aFd at e
 split at e
 ·rename_i l' h'
  have a3 : l' ≤ j := h3
  have a4 : j ≤ h' := h4
  split at e
  ·rename_i hb
   have hj : 0 < j := by omega
   split at e
   ·rename_i hl
    have : j = l' := by omega
    subst this
    cases e
    refine ⟨_, Ev.c_fdiv hj (by omega), .int ?_ ?_⟩
    ·cases l with
     | none => trivial
     | some l => exact Int.ediv_le_ediv hj h1
    ·cases h with
     | none => trivial
     | some h => exact Int.ediv_le_ediv hj h2
   ·first | exact no_n e | cases e
    refine ⟨_, Ev.c_fdiv hj (by omega), .int ?_ trivial⟩
    cases l with
    | none => trivial
    | some l =>
     dsimp only
     split
     ·rename_i h0
      exact Int.ediv_nonneg (Int.le_trans h0 h1) (by omega)
     ·trivial
  ·first | exact no_n e | cases e
 ·first | exact no_n e | cases e
theorem aMod_ok {l' h' : Option Int} {c : A} {i j : Int} (e : aMod l' h' = some c) (h3 : loOk l' j) (h4 : hiOk h' j) : Wp (opB .mod (.int i) (.int j)) fun d => In d c := by
 unfold aMod at e
 split at e
 ·rename_i l'
  have a3 : l' ≤ j := h3
  split at e
  ·rename_i hb
   cases e
   have hj : 0 < j := by omega
   refine ⟨_, Ev.c_mod hj, .int (Int.emod_nonneg _ (by omega)) ?_⟩
   have := Int.emod_lt_of_pos i hj
   cases h' with
   | none => trivial
   | some h =>
    have a4 : j ≤ h := h4
    show i % j ≤ h - 1
    omega
  ·first | exact no_n e | cases e
 ·first | exact no_n e | cases e
theorem aBc_ok {op : BOp} {a b c : A} {x y : D} (e : aBc op a b = some c) (hx : In x a) (hy : In y b) : Wp (opB op x y) fun d => In d c := by
 unfold aBc at e
 split at e
 ·rename_i x' y' h1 h2
  have := cst_ok h1 hx
  have := cst_ok h2 hy
  subst x' y'
  split at e
  ·rename_i d hd
   exact ⟨d, hd, ofD_ok e⟩
  ·first | exact no_n e | cases e
 ·first | exact no_n e | cases e
theorem aB_ok {op : BOp} {a b c : A} {x y : D} (e : aB op a b = some c) (hx : In x a) (hy : In y b) : Wp (opB op x y) fun d => In d c := by
 cases op with
 | sub =>
  obtain ⟨i, j, l, h, l', h', rfl, rfl, h1, h2, h3, h4, e⟩ := ii_ok e hx hy
  cases e
  exact .ok (.int (lo_sub h1 h4) (hi_sub h2 h3))
 | mul =>
  obtain ⟨i, j, l, h, l', h', rfl, rfl, h1, h2, h3, h4, e⟩ := ii_ok e hx hy
  exact aMul_ok e h1 h2 h3 h4
 | fdiv =>
  obtain ⟨i, j, l, h, l', h', rfl, rfl, h1, h2, h3, h4, e⟩ := ii_ok e hx hy
  exact aFd_ok e h1 h2 h3 h4
 | mod =>
  obtain ⟨i, j, l, h, l', h', rfl, rfl, h1, h2, h3, h4, e⟩ := ii_ok e hx hy
  exact aMod_ok e h3 h4
 | pow => exact aBc_ok e hx hy
 | add =>
  rcases orA_ok e with e | e
  ·obtain ⟨i, j, l, h, l', h', rfl, rfl, h1, h2, h3, h4, e⟩ := ii_ok e hx hy
   cases e
   exact .ok (.int (lo_add h1 h3) (hi_add h2 h4))
  ·rcases orA_ok e with e | e
   ·cases hx with
    | @ls _ _ _ us _ h1 =>
     cases hy with
     | @ls _ _ _ vs _ h2 =>
      have e : (if us.length + vs.length ≤ 16777216 then some (A.ls true (us ++ vs)) else none) = some c := e
      split at e
      ·cases e
       exact ⟨_, by rw [Ev.b_addl, Ev.szOk_t (by rw [ins_len h1, ins_len h2]; assumption)]; rfl, .ls (fun _ => rfl) (ins_app h1 h2)⟩
      ·exact no_n e
     | _ => exact no_n e
    | _ => exact no_n e
   ·rcases orA_ok e with e | e
    ·obtain ⟨p, h1, e⟩ := Option.bind_eq_some_iff.mp e
     obtain ⟨q, h2, e⟩ := Option.bind_eq_some_iff.mp e
     obtain ⟨x, rfl, a1, a2, a3⟩ := toS_ok h1 hx
     obtain ⟨y, rfl, b1, b2, b3⟩ := toS_ok h2 hy
     split at e
     ·cases e
      exact ⟨_, by rw [Ev.b_adds, Ev.szOk_t (Nat.le_trans (Nat.add_le_add a2 b2) ‹_›)]; rfl, .str (by rw [len_app]; exact Nat.add_le_add a1 b1) (by rw [len_app]; exact Nat.add_le_add a2 b2) (in_app a3 b3)⟩
     ·exact no_n e
    ·obtain ⟨p, h1, e⟩ := Option.bind_eq_some_iff.mp e
     obtain ⟨q, h2, e⟩ := Option.bind_eq_some_iff.mp e
     obtain ⟨o, ds, rfl, a1, a2, a3⟩ := toL_ok h1 hx
     obtain ⟨o', es, rfl, b1, b2, b3⟩ := toL_ok h2 hy
     split at e
     ·cases e
      refine ⟨_, by rw [Ev.b_addl, Ev.szOk_t (Nat.le_trans (Nat.add_le_add a2 b2) ‹_›)]; rfl, .lst (fun _ => rfl) (by rw [List.length_append]; exact Nat.add_le_add a1 b1) (by rw [List.length_append]; exact Nat.add_le_add a2 b2) ?_⟩
      rw [inA_iff] at a3 b3 ⊢
      intro d hd
      refine nor_ok ?_
      rcases List.mem_append.mp hd with hd | hd
      ·exact inU_sub (a3 d hd) fun a ha => List.mem_append_left _ ha
      ·exact inU_sub (b3 d hd) fun a ha => List.mem_append_right _ ha
     ·exact no_n e
noncomputable def inR (l h : Option Int) (n : Nat) : Bool := match l, h with
 | some l, some h => decide (-(n : Int) ≤ l) && decide (h < n)
 | _, _ => false
noncomputable def cutU (us : List U) : Option Int → Option Int → U
 | some l, some h => if 0 ≤ l then ((us.drop l.toNat).take (h - l + 1).toNat).flatten else us.flatten
 | _, _ => us.flatten
noncomputable def ixS (a : A) (l h : Option Int) : Option U := (toS a).bind fun p => if inR l h p.1 && decide (p.2.1 ≤ 16777216) then some [.str 1 1 p.2.2] else none
noncomputable def ixA (l h : Option Int) : A → Option U
 | .ls _ us => if inR l h us.length then some (cutU us l h) else none
 | .tup us => if inR l h us.length then some (cutU us l h) else none
 | .lst _ u lo _ => if inR l h lo then some u else none
 | a => ixS a l h
noncomputable def aIx (a : A) : A → Option U
 | .int l h => ixA l h a
 | _ => none
theorem atI_ex {α : Type} {xs : List α} {i : Int} (h0 : -(xs.length : Int) ≤ i) (h1 : i < xs.length) : ∃ (k : Nat) (x : α), atI xs i = some x ∧ xs[k]? = some x ∧ (0 ≤ i → k = i.toNat) := by
 unfold atI ixN
 by_cases h : 0 ≤ i
 ·rw [if_pos h, if_pos h1]
  have : i.toNat < xs.length := by omega
  exact ⟨i.toNat, xs[i.toNat], List.getElem?_eq_getElem this, List.getElem?_eq_getElem this, fun _ => rfl⟩
 ·rw [if_neg h]
  have h2 : 0 ≤ i + xs.length := by omega
  first
   | rw [if_pos h2]
   | rw [if_pos (show -(xs.length : Int) ≤ i from h0)]
   | skip
  have : (i + xs.length).toNat < xs.length := by omega
  exact ⟨(i + xs.length).toNat, xs[(i + xs.length).toNat], List.getElem?_eq_getElem this, List.getElem?_eq_getElem this, fun z => absurd z h⟩
theorem inR_ok {l h : Option Int} {n : Nat} {i : Int} (e : inR l h n = true) (h1 : loOk l i) (h2 : hiOk h i) : -(n : Int) ≤ i ∧ i < n := by
 unfold inR at e
 split at e
 ·rename_i l h
  rw [Bool.and_eq_true] at e
  have := of_decide_eq_true e.1
  have := of_decide_eq_true e.2
  have a1 : l ≤ i := h1
  have a2 : i ≤ h := h2
  omega
 ·first | exact no_n e | cases e
theorem cutU_ok {us : List U} {l h : Option Int} {ds : List D} {i : Int} {k : Nat} {d : D} (hs : Ins ds us) (h1 : loOk l i) (h2 : hiOk h i) (hk : ds[k]? = some d) (hi : 0 ≤ i → k = i.toNat) : InU d (cutU us l h) := by
 obtain ⟨u, hu, hin⟩ := ins_get hs k d hk
 have hf : InU d us.flatten := inU_sub hin fun a ha => List.mem_flatten.mpr ⟨u, List.mem_iff_getElem?.mpr ⟨k, hu⟩, ha⟩
 unfold cutU
 split
 ·rename_i l h
  split
  ·rename_i h0
   have a1 : l ≤ i := h1
   have a2 : i ≤ h := h2
   have e := hi (by omega)
   refine inU_sub hin fun a ha => List.mem_flatten.mpr ⟨u, ?_, ha⟩
   refine List.mem_iff_getElem?.mpr ⟨k - l.toNat, ?_⟩
   rw [List.getElem?_take, if_pos (by omega), List.getElem?_drop, show l.toNat + (k - l.toNat) = k by omega]
   exact hu
  ·exact hf
 ·exact hf
theorem ixS_ok {a : A} {u : U} {x : D} {l h : Option Int} {i : Int} (e : ixS a l h = some u) (hx : In x a) (h1 : loOk l i) (h2 : hiOk h i) : Wp (opIx x (.int i)) fun d => InU d u := by
 obtain ⟨p, hp, e⟩ := Option.bind_eq_some_iff.mp e
 obtain ⟨x, rfl, a1, a2, a3⟩ := toS_ok hp hx
 split at e
 ·rename_i hr
  cases e
  rw [Bool.and_eq_true] at hr
  have hb := inR_ok hr.1 h1 h2
  have hl : x.cps.toList.length = x.length := by simp [Str.length]
  obtain ⟨k, d, e1, e2, e3⟩ := atI_ex (xs := x.cps.toList) (i := i) (by rw [hl]; omega) (by rw [hl]; omega)
  refine ⟨.str ⟨#[d]⟩, by rw [Ev.x_s, Ev.szOk_t (Nat.le_trans a2 (of_decide_eq_true hr.2)), e1]; rfl, .hd (.str (Nat.le_refl 1) (Nat.le_refl 1) fun c hc => ?_)⟩
  rw [show c = d by simpa using hc]
  exact a3 d (List.mem_iff_getElem?.mpr ⟨k, e2⟩)
 ·exact no_n e
theorem ixU_ok {us : List U} {u : U} {ds : List D} {l h : Option Int} {i : Int} (e : (if inR l h us.length = true then some (cutU us l h) else none) = some u) (hs : Ins ds us) (h1 : loOk l i) (h2 : hiOk h i) : ∃ d, atI ds i = some d ∧ InU d u := by
 split at e
 ·rename_i hr
  cases e
  have hb := inR_ok hr h1 h2
  rw [← ins_len hs] at hb
  obtain ⟨k, d, e1, e2, e3⟩ := atI_ex hb.1 hb.2
  exact ⟨d, e1, cutU_ok hs h1 h2 e2 e3⟩
 ·exact no_n e
theorem aIx_ok {a b : A} {u : U} {x y : D} (e : aIx a b = some u) (hx : In x a) (hy : In y b) : Wp (opIx x y) fun d => InU d u := by
 cases hy with
 | @int i l h h1 h2 =>
  have e : ixA l h a = some u := e
  cases hx with
  | ls _ hs =>
   obtain ⟨d, e1, hd⟩ := ixU_ok e hs h1 h2
   exact ⟨d, by rw [Ev.x_l, e1], hd⟩
  | tup hs =>
   obtain ⟨d, e1, hd⟩ := ixU_ok e hs h1 h2
   exact ⟨d, by rw [Ev.x_t, e1], hd⟩
  | @lst _ _ ds v lo _ _ hl _ hs =>
   have e : (if inR l h lo = true then some v else none) = some u := e
   split at e
   ·rename_i hr
    cases e
    have hb := inR_ok hr h1 h2
    obtain ⟨k, d, e1, e2, e3⟩ := atI_ex (xs := ds) (i := i) (by omega) (by omega)
    exact ⟨d, by rw [Ev.x_l, e1], inA_iff.mp hs d (List.mem_iff_getElem?.mpr ⟨k, e2⟩)⟩
   ·exact no_n e
  | cs z => exact ixS_ok e (.cs z) h1 h2
  | str a b c => exact ixS_ok e (.str a b c) h1 h2
  | _ => exact no_n e
 | _ => exact no_n e
noncomputable abbrev Iv := Option Int × Option Int
noncomputable def eLo (l : Nat) : Option Iv → Nat
 | none => l
 | some (some c, _) => if 0 ≤ c then min c.toNat l else 0
 | some (none, _) => 0
noncomputable def eHi (h : Nat) : Option Iv → Nat
 | some (some c, some d) => if 0 ≤ c then min d.toNat h else h
 | _ => h
noncomputable def sHi : Option Iv → Option Nat
 | none => some 0
 | some (some a, some b) => if 0 ≤ a then some b.toNat else none
 | _ => none
noncomputable def sLo (l : Nat) : Option Iv → Nat
 | some (some a, _) => if 0 ≤ a then min a.toNat l else 0
 | _ => 0
noncomputable def cutLo (l : Nat) (p q : Option Iv) : Nat := match sHi p with
 | some b => eLo l q - b
 | none => 0
noncomputable def cutHi (l h : Nat) (p q : Option Iv) : Nat := eHi h q - sLo l p
noncomputable def ivOk : Option Iv → Option Int → Prop
 | none, none => True
 | some p, some i => loOk p.1 i ∧ hiOk p.2 i
 | _, _ => False
theorem sIx_pos {n d : Nat} {i : Int} (h : 0 ≤ i) : HT.sIx n d (some i) = min i.toNat n := by
 show (if i < 0 then _ else _) = _
 rw [if_neg (by omega)]
theorem mm {a b c d : Nat} (h : a ≤ b) (h' : c ≤ d) : min a c ≤ min b d := Nat.le_min.mpr ⟨Nat.le_trans (Nat.min_le_left _ _) h, Nat.le_trans (Nat.min_le_right _ _) h'⟩
theorem cutG_len {α : Type} (xs : List α) (lo hi : Option Int) : (cutG xs lo hi).length = HT.sIx xs.length xs.length hi - HT.sIx xs.length 0 lo := by
 unfold cutG
 rw [List.length_take, List.length_drop]
 exact Nat.min_eq_left (Nat.sub_le_sub_right (HT.sIx_le _ _ (Nat.le_refl _) hi) _)
theorem eLo_ok {n l : Nat} (h : l ≤ n) {q : Option Iv} {o : Option Int} (hq : ivOk q o) : eLo l q ≤ HT.sIx n n o := by
 cases q with
 | none =>
  cases o with
  | none => exact h
  | some _ => exact absurd hq id
 | some q =>
  obtain ⟨c, d⟩ := q
  cases o with
  | none => exact absurd hq id
  | some i =>
   cases c with
   | none => exact Nat.zero_le _
   | some c =>
    have a1 : c ≤ i := hq.1
    show (if 0 ≤ c then min c.toNat l else 0) ≤ _
    split
    ·rename_i h0
     rw [sIx_pos (Int.le_trans h0 a1)]
     exact mm (Int.toNat_le_toNat a1) h
    ·exact Nat.zero_le _
theorem eHi_ok {n h : Nat} (h2 : n ≤ h) {q : Option Iv} {o : Option Int} (hq : ivOk q o) : HT.sIx n n o ≤ eHi h q := by
 have base := Nat.le_trans (HT.sIx_le n n (Nat.le_refl _) o) h2
 unfold eHi
 split
 ·rename_i c d
  split
  ·rename_i h0
   cases o with
   | none => exact absurd hq id
   | some i =>
    have a1 : c ≤ i := hq.1
    have a2 : i ≤ d := hq.2
    rw [sIx_pos (Int.le_trans h0 a1)]
    exact mm (Int.toNat_le_toNat a2) h2
  ·exact base
 ·exact base
theorem sHi_ok {n : Nat} {p : Option Iv} {o : Option Int} (hp : ivOk p o) {b : Nat} (e : sHi p = some b) : HT.sIx n 0 o ≤ b := by
 unfold sHi at e
 split at e
 ·first | exact no_n e | cases e
  cases o with
  | none => exact Nat.le_refl 0
  | some _ => exact absurd hp id
 ·rename_i a b'
  split at e
  ·rename_i h0
   cases e
   cases o with
   | none => exact absurd hp id
   | some i =>
    have a1 : a ≤ i := hp.1
    have a2 : i ≤ b' := hp.2
    rw [sIx_pos (Int.le_trans h0 a1)]
    exact Nat.le_trans (Nat.min_le_left _ _) (Int.toNat_le_toNat a2)
  ·first | exact no_n e | cases e
 ·first | exact no_n e | cases e
theorem sLo_ok {n l : Nat} (h : l ≤ n) {p : Option Iv} {o : Option Int} (hp : ivOk p o) : sLo l p ≤ HT.sIx n 0 o := by
 unfold sLo
 split
 ·rename_i a _
  split
  ·rename_i h0
   cases o with
   | none => exact absurd hp id
   | some i =>
    have a1 : a ≤ i := hp.1
    rw [sIx_pos (Int.le_trans h0 a1)]
    exact mm (Int.toNat_le_toNat a1) h
  ·exact Nat.zero_le _
 ·exact Nat.zero_le _
theorem cut_bounds {α : Type} {xs : List α} {l h : Nat} (h1 : l ≤ xs.length) (h2 : xs.length ≤ h) {p q : Option Iv} {lo hi : Option Int} (hp : ivOk p lo) (hq : ivOk q hi) : cutLo l p q ≤ (cutG xs lo hi).length ∧ (cutG xs lo hi).length ≤ cutHi l h p q := by
 rw [cutG_len]
 constructor
 ·unfold cutLo
  cases e : sHi p with
  | none => exact Nat.zero_le _
  | some b => exact Nat.le_trans (Nat.sub_le_sub_right (eLo_ok h1 hq) _) (Nat.sub_le_sub_left (sHi_ok hp e) _)
 ·exact Nat.le_trans (Nat.sub_le_sub_right (eHi_ok h2 hq) _) (Nat.sub_le_sub_left (sLo_ok h1 hp) _)
theorem cutG_mem {α : Type} {xs : List α} {lo hi : Option Int} {x : α} (h : x ∈ cutG xs lo hi) : x ∈ xs := List.mem_of_mem_drop (List.mem_of_mem_take h)
noncomputable def aSl : A → Option Iv → Option Iv → Option A
 | .ls _ us, p, q => some (.lst true (nor us.flatten) (cutLo us.length p q) (cutHi us.length us.length p q))
 | .lst _ u l h, p, q => some (.lst true u (cutLo l p q) (cutHi l h p q))
 | a, p, q => match toS a with
  | some s => if s.2.1 ≤ 16777216 then some (.str (cutLo s.1 p q) (cutHi s.1 s.2.1 p q) s.2.2) else none
  | none => none
theorem idx_cut (lo hi : Option Int) (len : Nat) : Builtin.Str.strSliceIndices lo hi 1 len = sliceRange ((HT.sIx len 0 lo : Nat) : Int) ((HT.sIx len len hi : Nat) : Int) 1 := by
 unfold Builtin.Str.strSliceIndices
 have one : (1 : Int) > 0 := by decide
 simp only [if_pos one]
 have c : ∀ (v : Int) (d : Nat), max 0 (min (if v < 0 then v + (len : Int) else v) (len : Int)) = ((HT.sIx len d (some v) : Nat) : Int) := by
  intro v d
  show _ = (((if v < 0 then (v + (len : Int)).toNat else min v.toNat len) : Nat) : Int)
  by_cases hv : v < 0
  ·simp only [if_pos hv]; omega
  ·simp only [if_neg hv]; omega
 congr 1
 ·cases lo with
  | none => rfl
  | some v => exact c v 0
 ·cases hi with
  | none => rfl
  | some v => exact c v len
theorem rng_max {s e : Nat} : sliceRange (s : Int) (e : Int) 1 = sliceRange (s : Int) ((max s e : Nat) : Int) 1 := by
 by_cases h : s < e
 ·rw [show max s e = e by omega]
 ·unfold sliceRange
  have one : (1 : Int) > 0 := by decide
  simp only [if_pos one]
  rw [if_neg (show ¬ ((s : Int) < (e : Int)) by omega), if_neg (show ¬ ((s : Int) < ((max s e : Nat) : Int)) by omega)]
theorem slice_cut (x : Str) (lo hi : Option Int) : Txt.slice x lo hi = ⟨(cutG x.cps.toList lo hi).toArray⟩ := by
 have hl : x.cps.toList.length = x.length := by simp [Str.length]
 have h1 := HT.sIx_le x.length 0 (Nat.zero_le _) lo
 have h2 := HT.sIx_le x.length x.length (Nat.le_refl _) hi
 have e : StrLaws.sliceText x lo hi = StrLaws.sliceText x (some ((HT.sIx x.length 0 lo : Nat) : Int)) (some ((max (HT.sIx x.length 0 lo) (HT.sIx x.length x.length hi) : Nat) : Int)) := by
  unfold StrLaws.sliceText
  rw [idx_cut lo hi, rng_max, idx_cut (some _) (some _), HT.sIx_nat, HT.sIx_nat, Nat.min_eq_left h1, Nat.min_eq_left (by omega)]
 refine e.trans ((StrLaws.sliceText_nat x (Nat.le_max_left _ _) (by omega)).trans ?_)
 unfold cutG
 rw [hl, show max (HT.sIx x.length 0 lo) (HT.sIx x.length x.length hi) - HT.sIx x.length 0 lo = HT.sIx x.length x.length hi - HT.sIx x.length 0 lo by omega]
theorem aSl_ok {a c : A} {p q : Option Iv} {x : D} {lo hi : Option Int} (e : aSl a p q = some c) (hx : In x a) (hp : ivOk p lo) (hq : ivOk q hi) : Wp (opSl x lo hi) fun d => In d c := by
 unfold aSl at e
 split at e
 ·cases hx with
  | ls _ hs =>
   cases e
   have hl := ins_len hs
   have hb := cut_bounds (xs := _) (l := _) (h := _) (Nat.le_of_eq hl.symm) (Nat.le_of_eq hl) hp hq
   refine ⟨_, Ev.sl_l, .lst (fun _ => rfl) hb.1 hb.2 (inA_iff.mpr fun d hd => nor_ok (inA_iff.mp (ins_flat hs) d (cutG_mem hd)))⟩
 ·cases hx with
  | lst _ h1 h2 hs =>
   cases e
   have hb := cut_bounds (xs := _) (l := _) (h := _) h1 h2 hp hq
   exact ⟨_, Ev.sl_l, .lst (fun _ => rfl) hb.1 hb.2 (inA_iff.mpr fun d hd => inA_iff.mp hs d (cutG_mem hd))⟩
 ·split at e
  ·rename_i s hs
   obtain ⟨x, rfl, a1, a2, a3⟩ := toS_ok hs hx
   split at e
   ·first | exact no_n e | cases e
    have hl : x.cps.toList.length = x.length := by simp [Str.length]
    have hb := cut_bounds (xs := x.cps.toList) (l := s.1) (h := s.2.1) (by omega) (by omega) hp hq
    refine ⟨_, by rw [Ev.sl_t, Ev.szOk_t (by omega)]; rfl, ?_⟩
    rw [slice_cut]
    refine .str ?_ ?_ fun c hc => a3 c (cutG_mem (by simpa using hc))
    ·show _ ≤ (cutG x.cps.toList lo hi).toArray.size
     rw [List.size_toArray]; exact hb.1
    ·show (cutG x.cps.toList lo hi).toArray.size ≤ _
     rw [List.size_toArray]; exact hb.2
   ·first | exact no_n e | cases e
  ·first | exact no_n e | cases e
end Ab
end L2
namespace L2
open PySem PySem.Spec PyProof.Rows PySem.SeqAt
namespace Ab
noncomputable abbrev B3 := Option (Option Bool)
noncomputable def bOk (r : Option Bool) (b : Bool) : Prop := ∀ c, r = some c → b = c
noncomputable def aLt (l h l' h' : Option Int) : Option Bool := match h, l' with
 | some h, some l' => if h < l' then some true else (match l, h' with
  | some l, some h' => if h' ≤ l then some false else none
  | _, _ => none)
 | _, _ => match l, h' with
  | some l, some h' => if h' ≤ l then some false else none
  | _, _ => none
theorem aLt_ok {l h l' h' : Option Int} {i j : Int} (h1 : loOk l i) (h2 : hiOk h i) (h3 : loOk l' j) (h4 : hiOk h' j) : bOk (aLt l h l' h') (decide (i < j)) := by
 have key : ∀ c, (match l, h' with
  | some l, some h' => if h' ≤ l then some false else none
  | _, _ => none : Option Bool) = some c → decide (i < j) = c := by
  intro c hc
  split at hc
  ·rename_i l h'
   split at hc
   ·first | exact no_n hc | cases hc
    have a1 : l ≤ i := h1
    have a2 : j ≤ h' := h4
    exact decide_eq_false (by omega)
   ·first | exact no_n hc | cases hc
  ·first | exact no_n hc | cases hc
 intro c hc
 unfold aLt at hc
 split at hc
 ·rename_i h l' 
  split at hc
  ·first | exact no_n hc | cases hc
   have a1 : i ≤ h := h2
   have a2 : l' ≤ j := h3
   exact decide_eq_true (by omega)
  ·exact key c hc
 ·exact key c hc
noncomputable def nB : Option Bool → Option Bool := fun r => r.map (!·)
theorem nB_ok {r : Option Bool} {b : Bool} (h : bOk r b) : bOk (nB r) (!b) := by
 intro c hc
 unfold nB at hc
 obtain ⟨x, rfl, rfl⟩ := Option.map_eq_some_iff.mp hc
 rw [h x rfl]
noncomputable def kin : A → Nat
 | .non => 0
 | .bl _ => 1
 | .int _ _ => 1
 | .cs _ => 2
 | .str _ _ _ => 2
 | .tup _ => 3
 | .ls _ _ => 4
 | .lst _ _ _ _ => 4
noncomputable def kinD : D → Nat
 | .non => 0
 | .bl _ => 1
 | .int _ => 1
 | .str _ => 2
 | .tup _ => 3
 | .lst _ _ => 4
theorem kin_ok {d : D} {a : A} (h : In d a) : kinD d = kin a := by cases h <;> rfl
theorem eq_kin {n : Nat} {d e : D} (h : kinD d ≠ kinD e) : eqN (n + 1) d e = .ok false := by
 cases d <;> cases e <;> first | rfl | exact absurd rfl h
noncomputable def aEqI (l h l' h' : Option Int) : Option Bool := match l, h, l', h' with
 | some l, some h, some l', some h' => if l = h ∧ l' = h' ∧ l = l' then some true else if h < l' ∨ h' < l then some false else none
 | _, _, _, _ => none
theorem aEqI_ok {l h l' h' : Option Int} {i j : Int} (h1 : loOk l i) (h2 : hiOk h i) (h3 : loOk l' j) (h4 : hiOk h' j) : bOk (aEqI l h l' h') (i == j) := by
 intro c hc
 cases l with
 | none => cases hc
 | some l =>
  cases h with
  | none => cases hc
  | some h =>
   cases l' with
   | none => cases hc
   | some l' =>
    cases h' with
    | none => cases hc
    | some h' =>
     have a1 : l ≤ i := h1
     have a2 : i ≤ h := h2
     have a3 : l' ≤ j := h3
     have a4 : j ≤ h' := h4
     have hc : (if l = h ∧ l' = h' ∧ l = l' then some true else if h < l' ∨ h' < l then some false else none) = some c := hc
     split at hc
     ·first | exact no_n hc | cases hc
      rw [show i = j by omega]
      exact beq_self_eq_true j
     ·split at hc
      ·first | exact no_n hc | cases hc
       rw [beq_eq_false_iff_ne]
       omega
      ·first | exact no_n hc | cases hc
noncomputable def eqBl : Option Bool → Option Bool → Option Bool
 | some x, some y => some (x == y)
 | _, _ => none
noncomputable def aEqB (x : Option Bool) : A → B3
 | .bl y => some (eqBl x y)
 | _ => none
noncomputable def aEqN (l h : Option Int) : A → B3
 | .int l' h' => some (aEqI l h l' h')
 | _ => none
noncomputable def aEqC (x : Str) : A → B3
 | .cs y => some (some (x == y))
 | _ => some none
noncomputable def aEqL (a b : A) : B3 := (toL a).bind fun p => (toL b).bind fun q =>
 if p.2.2 = 0 ∧ q.2.2 = 0 then some (some true)
 else if p.2.2 = 0 then (if 0 < q.2.1 then some (some false) else some none)
 else if q.2.2 = 0 then (if 0 < p.2.1 then some (some false) else some none)
 else none
noncomputable def aEq1 : A → A → B3
 | .non => fun _ => some (some true)
 | .bl x => aEqB x
 | .int l h => aEqN l h
 | .cs x => aEqC x
 | .str _ _ _ => fun _ => some none
 | .tup _ => fun _ => none
 | .ls o us => aEqL (.ls o us)
 | .lst o u l h => aEqL (.lst o u l h)
noncomputable def aEq (a b : A) : B3 := if kin a != kin b then some (some false) else aEq1 a b
theorem bOk_n {b : Bool} : bOk none b := fun _ h => by cases h
theorem bOk_s {b : Bool} : bOk (some b) b := fun _ h => by cases h; rfl
theorem eqs_nil {f : D → D → Res Bool} {o o' : Bool} {xs ys : List D} (h : xs.length = 0 ∨ ys.length = 0) : eqsG f xs ys = .ok (decide (xs.length = 0 ∧ ys.length = 0)) := by
 cases xs <;> cases ys <;> first | rfl | (simp at h)
theorem aEqL_ok {n : Nat} {a b : A} {r : Option Bool} {x y : D} (e : aEqL a b = some r) (hx : In x a) (hy : In y b) : Wp (eqN (n + 1) x y) (bOk r) := by
 obtain ⟨p, hp, e⟩ := Option.bind_eq_some_iff.mp e
 obtain ⟨q, hq, e⟩ := Option.bind_eq_some_iff.mp e
 obtain ⟨o, xs, rfl, a1, a2, _⟩ := toL_ok hp hx
 obtain ⟨o', ys, rfl, b1, b2, _⟩ := toL_ok hq hy
 rw [Ev.e_ll]
 split at e
 ·rename_i h
  cases e
  rw [h.1] at a2
  rw [h.2] at b2
  refine ⟨_, eqs_nil (o := o) (o' := o) (.inl (Nat.le_zero.mp a2)), ?_⟩
  rw [decide_eq_true ⟨Nat.le_zero.mp a2, Nat.le_zero.mp b2⟩]
  exact bOk_s
 ·split at e
  ·rename_i h
   rw [h] at a2
   split at e
   ·cases e
    refine ⟨_, eqs_nil (o := o) (o' := o) (.inl (Nat.le_zero.mp a2)), ?_⟩
    rw [decide_eq_false (by omega)]
    exact bOk_s
   ·cases e
    exact ⟨_, eqs_nil (o := o) (o' := o) (.inl (Nat.le_zero.mp a2)), bOk_n⟩
  ·split at e
   ·rename_i h
    rw [h] at b2
    split at e
    ·cases e
     refine ⟨_, eqs_nil (o := o) (o' := o) (.inr (Nat.le_zero.mp b2)), ?_⟩
     rw [decide_eq_false (by omega)]
     exact bOk_s
    ·cases e
     exact ⟨_, eqs_nil (o := o) (o' := o) (.inr (Nat.le_zero.mp b2)), bOk_n⟩
   ·exact no_n e
theorem kin_str {y : D} (h : kinD y = 2) : ∃ z, y = .str z := by
 cases y <;> first | exact ⟨_, rfl⟩ | cases h
theorem aEq_ok {n : Nat} {a b : A} {r : Option Bool} {x y : D} (e : aEq a b = some r) (hx : In x a) (hy : In y b) : Wp (eqN (n + 1) x y) (bOk r) := by
 unfold aEq at e
 split at e
 ·cases e
  rename_i h
  refine ⟨false, eq_kin ?_, bOk_s⟩
  rw [kin_ok hx, kin_ok hy]
  simpa using h
 ·rename_i hk
  have hk2 : kinD y = kin a := by
   rw [kin_ok hy]
   have : ¬ kin a ≠ kin b := by simpa using hk
   exact (Decidable.of_not_not this).symm
  cases hx with
  | non =>
   cases e
   cases y <;> first | exact .ok bOk_s | cases hk2
  | bl x =>
   cases hy with
   | bl z => cases e; exact .ok bOk_n
   | blc z => cases e; exact .ok bOk_n
   | _ => exact no_n e
  | blc x =>
   cases hy with
   | bl z => cases e; exact .ok bOk_n
   | blc z => cases e; exact .ok bOk_s
   | _ => exact no_n e
  | int h1 h2 =>
   cases hy with
   | int h3 h4 => cases e; exact .ok (aEqI_ok h1 h2 h3 h4)
   | _ => exact no_n e
  | cs x =>
   cases hy with
   | cs z => cases e; exact .ok bOk_s
   | str _ _ _ => cases e; exact .ok bOk_n
   | _ => cases hk2
  | str _ _ _ =>
   cases e
   obtain ⟨z, rfl⟩ := kin_str hk2
   exact .ok bOk_n
  | tup _ => exact no_n e
  | ls h1 h2 => exact aEqL_ok e (.ls h1 h2) hy
  | lst h1 h2 h3 h4 => exact aEqL_ok e (.lst h1 h2 h3 h4) hy
noncomputable def orB : Option Bool → Option Bool → Option Bool
 | some true, _ => some true
 | _, some true => some true
 | some false, some false => some false
 | _, _ => none
theorem orB_ok {r s : Option Bool} {b c : Bool} (h : bOk r b) (h' : bOk s c) : bOk (orB r s) (b || c) := by
 intro z hz
 unfold orB at hz
 split at hz
 ·cases hz; rw [h true rfl, Bool.true_or]
 ·cases hz; rw [h' true rfl, Bool.or_true]
 ·cases hz; rw [h false rfl, h' false rfl]; rfl
 ·cases hz
noncomputable def eqU' (a : A) : U → B3
 | [] => none
 | [b] => aEq b a
 | b :: u => match aEq b a, eqU' a u with
  | some r, some s => some (if r = s then r else none)
  | _, _ => none
theorem eqU'_ok {n : Nat} {a : A} {x : D} (hx : In x a) : ∀ {u : U} {r : Option Bool} {y : D}, eqU' a u = some r → InU y u → Wp (eqN (n + 1) y x) (bOk r)
 | [b], r, y, e, h => aEq_ok e (inU_1.mp h) hx
 | b :: c :: u, r, y, e, h => by
  unfold eqU' at e
  split at e
  ·rename_i r' s h1 h2
   cases e
   cases h with
   | hd h =>
    refine (aEq_ok h1 h hx).mono fun z hz => ?_
    split
    ·exact hz
    ·exact bOk_n
   | tl h =>
    refine (eqU'_ok hx h2 h).mono fun z hz => ?_
    split
    ·rename_i e'; rw [e']; exact hz
    ·exact bOk_n
  ·first | exact no_n e | cases e
noncomputable def anyL (a : A) : List U → B3
 | [] => some (some false)
 | u :: us => match eqU' a u, anyL a us with
  | some r, some s => some (orB r s)
  | _, _ => none
theorem anyL_ok {a : A} {x : D} (hx : In x a) : ∀ {us : List U} {r : Option Bool} {ds : List D}, anyL a us = some r → Ins ds us → Wp (anyN x ds) (bOk r)
 | _, _, _, e, .nil => by cases e; exact .ok bOk_s
 | u :: us, r, _, e, .cons h1 h2 => by
  unfold anyL at e
  split at e
  ·rename_i r' s e1 e2
   cases e
   show Wp (bnd (eqN 40 _ x) _) _
   refine .bnd (eqU'_ok hx e1 h1) fun b hb => .bnd (anyL_ok hx e2 h2) fun c hc => .ok (orB_ok hb hc)
  ·first | exact no_n e | cases e
noncomputable def anyS (a : A) (u : U) : B3 := match u with
 | [] => some (some false)
 | u => match eqU' a u with
  | some (some false) => some (some false)
  | some _ => some none
  | none => none
theorem anyS_ok {a : A} {x : D} (hx : In x a) {u : U} {r : Option Bool} (e : anyS a u = some r) : ∀ {ds : List D}, InA ds u → Wp (anyN x ds) (bOk r)
 | _, .nil => by
  refine .ok ?_
  unfold anyS at e
  split at e
  ·cases e; exact bOk_s
  ·split at e
   ·cases e; exact bOk_s
   ·cases e; exact bOk_n
   ·first | exact no_n e | cases e
 | _, .cons h1 h2 => by
  have ih := anyS_ok hx e h2
  unfold anyS at e
  split at e
  ·cases h1
  ·split at e
   ·rename_i hu
    cases e
    refine .bnd (eqU'_ok hx hu h1) fun b hb => .bnd ih fun c hc => .ok ?_
    rw [hb false rfl, hc false rfl]
    exact bOk_s
   ·rename_i hu
    cases e
    exact .bnd (eqU'_ok hx hu h1) fun b hb => .bnd ih fun c hc => .ok bOk_n
   ·first | exact no_n e | cases e
noncomputable def aIn (a b : A) : B3 := match b with
 | .tup us => anyL a us
 | .ls _ us => anyL a us
 | .lst _ u _ h => if h = 0 then some (some false) else anyS a u
 | .cs y => (match a with
  | .cs x => some (some (inStr y x))
  | .str _ _ _ => some none
  | _ => none)
 | .str _ _ _ => (match a with
  | .cs _ => some none
  | .str _ _ _ => some none
  | _ => none)
 | _ => none
theorem aIn_ok {a b : A} {r : Option Bool} {x y : D} (e : aIn a b = some r) (hx : In x a) (hy : In y b) : Wp (opC .in_ x y) (bOk r) ∧ opC .nin x y = bnd (opC .in_ x y) (fun r => .ok !r) := by
 unfold aIn at e
 split at e
 ·cases hy with
  | tup hs => exact ⟨by rw [show opC .in_ x (.tup _) = anyN x _ by cases x <;> rfl]; exact anyL_ok hx e hs, by cases x <;> rfl⟩
 ·cases hy with
  | ls _ hs => exact ⟨by rw [Ev.c_inl]; exact anyL_ok hx e hs, by rw [Ev.c_inl, Ev.c_ninl]; rfl⟩
 ·cases hy with
  | lst _ _ h3 hs =>
   refine ⟨?_, by rw [Ev.c_inl, Ev.c_ninl]; rfl⟩
   rw [Ev.c_inl]
   split at e
   ·rename_i h0
    cases e
    rw [h0] at h3
    rw [List.eq_nil_of_length_eq_zero (Nat.le_zero.mp h3)]
    exact .ok bOk_s
   ·exact anyS_ok hx e hs
 ·cases hy
  split at e
  ·cases hx; cases e; exact ⟨.ok bOk_s, rfl⟩
  ·cases hx; cases e; exact ⟨.ok bOk_n, rfl⟩
  ·first | exact no_n e | cases e
 ·cases hy
  split at e
  ·cases hx; cases e; exact ⟨.ok bOk_n, rfl⟩
  ·cases hx; cases e; exact ⟨.ok bOk_n, rfl⟩
  ·first | exact no_n e | cases e
 ·first | exact no_n e | cases e
noncomputable def cmpI (f : Option Int → Option Int → Option Int → Option Int → Option Bool) : A → A → B3
 | .int l h, .int l' h' => some (f l h l' h')
 | _, _ => none
theorem cmpI_ok {f : Option Int → Option Int → Option Int → Option Int → Option Bool} {a b : A} {r : Option Bool} {x y : D} (e : cmpI f a b = some r) (hx : In x a) (hy : In y b) : ∃ i j l h l' h', x = .int i ∧ y = .int j ∧ loOk l i ∧ hiOk h i ∧ loOk l' j ∧ hiOk h' j ∧ f l h l' h' = r := by
 cases hx with
 | int h1 h2 =>
  cases hy with
  | int h3 h4 => cases e; exact ⟨_, _, _, _, _, _, rfl, rfl, h1, h2, h3, h4, rfl⟩
  | _ => exact no_n e
 | _ => exact no_n e
noncomputable def aIs (a : A) : A → B3
 | .non => some (some (kin a == 0))
 | _ => none
noncomputable def aC : COp → A → A → B3
 | .eq => aEq
 | .ne => fun a b => (aEq a b).map nB
 | .lt => cmpI aLt
 | .gt => cmpI fun l h l' h' => aLt l' h' l h
 | .ge => cmpI fun l h l' h' => nB (aLt l h l' h')
 | .le => cmpI fun l h l' h' => nB (aLt l' h' l h)
 | .in_ => aIn
 | .nin => fun a b => (aIn a b).map nB
 | .is_ => aIs
 | .isn => fun a b => (aIs a b).map nB
theorem isNon_kin {d : D} : isNon d = (kinD d == 0) := by cases d <;> rfl
theorem aIs_ok {a b : A} {r : Option Bool} {x y : D} (e : aIs a b = some r) (hx : In x a) (hy : In y b) : y = .non ∧ bOk r (isNon x) := by
 cases hy with
 | non =>
  cases e
  exact ⟨rfl, by rw [isNon_kin, kin_ok hx]; exact bOk_s⟩
 | _ => exact no_n e
theorem aC_ok {op : COp} {a b : A} {r : Option Bool} {x y : D} (e : aC op a b = some r) (hx : In x a) (hy : In y b) : Wp (opC op x y) (bOk r) := by
 cases op with
 | eq => rw [Ev.c_eq]; exact aEq_ok e hx hy
 | ne =>
  obtain ⟨s, hs, rfl⟩ := Option.map_eq_some_iff.mp e
  rw [Ev.c_ne]
  exact .bnd (aEq_ok hs hx hy) fun z hz => .ok (nB_ok hz)
 | lt =>
  obtain ⟨i, j, l, h, l', h', rfl, rfl, h1, h2, h3, h4, rfl⟩ := cmpI_ok e hx hy
  exact .ok (aLt_ok h1 h2 h3 h4)
 | gt =>
  obtain ⟨i, j, l, h, l', h', rfl, rfl, h1, h2, h3, h4, rfl⟩ := cmpI_ok e hx hy
  exact .ok (aLt_ok h3 h4 h1 h2)
 | ge =>
  obtain ⟨i, j, l, h, l', h', rfl, rfl, h1, h2, h3, h4, rfl⟩ := cmpI_ok e hx hy
  refine ⟨_, Ev.c_ge, ?_⟩
  rw [show decide (j ≤ i) = !decide (i < j) by by_cases z : i < j <;> simp [z] <;> omega]
  exact nB_ok (aLt_ok h1 h2 h3 h4)
 | le =>
  obtain ⟨i, j, l, h, l', h', rfl, rfl, h1, h2, h3, h4, rfl⟩ := cmpI_ok e hx hy
  refine ⟨_, Ev.c_le, ?_⟩
  rw [show decide (i ≤ j) = !decide (j < i) by by_cases z : j < i <;> simp [z] <;> omega]
  exact nB_ok (aLt_ok h3 h4 h1 h2)
 | in_ => exact (aIn_ok e hx hy).1
 | nin =>
  obtain ⟨s, hs, rfl⟩ := Option.map_eq_some_iff.mp e
  obtain ⟨h1, h2⟩ := aIn_ok hs hx hy
  rw [h2]
  exact .bnd h1 fun z hz => .ok (nB_ok hz)
 | is_ =>
  obtain ⟨rfl, hb⟩ := aIs_ok e hx hy
  exact ⟨_, Ev.c_is, hb⟩
 | isn =>
  obtain ⟨s, hs, rfl⟩ := Option.map_eq_some_iff.mp e
  obtain ⟨rfl, hb⟩ := aIs_ok hs hx hy
  exact ⟨_, Ev.c_isn, nB_ok hb⟩
noncomputable def aTru : A → B3
 | .non => some (some false)
 | .bl b => some b
 | .int l h => some (match aEqI l h (some 0) (some 0) with | some b => some !b | none => none)
 | .tup us => some (some !us.isEmpty)
 | .ls _ us => some (some !us.isEmpty)
 | .lst _ _ l h => some (if h = 0 then some false else if 0 < l then some true else none)
 | a => match toS a with
  | some p => if p.2.1 ≤ 16777216 then some (if p.2.1 = 0 then some false else if 0 < p.1 then some true else none) else none
  | none => none
theorem emp_len {α : Type} (xs : List α) : (!xs.isEmpty) = decide (0 < xs.length) := by cases xs <;> rfl
theorem aTru_ok {a : A} {r : Option Bool} {x : D} (e : aTru a = some r) (hx : In x a) : Wp (truD x) (bOk r) := by
 unfold aTru at e
 split at e
 ·cases hx; cases e; exact .ok bOk_s
 ·first | exact no_n e | cases e
  cases hx
  ·exact .ok bOk_n
  ·exact .ok bOk_s
 ·cases hx with
  | @int i l h h1 h2 =>
   cases e
   refine .ok ?_
   have hb := aEqI_ok (j := 0) h1 h2 (l' := some 0) (h' := some 0) (Int.le_refl 0) (Int.le_refl 0)
   intro c hc
   split at hc
   ·rename_i b hb'
    cases hc
    rw [← hb b hb']
    rfl
   ·first | exact no_n hc | cases hc
 ·cases hx with
  | tup hs =>
   cases e
   refine .ok ?_
   rw [emp_len, emp_len, ins_len hs]
   exact bOk_s
 ·cases hx with
  | ls _ hs =>
   cases e
   refine .ok ?_
   rw [emp_len, emp_len, ins_len hs]
   exact bOk_s
 ·cases hx with
  | lst _ h1 h2 hs =>
   cases e
   refine .ok ?_
   rw [emp_len]
   split
   ·rw [decide_eq_false (by omega)]; exact bOk_s
   ·split
    ·rw [decide_eq_true (by omega)]; exact bOk_s
    ·exact bOk_n
 ·split at e
  ·rename_i p hp
   obtain ⟨x, rfl, a1, a2, a3⟩ := toS_ok hp hx
   split at e
   ·first | exact no_n e | cases e
    refine ⟨_, by show grd (szOk x.length) _ = _; rw [Ev.szOk_t (by omega)]; rfl, ?_⟩
    split
    ·rw [show (((x.length : Nat) : Int) != 0) = false by rw [show x.length = 0 by omega]; rfl]; exact bOk_s
    ·split
     ·rw [show (((x.length : Nat) : Int) != 0) = true by simp; omega]; exact bOk_s
     ·exact bOk_n
   ·first | exact no_n e | cases e
  ·first | exact no_n e | cases e
noncomputable def isBl : A → Bool
 | .bl _ => true
 | _ => false
noncomputable def uBl (u : U) : Option Unit := if u.all isBl then some () else none
theorem uBl_ok {u : U} {d : D} (e : uBl u = some ()) (h : InU d u) : ∃ b, d = .bl b := by
 obtain ⟨a, ha, h⟩ := inU_iff.mp h
 unfold uBl at e
 split at e
 ·rename_i hu
  have hb := List.all_eq_true.mp hu a ha
  cases h with
  | bl b => exact ⟨b, rfl⟩
  | blc b => exact ⟨b, rfl⟩
  | _ => exact no_h hb
 ·exact no_n e
theorem bls_ok {u : U} (e : uBl u = some ()) : ∀ {ds : List D}, InA ds u → ∃ bs : List Bool, ds = bs.map .bl
 | _, .nil => ⟨[], rfl⟩
 | _, .cons h1 h2 => by
  obtain ⟨b, rfl⟩ := uBl_ok e h1
  obtain ⟨bs, rfl⟩ := bls_ok e h2
  exact ⟨b :: bs, rfl⟩
noncomputable def iMin : Option Int → Option Int → Option Int
 | some a, some b => some (min a b)
 | some a, none => some a
 | none, b => b
noncomputable def iMax : Option Int → Option Int → Option Int
 | some a, some b => some (max a b)
 | some a, none => some a
 | none, b => b
theorem lo_min {l l' : Option Int} {i j : Int} (h : loOk l i) (h' : loOk l' j) : loOk (mLo l l') (if j < i then j else i) := by
 cases l <;> cases l' <;> first | trivial | (rename_i a b; have a1 : a ≤ i := h; have a2 : b ≤ j := h'; show min a b ≤ _; split <;> omega)
theorem hi_max {l l' : Option Int} {i j : Int} (h : hiOk l i) (h' : hiOk l' j) : hiOk (mHi l l') (if j > i then j else i) := by
 cases l <;> cases l' <;> first | trivial | (rename_i a b; have a1 : i ≤ a := h; have a2 : j ≤ b := h'; show _ ≤ max a b; split <;> omega)
theorem hi_min {l l' : Option Int} {i j : Int} (h : hiOk l i) (h' : hiOk l' j) : hiOk (iMin l l') (if j < i then j else i) := by
 cases l with
 | none =>
  cases l' with
  | none => trivial
  | some b => have a2 : j ≤ b := h'; show _ ≤ b; split <;> omega
 | some a =>
  have a1 : i ≤ a := h
  cases l' with
  | none => show _ ≤ a; split <;> omega
  | some b => have a2 : j ≤ b := h'; show _ ≤ min a b; split <;> omega
theorem lo_max {l l' : Option Int} {i j : Int} (h : loOk l i) (h' : loOk l' j) : loOk (iMax l l') (if j > i then j else i) := by
 cases l with
 | none =>
  cases l' with
  | none => trivial
  | some b => have a2 : b ≤ j := h'; show b ≤ _; split <;> omega
 | some a =>
  have a1 : a ≤ i := h
  cases l' with
  | none => show a ≤ _; split <;> omega
  | some b => have a2 : b ≤ j := h'; show max a b ≤ _; split <;> omega
noncomputable def iAbs : Option Int → Option Int → Option Int
 | some l, some h => some ((max l.natAbs h.natAbs : Nat) : Int)
 | _, _ => none
theorem hi_abs {l h : Option Int} {i : Int} (h1 : loOk l i) (h2 : hiOk h i) : hiOk (iAbs l h) (if i < 0 then -i else i) := by
 cases l <;> cases h <;> first | trivial | (rename_i a b; have a1 : a ≤ i := h1; have a2 : i ≤ b := h2; show _ ≤ ((max a.natAbs b.natAbs : Nat) : Int); split <;> omega)
noncomputable def aLen : A → Option A
 | .tup us => some (.int (some (us.length : Int)) (some (us.length : Int)))
 | a => match toL a with
  | some p => some (.int (some (p.2.1 : Int)) (some (p.2.2 : Int)))
  | none => match toS a with
   | some p => if p.2.1 ≤ 16777216 then some (.int (some (p.1 : Int)) (some (p.2.1 : Int))) else none
   | none => none
noncomputable def aMin : A → A → Option A
 | .int l h, .int l' h' => some (.int (mLo l l') (iMin h h'))
 | _, _ => none
noncomputable def aMax : A → A → Option A
 | .int l h, .int l' h' => some (.int (iMax l l') (mHi h h'))
 | _, _ => none
noncomputable def aInt : A → Option A
 | .int l h => some (.int l h)
 | .bl none => some (.int (some 0) (some 1))
 | .bl (some b) => some (.int (some (if b then 1 else 0)) (some (if b then 1 else 0)))
 | _ => none
noncomputable def aLst : A → Option A
 | .ls _ us => some (.ls true us)
 | .lst _ u l h => some (.lst true u l h)
 | .tup us => some (.ls true us)
 | _ => none
noncomputable def aAbs : A → Option A
 | .int l h => some (.int (some 0) (iAbs l h))
 | _ => none
noncomputable def aAll (a : A) : Option A := match toL a with
 | some p => (uBl p.1).map fun _ => .bl none
 | none => none
noncomputable def un (f : A → Option A) : List A → Option A
 | [a] => f a
 | _ => none
noncomputable def bi2 (f : A → A → Option A) : List A → Option A
 | [a, b] => f a b
 | _ => none
noncomputable def aBi : Bi → List A → Option A
 | .len => un aLen
 | .min2 => bi2 aMin
 | .max2 => bi2 aMax
 | .int => un aInt
 | .list => un aLst
 | .abs => un aAbs
 | .all => un aAll
 | .any => un aAll
 | _ => fun _ => none
inductive Inl : List D → List A → Prop where
 | nil : Inl [] []
 | cons {d : D} {a : A} {ds : List D} {as : List A} : In d a → Inl ds as → Inl (d :: ds) (a :: as)
theorem un_ok {f : A → Option A} {as : List A} {c : A} {ds : List D} (e : un f as = some c) (h : Inl ds as) : ∃ a d, ds = [d] ∧ In d a ∧ f a = some c := by
 match as, h, e with
 | [a], .cons hx .nil, e => exact ⟨a, _, rfl, hx, e⟩
 | [], _, e => cases e
 | _ :: _ :: _, _, e => cases e
theorem bi2_ok {f : A → A → Option A} {as : List A} {c : A} {ds : List D} (e : bi2 f as = some c) (h : Inl ds as) : ∃ a b d d', ds = [d, d'] ∧ In d a ∧ In d' b ∧ f a b = some c := by
 match as, h, e with
 | [a, b], .cons hx (.cons hy .nil), e => exact ⟨a, b, _, _, rfl, hx, hy, e⟩
 | [], _, e => cases e
 | [_], _, e => cases e
 | _ :: _ :: _ :: _, _, e => cases e
theorem aLen_ok {a c : A} {d : D} (e : aLen a = some c) (hx : In d a) : Wp (opBi .len [d]) fun d => In d c := by
 unfold aLen at e
 split at e
 ·cases hx with
  | tup hs =>
   cases e
   refine ⟨_, rfl, ?_⟩
   rw [ins_len hs]
   exact .int (Int.le_refl _) (Int.le_refl _)
 ·split at e
  ·rename_i p hp
   obtain ⟨o, ds, rfl, a1, a2, _⟩ := toL_ok hp hx
   cases e
   exact ⟨_, rfl, .int (Int.ofNat_le.mpr a1) (Int.ofNat_le.mpr a2)⟩
  ·split at e
   ·rename_i p hp
    obtain ⟨x, rfl, a1, a2, _⟩ := toS_ok hp hx
    split at e
    ·first | exact no_n e | cases e
     exact ⟨_, by rw [Ev.bi_ls, Ev.szOk_t (Nat.le_trans a2 ‹_›)]; rfl, .int (Int.ofNat_le.mpr a1) (Int.ofNat_le.mpr a2)⟩
    ·first | exact no_n e | cases e
   ·first | exact no_n e | cases e
theorem aAll_ok {a c : A} {d : D} (e : aAll a = some c) (hx : In d a) : ∃ (o : Bool) (bs : List Bool), d = .lst o (bs.map .bl) ∧ c = .bl none := by
 unfold aAll at e
 split at e
 ·rename_i p hp
  obtain ⟨o, ds, rfl, _, _, a3⟩ := toL_ok hp hx
  obtain ⟨_, hu, rfl⟩ := Option.map_eq_some_iff.mp e
  obtain ⟨bs, rfl⟩ := bls_ok hu a3
  exact ⟨o, bs, rfl, rfl⟩
 ·first | exact no_n e | cases e
theorem aBi_ok {f : Bi} {as : List A} {c : A} {ds : List D} (e : aBi f as = some c) (h : Inl ds as) : Wp (opBi f ds) fun d => In d c := by
 cases f with
 | len =>
  obtain ⟨a, d, rfl, hx, e⟩ := un_ok e h
  exact aLen_ok e hx
 | min2 =>
  obtain ⟨a, b, d, d', rfl, hx, hy, e⟩ := bi2_ok e h
  unfold aMin at e
  split at e
  ·cases hx; cases hy; cases e
   exact ⟨_, rfl, .int (lo_min ‹_› ‹_›) (hi_min ‹_› ‹_›)⟩
  ·first | exact no_n e | cases e
 | max2 =>
  obtain ⟨a, b, d, d', rfl, hx, hy, e⟩ := bi2_ok e h
  unfold aMax at e
  split at e
  ·cases hx; cases hy; cases e
   exact ⟨_, rfl, .int (lo_max ‹_› ‹_›) (hi_max ‹_› ‹_›)⟩
  ·first | exact no_n e | cases e
 | int =>
  obtain ⟨a, d, rfl, hx, e⟩ := un_ok e h
  cases hx with
  | int h1 h2 => cases e; exact ⟨_, rfl, .int h1 h2⟩
  | bl b => cases e; cases b <;> exact ⟨_, rfl, .int (by show (0 : Int) ≤ _; decide) (by show _ ≤ (1 : Int); decide)⟩
  | blc b => cases e; exact ⟨_, rfl, .int (Int.le_refl _) (Int.le_refl _)⟩
  | _ => first | exact no_n e | cases e
 | list =>
  obtain ⟨a, d, rfl, hx, e⟩ := un_ok e h
  cases hx with
  | ls _ hs => cases e; exact ⟨_, rfl, .ls (fun _ => rfl) hs⟩
  | lst _ h1 h2 hs => cases e; exact ⟨_, rfl, .lst (fun _ => rfl) h1 h2 hs⟩
  | tup hs => cases e; exact ⟨_, rfl, .ls (fun _ => rfl) hs⟩
  | _ => first | exact no_n e | cases e
 | abs =>
  obtain ⟨a, d, rfl, hx, e⟩ := un_ok e h
  cases hx with
  | @int i l h h1 h2 =>
   cases e
   refine ⟨_, rfl, .int ?_ (hi_abs h1 h2)⟩
   show (0 : Int) ≤ _; split <;> omega
  | _ => first | exact no_n e | cases e
 | all =>
  obtain ⟨a, d, rfl, hx, e⟩ := un_ok e h
  obtain ⟨o, bs, rfl, rfl⟩ := aAll_ok e hx
  exact ⟨_, Ev.bi_all, .bl _⟩
 | any =>
  obtain ⟨a, d, rfl, hx, e⟩ := un_ok e h
  obtain ⟨o, bs, rfl, rfl⟩ := aAll_ok e hx
  exact ⟨_, Ev.bi_any, .bl _⟩
 | _ => first | exact no_n e | cases e
noncomputable def aIsi : Kd → A → Bool
 | .str, .cs _ => true
 | .str, .str _ _ _ => true
 | .int, .int _ _ => true
 | .int, .bl _ => true
 | .bool, .bl _ => true
 | .list, .ls _ _ => true
 | .list, .lst _ _ _ _ => true
 | .tuple, .tup _ => true
 | _, _ => false
theorem aIsi_ok {k : Kd} {a : A} {d : D} (h : In d a) : isiD k d = aIsi k a := by cases h <;> cases k <;> rfl
noncomputable def allS : U → Option (Nat × Nat × Nat)
 | [] => some (0, 0, 0)
 | [a] => toS a
 | a :: u => match toS a, allS u with
  | some p, some q => some (min p.1 q.1, max p.2.1 q.2.1, p.2.2 ||| q.2.2)
  | _, _ => none
theorem m_or {m m' : Nat} {x : Str} (h : inM m x) : inM (m ||| m') x := fun c hc => by rw [Nat.testBit_or, h c hc, Bool.true_or]
theorem m_or' {m m' : Nat} {x : Str} (h : inM m' x) : inM (m ||| m') x := fun c hc => by rw [Nat.testBit_or, h c hc, Bool.or_true]
theorem allS_ok : ∀ {u : U} {p : Nat × Nat × Nat} {d : D}, allS u = some p → InU d u → ∃ x, d = .str x ∧ p.1 ≤ x.length ∧ x.length ≤ p.2.1 ∧ inM p.2.2 x
 | [a], p, d, e, h => toS_ok e (inU_1.mp h)
 | a :: b :: u, p, d, e, h => by
  unfold allS at e
  split at e
  ·rename_i p' q e1 e2
   cases e
   cases h with
   | hd h =>
    obtain ⟨x, rfl, h1, h2, h3⟩ := toS_ok e1 h
    exact ⟨x, rfl, by show min _ _ ≤ _; omega, by show _ ≤ max _ _; omega, m_or h3⟩
   | tl h =>
    obtain ⟨x, rfl, h1, h2, h3⟩ := allS_ok e2 h
    exact ⟨x, rfl, by show min _ _ ≤ _; omega, by show _ ≤ max _ _; omega, m_or' h3⟩
  ·first | exact no_n e | cases e
theorem strs_ok {u : U} {p : Nat × Nat × Nat} (e : allS u = some p) : ∀ {ds : List D}, InA ds u → ∃ xs : List Str, ds = xs.map .str ∧ ∀ x ∈ xs, p.1 ≤ x.length ∧ x.length ≤ p.2.1 ∧ inM p.2.2 x
 | _, .nil => ⟨[], rfl, fun _ h => by cases h⟩
 | _, .cons h1 h2 => by
  obtain ⟨x, rfl, hx⟩ := allS_ok e h1
  obtain ⟨xs, rfl, hxs⟩ := strs_ok e h2
  refine ⟨x :: xs, rfl, fun y hy => ?_⟩
  rcases List.mem_cons.mp hy with rfl | hy
  ·exact hx
  ·exact hxs y hy
theorem sum_bounds {l h : Nat} : ∀ {xs : List Str}, (∀ x ∈ xs, l ≤ x.length ∧ x.length ≤ h) → xs.length * l ≤ (xs.map (·.length)).sum ∧ (xs.map (·.length)).sum ≤ xs.length * h
 | [], _ => ⟨by simp, by simp⟩
 | x :: xs, hh => by
  have ih := sum_bounds (xs := xs) fun y hy => hh y (List.mem_cons_of_mem _ hy)
  have h0 := hh x (by simp)
  rw [List.map_cons, List.sum_cons, List.length_cons, Nat.add_mul, Nat.add_mul]
  omega
theorem join_parts {xs : List Str} : Txt.join "" xs = ⟨(xs.map (·.cps.toList)).flatten.toArray⟩ := by
 have e : (Str.ofString "").cps = #[] := by decide +kernel
 have key : ∀ (xs : List Str) (acc : Array Nat), xs.foldl (fun acc p => acc ++ (Str.ofString "").cps ++ p.cps) acc = acc ++ (xs.map (·.cps.toList)).flatten.toArray := by
  intro xs
  induction xs with
  | nil => intro acc; simp
  | cons x xs ih =>
   intro acc
   rw [List.foldl_cons, ih, e, List.map_cons, List.flatten_cons, ← List.append_toArray]
   simp
 show (⟨(xs.drop 1).foldl (fun acc p => acc ++ (Str.ofString "").cps ++ p.cps) (xs.headD Str.empty).cps⟩ : Str) = _
 cases xs with
 | nil => rfl
 | cons x xs =>
  rw [List.drop_succ_cons, List.drop_zero, List.headD_cons, key, List.map_cons, List.flatten_cons, ← List.append_toArray]
noncomputable def aMt : Mt → A → List A → Option A
 | .join, .cs x, [a] => if x.length = 0 then (match toL a with
  | some p => (match allS p.1 with
   | some q => if p.2.2 * q.2.1 ≤ 16777216 then some (.str (p.2.1 * q.1) (p.2.2 * q.2.1) q.2.2) else none
   | none => none)
  | none => none) else none
 | .starts, a, [b] => (match toS a, toS b with
  | some _, some _ => some (.bl none)
  | _, _ => none)
 | _, _, _ => none
theorem aMt_ok {m : Mt} {o : A} {as : List A} {c : A} {x : D} {ds : List D} (e : aMt m o as = some c) (hx : In x o) (h : Inl ds as) : isStrD x = true ∧ Wp (opMt m x ds) fun d => In d c := by
 unfold aMt at e
 split at e
 ·rename_i z a
  cases hx
  refine ⟨rfl, ?_⟩
  cases h with
  | cons hy h0 =>
   cases h0
   split at e
   ·rename_i hz
    have hz' : z = "" := by
     apply str_ext
     have : z.cps.toList.length = 0 := by simpa [Str.length] using hz
     rw [List.eq_nil_of_length_eq_zero this]
     decide +kernel
    subst hz'
    split at e
    ·rename_i p hp
     obtain ⟨o, ds, rfl, a1, a2, a3⟩ := toL_ok hp hy
     split at e
     ·rename_i q hq
      obtain ⟨xs, rfl, hxs⟩ := strs_ok hq a3
      split at e
      ·rename_i hb
       cases e
       have sb := sum_bounds (l := q.1) (h := q.2.1) fun x hx => ⟨(hxs x hx).1, (hxs x hx).2.1⟩
       rw [List.length_map] at a1 a2
       have m1 : p.2.1 * q.1 ≤ xs.length * q.1 := Nat.mul_le_mul_right _ a1
       have m2 : xs.length * q.2.1 ≤ p.2.2 * q.2.1 := Nat.mul_le_mul_right _ a2
       have el : (Str.ofString "").length = 0 := by decide +kernel
       have hlen : ∀ ys : List Str, ((ys.map (·.cps.toList)).flatten).length = (ys.map (·.length)).sum := by
        intro ys
        induction ys with
        | nil => rfl
        | cons y ys ih => rw [List.map_cons, List.flatten_cons, List.length_append, ih, List.map_cons, List.sum_cons]; simp [Str.length]
       refine ⟨_, Ev.mt_join (by rw [el]; omega), ?_⟩
       rw [join_parts]
       refine .str ?_ ?_ fun c hc => ?_
       ·show _ ≤ ((xs.map (·.cps.toList)).flatten.toArray).size
        rw [List.size_toArray, hlen]; omega
       ·show ((xs.map (·.cps.toList)).flatten.toArray).size ≤ _
        rw [List.size_toArray, hlen]; omega
       ·have hc' : c ∈ (xs.map (·.cps.toList)).flatten := by simpa using hc
        obtain ⟨l, hl, hcl⟩ := List.mem_flatten.mp hc'
        obtain ⟨x, hx, rfl⟩ := List.mem_map.mp hl
        exact (hxs x hx).2.2 c hcl
      ·first | exact no_n e | cases e
     ·first | exact no_n e | cases e
    ·first | exact no_n e | cases e
   ·first | exact no_n e | cases e
 ·split at e
  ·rename_i p q hp hq
   cases e
   obtain ⟨y, rfl, _⟩ := toS_ok hp hx
   cases h with
   | cons hy h0 =>
    cases h0
    obtain ⟨z, rfl, _⟩ := toS_ok hq hy
    exact ⟨rfl, _, Ev.mt_starts, .bl _⟩
  ·first | exact no_n e | cases e
 ·first | exact no_n e | cases e
end Ab
end L2
namespace L2
open PySem PySem.Spec PyProof.Rows PySem.SeqAt
namespace Ab
noncomputable abbrev P := List (A × AE)
noncomputable def POk (p : P) (d : D) (τ : Ev) : Prop := ∃ q ∈ p, In d q.1 ∧ Gam τ q.2
noncomputable def bindP {β : Type} (f : A → AE → Option (List β)) : P → Option (List β)
 | [] => some []
 | q :: p => match f q.1 q.2, bindP f p with
  | some r, some s => some (r ++ s)
  | _, _ => none
theorem bindP_ok {β : Type} {f : A → AE → Option (List β)} : ∀ {p : P} {r : List β}, bindP f p = some r → ∀ {d : D} {τ : Ev}, POk p d τ → ∃ a E q, In d a ∧ Gam τ E ∧ f a E = some q ∧ ∀ x ∈ q, x ∈ r
 | [], r, e, d, τ, ⟨q, hq, _⟩ => by cases hq
 | q :: p, r, e, d, τ, ⟨q', hq, h1, h2⟩ => by
  unfold bindP at e
  split at e
  ·rename_i r' s e1 e2
   cases e
   rcases List.mem_cons.mp hq with rfl | hq
   ·exact ⟨_, _, _, h1, h2, e1, fun x hx => List.mem_append_left _ hx⟩
   ·obtain ⟨a, E, t, h3, h4, h5, h6⟩ := bindP_ok e2 ⟨q', hq, h1, h2⟩
    exact ⟨a, E, t, h3, h4, h5, fun x hx => List.mem_append_right _ (h6 x hx)⟩
  ·first | exact no_n e | cases e
theorem POk.sub {p r : P} {d : D} {τ : Ev} (h : POk p d τ) (s : ∀ x ∈ p, x ∈ r) : POk r d τ := by
 obtain ⟨q, hq, h⟩ := h
 exact ⟨q, s q hq, h⟩
noncomputable abbrev Ps := List (List A × AE)
noncomputable def PsOk (p : Ps) (ds : List D) (τ : Ev) : Prop := ∃ q ∈ p, Inl ds q.1 ∧ Gam τ q.2
noncomputable def bindPs {β : Type} (f : List A → AE → Option (List β)) : Ps → Option (List β)
 | [] => some []
 | q :: p => match f q.1 q.2, bindPs f p with
  | some r, some s => some (r ++ s)
  | _, _ => none
theorem bindPs_ok {β : Type} {f : List A → AE → Option (List β)} : ∀ {p : Ps} {r : List β}, bindPs f p = some r → ∀ {ds : List D} {τ : Ev}, PsOk p ds τ → ∃ as E q, Inl ds as ∧ Gam τ E ∧ f as E = some q ∧ ∀ x ∈ q, x ∈ r
 | [], r, e, d, τ, ⟨q, hq, _⟩ => by cases hq
 | q :: p, r, e, d, τ, ⟨q', hq, h1, h2⟩ => by
  unfold bindPs at e
  split at e
  ·rename_i r' s e1 e2
   cases e
   rcases List.mem_cons.mp hq with rfl | hq
   ·exact ⟨_, _, _, h1, h2, e1, fun x hx => List.mem_append_left _ hx⟩
   ·obtain ⟨a, E, t, h3, h4, h5, h6⟩ := bindPs_ok e2 ⟨q', hq, h1, h2⟩
    exact ⟨a, E, t, h3, h4, h5, fun x hx => List.mem_append_right _ (h6 x hx)⟩
  ·first | exact no_n e | cases e
theorem inl_ins : ∀ {ds : List D} {as : List A}, Inl ds as → Ins ds (as.map fun a => [a])
 | _, _, .nil => .nil
 | _, _, .cons h1 h2 => .cons (.hd h1) (inl_ins h2)
theorem inl_len : ∀ {ds : List D} {as : List A}, Inl ds as → ds.length = as.length
 | _, _, .nil => rfl
 | _, _, .cons _ h => by rw [List.length_cons, List.length_cons, inl_len h]
theorem inl_er : ∀ {ds : List D} {as : List A}, Inl ds as → Inl (ers ds) (as.map era)
 | _, _, .nil => by rw [ers]; exact .nil
 | _, _, .cons h1 h2 => by rw [ers]; exact .cons (er_in h1) (inl_er h2)
noncomputable def ofC : Nat → D → Option A
 | 0, _ => none
 | n + 1, d => match d with
  | .tup ds => (ofCs (ofC n) ds).map .tup
  | .lst o ds => (ofCs (ofC n) ds).map (.ls o)
  | d => ofD d
where ofCs (f : D → Option A) : List D → Option (List U)
 | [] => some []
 | d :: ds => match f d, ofCs f ds with
  | some a, some us => some ([a] :: us)
  | _, _ => none
theorem ofCs_ok {f : D → Option A} (hf : ∀ d a, f d = some a → In d a) : ∀ {ds : List D} {us : List U}, ofC.ofCs f ds = some us → Ins ds us
 | [], us, e => by cases e; exact .nil
 | d :: ds, us, e => by
  unfold ofC.ofCs at e
  split at e
  ·rename_i a us' e1 e2
   cases e
   exact .cons (.hd (hf _ _ e1)) (ofCs_ok hf e2)
  ·first | exact no_n e | cases e
theorem ofC_ok : ∀ {n : Nat} {d : D} {a : A}, ofC n d = some a → In d a
 | n + 1, d, a, e => by
  unfold ofC at e
  split at e
  ·obtain ⟨us, h, rfl⟩ := Option.map_eq_some_iff.mp e
   exact .tup (ofCs_ok (fun _ _ h => ofC_ok h) h)
  ·obtain ⟨us, h, rfl⟩ := Option.map_eq_some_iff.mp e
   exact .ls (fun z => z) (ofCs_ok (fun _ _ h => ofC_ok h) h)
  ·exact ofD_ok e
noncomputable def fal (a : A) : List A := match aTru a with
 | some (some true) => []
 | _ => match a with
  | .bl _ => [.bl (some false)]
  | a => [a]
noncomputable def tru (a : A) : List A := match aTru a with
 | some (some false) => []
 | _ => match a with
  | .bl _ => [.bl (some true)]
  | a => [a]
theorem fal_ok {a : A} {d : D} {r : Option Bool} (e : aTru a = some r) (h : In d a) (hf : truD d = .ok false) : ∃ b ∈ fal a, In d b := by
 obtain ⟨z, hz, hb⟩ := aTru_ok e h
 have : z = false := by rw [hf] at hz; exact (Except.ok.inj hz).symm
 subst this
 unfold fal
 split
 ·rename_i h'
  rw [e] at h'
  have := hb true (Option.some.inj h')
  cases this
 ·split
  ·cases h with
   | bl b =>
    cases b
    ·exact ⟨_, by simp, .blc _⟩
    ·cases hf
   | blc b =>
    cases b
    ·exact ⟨_, by simp, .blc _⟩
    ·cases hf
  ·exact ⟨a, by simp, h⟩
theorem tru_ok {a : A} {d : D} {r : Option Bool} (e : aTru a = some r) (h : In d a) (hf : truD d = .ok true) : ∃ b ∈ tru a, In d b := by
 obtain ⟨z, hz, hb⟩ := aTru_ok e h
 have : z = true := by rw [hf] at hz; exact (Except.ok.inj hz).symm
 subst this
 unfold tru
 split
 ·rename_i h'
  rw [e] at h'
  have := hb false (Option.some.inj h')
  cases this
 ·split
  ·cases h with
   | bl b =>
    cases b
    ·cases hf
    ·exact ⟨_, by simp, .blc _⟩
   | blc b =>
    cases b
    ·cases hf
    ·exact ⟨_, by simp, .blc _⟩
  ·exact ⟨a, by simp, h⟩
noncomputable def isV : IR → Option Nat
 | .v k => some k
 | _ => none
theorem isV_ok {a : IR} {k : Nat} (h : isV a = some k) : a = .v k := by
 cases a with
 | v i => cases h; rfl
 | _ => cases h
noncomputable def isNil : IR → Bool
 | .lst es => es.isEmpty
 | _ => false
noncomputable def eqOp : COp → Option Bool
 | .eq => some true
 | .ne => some false
 | _ => none
noncomputable def lst0 : A → Option (Bool × U × Nat)
 | .lst o u l h => if l = 0 then some (o, u, h) else none
 | _ => none
theorem isNil_ok {a : IR} (h : isNil a = true) : a = .lst [] := by
 cases a with
 | lst es =>
  cases es with
  | nil => rfl
  | cons _ _ => cases h
 | _ => cases h
theorem lst0_ok {a : A} {o : Bool} {u : U} {h : Nat} (e : lst0 a = some (o, u, h)) : a = .lst o u 0 h := by
 cases a with
 | lst o' u' l h' =>
  have e : (if l = 0 then some (o', u', h') else none) = some (o, u, h) := e
  by_cases z : l = 0
  ·rw [if_pos z] at e
   cases e
   rw [z]
  ·rw [if_neg z] at e; cases e
 | _ => cases e
noncomputable def refE (op : COp) (a b : IR) (E : AE) : Option P := (eqOp op).bind fun t => (isV a).bind fun i => if isNil b = true then ((slotA E i).bind lst0).bind fun q =>
  if q.2.2 = 0 then none else some [(.bl (some t), E.set i (some (.lst q.1 q.2.1 0 0))), (.bl (some !t), E.set i (some (.lst q.1 q.2.1 1 q.2.2)))] else none
theorem refE_ok {cl : Nat → List D → Res D} {op : COp} {a b : IR} {E : AE} {p : P} {τ : Ev} (e : refE op a b E = some p) (g : Gam τ E) : Wp (evR cl (.cmp op a b) τ) fun d => POk p d τ := by
 have main : ∀ (i : Nat) (o : Bool) (u : U) (h : Nat), slotA E i = some (.lst o u 0 h) → ∃ (o' : Bool) (ds : List D), slotD τ i = some (.lst o' ds) ∧ eqN 40 (.lst o' ds) (.lst true []) = .ok (decide (ds.length = 0)) ∧ (ds.length = 0 → Gam τ (E.set i (some (.lst o u 0 0)))) ∧ (ds.length ≠ 0 → Gam τ (E.set i (some (.lst o u 1 h)))) := by
  intro i o u h hs
  obtain ⟨d, hd, hin⟩ := g.get hs
  cases hin with
  | @lst _ o' ds _ _ _ h1 h2 h3 h4 =>
   refine ⟨o', ds, hd, ?_, fun z => g.setA i fun a ha => ?_, fun z => g.setA i fun a ha => ?_⟩
   ·rw [Ev.e_ll, eqs_nil (o := o) (o' := o) (.inr rfl)]
    simp
   ·cases ha
    exact ⟨_, hd, .lst h1 (Nat.zero_le _) (by omega) h4⟩
   ·cases ha
    exact ⟨_, hd, .lst h1 (by omega) h3 h4⟩
 have hsz : szOk ([] : List D).length = true := Ev.szOk_t (by decide)
 unfold refE at e
 obtain ⟨t, ht, e1⟩ := Option.bind_eq_some_iff.mp e
 obtain ⟨i, hi, e2⟩ := Option.bind_eq_some_iff.mp e1
 clear e e1
 have hi := isV_ok hi
 subst hi
 have e := e2
 clear e2
 by_cases hb : isNil b = true
 ·rw [if_pos hb] at e
  have hb := isNil_ok hb
  subst hb
  obtain ⟨⟨o, u, h⟩, hq, e⟩ := Option.bind_eq_some_iff.mp e
  obtain ⟨a, hs, ha⟩ := Option.bind_eq_some_iff.mp hq
  have ha := lst0_ok ha
  subst ha
  dsimp only at e
  by_cases hz : h = 0
  ·rw [if_pos hz] at e; cases e
  ·rw [if_neg hz] at e
   cases e
   obtain ⟨o', ds, h1, h2, h3, h4⟩ := main i o u h hs
   have l0 : evR cl (.lst []) τ = .ok (.lst true []) := by
    rw [Ev.r_lst, Ev.rs_n, Ev.bnd_k, Ev.lstK_k, hsz, Ev.grd_t]
   have ev : evR cl (.cmp op (.v i) (.lst [])) τ = .ok (.bl (t == decide (ds.length = 0))) := by
    rw [Ev.r_cmp, Ev.r_v, h1, Ev.bnd_k, Ev.cmpK_k, l0, Ev.bnd_k, Ev.cmpK2_k]
    cases op with
    | eq =>
     cases ht
     rw [Ev.c_eq, h2]
     cases decide (ds.length = 0) <;> rfl
    | ne =>
     cases ht
     rw [Ev.c_ne, h2]
     cases decide (ds.length = 0) <;> rfl
    | _ => cases ht
   refine ⟨_, ev, ?_⟩
   by_cases z : ds.length = 0
   ·rw [decide_eq_true z, show (t == true) = t by cases t <;> rfl]; exact ⟨_, List.mem_cons_self .., .blc _, h3 z⟩
   ·rw [decide_eq_false z, show (t == false) = !t by cases t <;> rfl]; exact ⟨_, List.mem_cons_of_mem _ (List.mem_cons_self ..), .blc _, h4 z⟩
 ·rw [if_neg hb] at e; cases e
noncomputable def lenOf : IR → Option Nat
 | .bi f es => (match f, es with
  | .len, [a] => isV a
  | _, _ => none)
 | _ => none
noncomputable def modOf : IR → Option IR
 | .bin op _ b => (match op with
  | .mod => some b
  | _ => none)
 | _ => none
noncomputable def modLen (a i : IR) : Bool := match isV a, (modOf i).bind lenOf with
 | some k, some k' => k == k'
 | _, _ => false
theorem lenOf_ok {a : IR} {k : Nat} (h : lenOf a = some k) : a = .bi .len [.v k] := by
 cases a with
 | bi f es =>
  cases f with
  | len =>
   rcases es with _ | ⟨b, _ | ⟨c, r⟩⟩
   ·cases h
   ·rw [isV_ok (show isV b = some k from h)]
   ·cases h
  | _ => cases h
 | _ => cases h
theorem modOf_ok {a b : IR} (h : modOf a = some b) : ∃ z, a = .bin .mod z b := by
 cases a with
 | bin op x y =>
  cases op with
  | mod => cases h; exact ⟨x, rfl⟩
  | _ => cases h
 | _ => cases h
noncomputable def elemsOf : A → Option U
 | .ls _ us => if 0 < us.length then some us.flatten else none
 | .lst _ u l _ => if 0 < l then some u else none
 | a => match toS a with
  | some p => if 0 < p.1 ∧ p.2.1 ≤ 16777216 then some [.str 1 1 p.2.2] else none
  | none => none
noncomputable def lenD : D → Nat
 | .lst _ ds => ds.length
 | .str x => x.length
 | _ => 0
theorem elemsOf_ok {a : A} {u : U} {x : D} {i : Int} (e : elemsOf a = some u) (hx : In x a) (h0 : 0 ≤ i) (h1 : i < lenD x) : Wp (opIx x (.int i)) fun d => InU d u := by
 unfold elemsOf at e
 split at e
 ·split at e
  ·first | exact no_n e | cases e
   cases hx with
   | ls _ hs =>
    have h1' : i < ((_ : List D).length : Int) := h1
    obtain ⟨k, d, e1, e2, e3⟩ := atI_ex (xs := _) (i := i) (by omega) h1'
    exact ⟨d, by rw [Ev.x_l, e1], inA_iff.mp (ins_flat hs) d (List.mem_iff_getElem?.mpr ⟨k, e2⟩)⟩
  ·first | exact no_n e | cases e
 ·split at e
  ·first | exact no_n e | cases e
   cases hx with
   | lst _ _ _ hs =>
    have h1' : i < ((_ : List D).length : Int) := h1
    obtain ⟨k, d, e1, e2, e3⟩ := atI_ex (xs := _) (i := i) (by omega) h1'
    exact ⟨d, by rw [Ev.x_l, e1], inA_iff.mp hs d (List.mem_iff_getElem?.mpr ⟨k, e2⟩)⟩
  ·first | exact no_n e | cases e
 ·split at e
  ·rename_i p hp
   obtain ⟨x, rfl, a1, a2, a3⟩ := toS_ok hp hx
   split at e
   ·first | exact no_n e | cases e
    have hl : x.cps.toList.length = x.length := by simp [Str.length]
    have h1' : i < (x.length : Int) := h1
    obtain ⟨k, d, e1, e2, e3⟩ := atI_ex (xs := x.cps.toList) (i := i) (by omega) (by rw [hl]; exact h1')
    refine ⟨.str ⟨#[d]⟩, by rw [Ev.x_s, Ev.szOk_t (by omega), e1]; rfl, .hd (.str (Nat.le_refl 1) (Nat.le_refl 1) fun c hc => ?_)⟩
    rw [show c = d by simpa using hc]
    exact a3 d (List.mem_iff_getElem?.mpr ⟨k, e2⟩)
   ·first | exact no_n e | cases e
  ·first | exact no_n e | cases e
theorem lenD_len {x d : D} (h : opBi .len [x] = .ok d) : (∃ ds, x = .tup ds) ∨ d = .int (lenD x) := by
 cases x with
 | tup ds => exact .inl ⟨ds, rfl⟩
 | lst o ds => right; exact (Except.ok.inj h).symm
 | str y =>
  right
  have : grd (szOk y.length) (.ok (.int y.length)) = (.ok d : Res D) := h
  unfold grd at this
  split at this
  ·exact (Except.ok.inj this).symm
  ·cases this
 | non => cases h
 | bl b => cases h
 | int i => cases h
theorem modLen_ok {cl : Nat → List D → Res D} {a i : IR} {τ : Ev} {x y : D} (e : modLen a i = true) (ha : evR cl a τ = .ok x) (hi : evR cl i τ = .ok y) (hx : ∀ ds, x ≠ .tup ds) : ∃ j : Int, y = .int j ∧ 0 ≤ j ∧ j < lenD x := by
 unfold modLen at e
 cases h1 : isV a with
 | none => rw [h1] at e; cases e
 | some k =>
  cases h2 : (modOf i).bind lenOf with
  | none => rw [h1, h2] at e; cases e
  | some k' =>
  rw [h1, h2] at e
  have e := eq_of_beq (show (k == k') = true from e)
  subst e
  obtain ⟨b, h3, h4⟩ := Option.bind_eq_some_iff.mp h2
  have h4 := lenOf_ok h4
  subst h4
  obtain ⟨z, rfl⟩ := modOf_ok h3
  have h1 := isV_ok h1
  subst h1
  rw [Ev.r_bin] at hi
  cases hz : evR cl z τ with
  | error w => rw [hz] at hi; cases hi
  | ok zd =>
   rw [hz] at hi
   have hi : bnd (evR cl (.bi .len [.v k]) τ) (opB .mod zd) = .ok y := hi
   rw [Ev.r_bi, Ev.rs_c, ha] at hi
   have hi : bnd (opBi .len [x]) (opB .mod zd) = .ok y := hi
   cases hl : opBi .len [x] with
   | error w => rw [hl] at hi; cases hi
   | ok d =>
    rw [hl] at hi
    rcases lenD_len hl with ⟨ds, h⟩ | h
    ·exact absurd h (hx ds)
    ·subst h
     have hi : opB .mod zd (.int (lenD x)) = .ok y := hi
     cases zd with
     | int m =>
      rw [Ev.b_mod] at hi
      unfold grd at hi
      split at hi
      ·rename_i hh
       have := of_decide_eq_true hh
       cases hi
       exact ⟨_, rfl, Int.emod_nonneg _ (by omega), Int.emod_lt_of_pos _ this⟩
      ·cases hi
     | non => cases hi
     | bl _ => cases hi
     | str _ => cases hi
     | tup _ => cases hi
     | lst _ _ => cases hi
end Ab
end L2
namespace L2
open PySem PySem.Spec PyProof.Rows PySem.SeqAt
namespace Ab
noncomputable abbrev Cl := Nat → List A → Option U
noncomputable def bindL {β : Type} (f : A → Option (List β)) : U → Option (List β)
 | [] => some []
 | a :: u => match f a, bindL f u with
  | some r, some s => some (r ++ s)
  | _, _ => none
theorem bindL_ok {β : Type} {f : A → Option (List β)} : ∀ {u : U} {r : List β}, bindL f u = some r → ∀ {d : D}, InU d u → ∃ a q, In d a ∧ f a = some q ∧ ∀ x ∈ q, x ∈ r
 | a :: u, r, e, d, h => by
  unfold bindL at e
  split at e
  ·rename_i r' s e1 e2
   cases e
   cases h with
   | hd h => exact ⟨a, _, h, e1, fun x hx => List.mem_append_left _ hx⟩
   | tl h =>
    obtain ⟨b, q, h1, h2, h3⟩ := bindL_ok e2 h
    exact ⟨b, q, h1, h2, fun x hx => List.mem_append_right _ (h3 x hx)⟩
  ·first | exact no_n e | cases e
noncomputable def bindE {β : Type} (f : AE → Option (List β)) : List AE → Option (List β)
 | [] => some []
 | E :: es => match f E, bindE f es with
  | some r, some s => some (r ++ s)
  | _, _ => none
noncomputable def EOk (es : List AE) (τ : Ev) : Prop := ∃ E ∈ es, Gam τ E
theorem bindE_ok {β : Type} {f : AE → Option (List β)} : ∀ {es : List AE} {r : List β}, bindE f es = some r → ∀ {τ : Ev}, EOk es τ → ∃ E q, Gam τ E ∧ f E = some q ∧ ∀ x ∈ q, x ∈ r
 | [], r, e, τ, ⟨E, h, _⟩ => by cases h
 | E :: es, r, e, τ, ⟨E', h, g⟩ => by
  unfold bindE at e
  split at e
  ·rename_i r' s e1 e2
   cases e
   rcases List.mem_cons.mp h with rfl | h
   ·exact ⟨E', _, g, e1, fun x hx => List.mem_append_left _ hx⟩
   ·obtain ⟨b, q, h1, h2, h3⟩ := bindE_ok e2 ⟨E', h, g⟩
    exact ⟨b, q, h1, h2, fun x hx => List.mem_append_right _ (h3 x hx)⟩
  ·first | exact no_n e | cases e
theorem EOk.sub {p r : List AE} {τ : Ev} (h : EOk p τ) (s : ∀ x ∈ p, x ∈ r) : EOk r τ := by
 obtain ⟨q, hq, h⟩ := h
 exact ⟨q, s q hq, h⟩
mutual
noncomputable def setA : Tg → A → AE → Option (List AE)
 | .nm i, a, E => some [E.set i (some a)]
 | .tp ts, .tup us, E => if us.length = ts.length then setAs ts us E else none
 | .tp ts, .ls _ us, E => if us.length = ts.length then setAs ts us E else none
 | .tp _, _, _ => none
noncomputable def setAs : List Tg → List U → AE → Option (List AE)
 | [], [], E => some [E]
 | t :: ts, u :: us, E => bindL (fun a => (setA t a E).bind fun es => bindE (fun E' => setAs ts us E') es) u
 | _, _, _ => none
end
mutual
theorem setA_ok : ∀ (t : Tg) {a : A} {E : AE} {es : List AE} {d : D} {τ : Ev}, setA t a E = some es → In d a → Gam τ E → Wp (setT t d τ) fun τ' => EOk es τ'
 | .nm i, a, E, es, d, τ, e, h, g => by
  have e : some _ = some es := e
  cases e
  exact ⟨_, Ev.t_nm, _, List.mem_singleton.mpr rfl, g.set i (slOk_s h)⟩
 | .tp ts, a, E, es, d, τ, e, h, g => by
  cases h with
  | @tup _ us hs =>
   have e : (if us.length = ts.length then setAs ts us E else none) = some es := e
   split at e
   ·rename_i hl
    obtain ⟨τ', h1, h2⟩ := setAs_ok ts e hs g
    exact ⟨τ', by rw [Ev.t_tp, decide_eq_true (by rw [ins_len hs]; exact hl)]; exact h1, h2⟩
   ·first | exact no_n e | cases e
  | @ls _ _ _ us _ hs =>
   have e : (if us.length = ts.length then setAs ts us E else none) = some es := e
   split at e
   ·rename_i hl
    obtain ⟨τ', h1, h2⟩ := setAs_ok ts e hs g
    exact ⟨τ', by rw [Ev.t_tl, decide_eq_true (by rw [ins_len hs]; exact hl)]; exact h1, h2⟩
   ·first | exact no_n e | cases e
  | _ => exact no_n e
theorem setAs_ok : ∀ (ts : List Tg) {us : List U} {E : AE} {es : List AE} {ds : List D} {τ : Ev}, setAs ts us E = some es → Ins ds us → Gam τ E → Wp (setTs ts ds τ) fun τ' => EOk es τ'
 | [], us, E, es, ds, τ, e, h, g => by
  cases h with
  | nil => have e : some _ = some es := e; cases e; exact ⟨τ, Ev.ts'_n, _, List.mem_singleton.mpr rfl, g⟩
  | cons _ _ => exact no_n e
 | t :: ts, us, E, es, ds, τ, e, h, g => by
  cases h with
  | nil => exact no_n e
  | cons h1 h2 =>
   obtain ⟨a, q, ha, hq, hsub⟩ := bindL_ok e h1
   obtain ⟨es1, he1, he2⟩ := Option.bind_eq_some_iff.mp hq
   rw [Ev.ts'_c]
   refine .bnd (setA_ok t he1 ha g) fun τ1 g1 => ?_
   obtain ⟨E1, q1, g2, hq1, hs1⟩ := bindE_ok he2 g1
   exact (setAs_ok ts hq1 h2 g2).mono fun τ2 g3 => (g3.sub hs1).sub hsub
end
noncomputable def aNeg : A → Option A
 | .int l h => some (.int (h.map (- ·)) (l.map (- ·)))
 | _ => none
noncomputable def aChain (op op' : COp) (x y z : A) : Option A := match aC op x y, aC op' y z with
 | some r, some s => some (.bl (match r with
  | some false => some false
  | some true => s
  | none => none))
 | _, _ => none
noncomputable def aRev : A → Option A
 | .ls _ us => some (.ls true us.reverse)
 | .lst _ u l h => some (.lst true u l h)
 | _ => none
noncomputable def ivA : A → Option Iv
 | .int l h => some (l, h)
 | _ => none
noncomputable def hull : P → Option Iv
 | [] => none
 | [q] => ivA q.1
 | q :: p => (ivA q.1).bind fun v => (hull p).map fun w => (mLo v.1 w.1, mHi v.2 w.2)
theorem ivA_ok {a : A} {q : Iv} {d : D} (e : ivA a = some q) (h : In d a) : ∃ i, d = .int i ∧ loOk q.1 i ∧ hiOk q.2 i := by
 cases h with
 | int a b => cases e; exact ⟨_, rfl, a, b⟩
 | _ => exact no_n e
theorem lo_mL {a b : Option Int} {i : Int} (h : loOk a i) : loOk (mLo a b) i := by
 cases a <;> cases b <;> first | trivial | (show min _ _ ≤ i; have : _ ≤ i := h; omega)
theorem lo_mR {a b : Option Int} {i : Int} (h : loOk b i) : loOk (mLo a b) i := by
 cases a <;> cases b <;> first | trivial | (show min _ _ ≤ i; have : _ ≤ i := h; omega)
theorem hi_mL {a b : Option Int} {i : Int} (h : hiOk a i) : hiOk (mHi a b) i := by
 cases a <;> cases b <;> first | trivial | (show i ≤ max _ _; have : i ≤ _ := h; omega)
theorem hi_mR {a b : Option Int} {i : Int} (h : hiOk b i) : hiOk (mHi a b) i := by
 cases a <;> cases b <;> first | trivial | (show i ≤ max _ _; have : i ≤ _ := h; omega)
theorem hull_ok : ∀ {p : P} {q : Iv}, hull p = some q → ∀ {d : D} {τ : Ev}, POk p d τ → ∃ i, d = .int i ∧ loOk q.1 i ∧ hiOk q.2 i
 | [], q, e, d, τ, ⟨x, hx, _⟩ => by cases hx
 | [y], q, e, d, τ, ⟨x, hx, h1, _⟩ => by
  rw [List.mem_singleton.mp hx] at h1
  exact ivA_ok e h1
 | z :: y :: p, q, e, d, τ, ⟨x, hx, h1, h2⟩ => by
  obtain ⟨v, hv, e⟩ := Option.bind_eq_some_iff.mp e
  obtain ⟨q', hq, rfl⟩ := Option.map_eq_some_iff.mp e
  rcases List.mem_cons.mp hx with rfl | hx
  ·obtain ⟨i, rfl, a, b⟩ := ivA_ok hv h1
   exact ⟨_, rfl, lo_mL a, hi_mL b⟩
  ·obtain ⟨i, rfl, a, b⟩ := hull_ok hq ⟨x, hx, h1, h2⟩
   exact ⟨i, rfl, lo_mR a, hi_mR b⟩
noncomputable def itA : A → Option (U × Nat × Nat)
 | .tup us => some (us.flatten, us.length, us.length)
 | a => match toL a with
  | some p => some p
  | none => match toS a with
   | some p => if p.2.1 ≤ 16777216 then some ([.str 1 1 p.2.2], p.1, p.2.1) else none
   | none => none
theorem itA_ok {a : A} {p : U × Nat × Nat} {d : D} (e : itA a = some p) (h : In d a) : Wp (itemsD d) fun its => p.2.1 ≤ its.length ∧ its.length ≤ p.2.2 ∧ InA its p.1 := by
 unfold itA at e
 split at e
 ·cases h with
  | tup hs =>
   cases e
   have := ins_len hs
   exact .ok ⟨Nat.le_of_eq this.symm, Nat.le_of_eq this, ins_flat hs⟩
 ·split at e
  ·rename_i q hq
   cases e
   obtain ⟨o, ds, rfl, h1, h2, h3⟩ := toL_ok hq h
   exact .ok ⟨h1, h2, h3⟩
  ·split at e
   ·rename_i q hq
    obtain ⟨x, rfl, h1, h2, h3⟩ := toS_ok hq h
    split at e
    ·first | exact no_n e | cases e
     have hl : (charsD x).length = x.length := by unfold charsD; rw [List.length_map]; simp [Str.length]
     refine ⟨charsD x, by rw [Ev.it_s, Ev.szOk_t (by omega)]; rfl, by rw [hl]; exact h1, by rw [hl]; exact h2, inA_iff.mpr fun d hd => ?_⟩
     unfold charsD at hd
     obtain ⟨c, hc, rfl⟩ := List.mem_map.mp hd
     refine .hd (.str (Nat.le_refl 1) (Nat.le_refl 1) fun c' hc' => ?_)
     rw [show c' = c by simpa using hc']
     exact h3 c hc
    ·first | exact no_n e | cases e
   ·first | exact no_n e | cases e
noncomputable def itP (f : A → Option (U × Nat × Nat)) : P → Option (U × Nat × Nat)
 | [] => none
 | [q] => f q.1
 | q :: p => match f q.1, itP f p with
  | some r, some s => some (r.1 ++ s.1, min r.2.1 s.2.1, max r.2.2 s.2.2)
  | _, _ => none
theorem itP_ok {f : A → Option (U × Nat × Nat)} {X : D → Res (List D)} (hf : ∀ {a : A} {p : U × Nat × Nat} {d : D}, f a = some p → In d a → Wp (X d) fun its => p.2.1 ≤ its.length ∧ its.length ≤ p.2.2 ∧ InA its p.1) :
  ∀ {p : P} {r : U × Nat × Nat}, itP f p = some r → ∀ {d : D} {τ : Ev}, POk p d τ → Wp (X d) fun its => r.2.1 ≤ its.length ∧ its.length ≤ r.2.2 ∧ InA its r.1
 | [], r, e, d, τ, ⟨x, hx, _⟩ => by cases hx
 | [q], r, e, d, τ, ⟨x, hx, h1, _⟩ => by
  rw [List.mem_singleton.mp hx] at h1
  exact hf e h1
 | q :: y :: p, r, e, d, τ, ⟨x, hx, h1, h2⟩ => by
  unfold itP at e
  split at e
  ·rename_i r' s e1 e2
   cases e
   rcases List.mem_cons.mp hx with rfl | hx
   ·refine (hf e1 h1).mono fun its hh => ⟨by have := hh.1; show min _ _ ≤ _; omega, by have := hh.2.1; show _ ≤ max _ _; omega, inA_iff.mpr fun d hd => inU_sub (inA_iff.mp hh.2.2 d hd) fun a ha => List.mem_append_left _ ha⟩
   ·refine (itP_ok hf e2 ⟨x, hx, h1, h2⟩).mono fun its hh => ⟨by have := hh.1; show min _ _ ≤ _; omega, by have := hh.2.1; show _ ≤ max _ _; omega, inA_iff.mpr fun d hd => inU_sub (inA_iff.mp hh.2.2 d hd) fun a ha => List.mem_append_right _ ha⟩
  ·first | exact no_n e | cases e
noncomputable def rev2D : D → Res (List D)
 | .lst _ ds => .ok ds.reverse
 | _ => stk
noncomputable def orP : Option P → Option P → Option P
 | some p, _ => some p
 | none, x => x
theorem orP_ok {o x : Option P} {p : P} (h : orP o x = some p) : o = some p ∨ x = some p := by
 cases o with
 | some q => exact .inl h
 | none => exact .inr h
mutual
noncomputable def aR (cl : Cl) : IR → AE → Option P
 | .c d, E => (ofC 6 d).map fun a => [(a, E)]
 | .g _ d, E => (ofC 6 d).map fun a => [(a, E)]
 | .v i, E => (slotA E i).map fun a => [(a, E)]
 | .bin op a b, E => (aR cl a E).bind fun p => bindP (fun x E1 => (aR cl b E1).bind fun q => bindP (fun y E2 => (aB op x y).map fun c => [(c, E2)]) q) p
 | .neg a, E => (aR cl a E).bind fun p => bindP (fun x E1 => (aNeg x).map fun c => [(c, E1)]) p
 | .cmp op a b, E => orP (refE op a b E) ((aR cl a E).bind fun p => bindP (fun x E1 => (aR cl b E1).bind fun q => bindP (fun y E2 => (aC op x y).map fun c => [(.bl c, E2)]) q) p)
 | .chain op op' a b c, E => (aR cl a E).bind fun p => bindP (fun x E1 => (aR cl b E1).bind fun q => bindP (fun y E2 => (aR cl c E2).bind fun r => bindP (fun z E3 => (aChain op op' x y z).map fun c => [(c, E3)]) r) q) p
 | .and_ a b, E => (aR cl a E).bind fun p => bindP (fun x E1 => match aTru x with
  | some (some true) => aR cl b E1
  | some (some false) => some ((fal x).map fun y => (y, E1))
  | some none => (aR cl b E1).map fun q => q ++ (fal x).map fun y => (y, E1)
  | none => none) p
 | .or_ a b, E => (aR cl a E).bind fun p => bindP (fun x E1 => match aTru x with
  | some (some false) => aR cl b E1
  | some (some true) => some ((tru x).map fun y => (y, E1))
  | some none => (aR cl b E1).map fun q => q ++ (tru x).map fun y => (y, E1)
  | none => none) p
 | .not_ a, E => (aR cl a E).bind fun p => bindP (fun x E1 => (aTru x).map fun r => [(.bl (nB r), E1)]) p
 | .ite t a b, E => (aR cl t E).bind fun p => bindP (fun x E1 => match aTru x with
  | some (some true) => aR cl a E1
  | some (some false) => aR cl b E1
  | some none => match aR cl a E1, aR cl b E1 with
   | some q, some r => some (q ++ r)
   | _, _ => none
  | none => none) p
 | .tup es, E => (aRs cl es E).bind fun p => bindPs (fun as E1 => if as.length ≤ 16777216 then some [(.tup (as.map fun a => [a]), E1)] else none) p
 | .lst es, E => (aRs cl es E).bind fun p => bindPs (fun as E1 => if as.length ≤ 16777216 then some [(.ls true (as.map fun a => [a]), E1)] else none) p
 | .idx a i, E => (aR cl a E).bind fun p => bindP (fun x E1 => (aR cl i E1).bind fun q => bindP (fun y E2 => match aIx x y with
  | some u => some (u.map fun c => (c, E2))
  | none => if modLen a i then (elemsOf x).map fun u => u.map fun c => (c, E2) else none) q) p
 | .sl a lo hi, E => (aR cl a E).bind fun p => bindP (fun x E1 => (aRO cl lo E1).bind fun l => (aRO cl hi E1).bind fun h => (aSl x l h).map fun c => [(c, E1)]) p
 | .call f es, E => (aRs cl es E).bind fun p => bindPs (fun as E1 => (cl f (as.map era)).map fun u => u.map fun c => (c, E1)) p
 | .bi f es, E => (aRs cl es E).bind fun p => bindPs (fun as E1 => (aBi f as).map fun c => [(c, E1)]) p
 | .isi a k, E => (aR cl a E).bind fun p => bindP (fun x E1 => some [(.bl (some (aIsi k x)), E1)]) p
 | .lrev a, E => (aR cl a E).bind fun p => bindP (fun x E1 => (aRev x).map fun c => [(c, E1)]) p
 | .mth m o es, E => (aR cl o E).bind fun p => bindP (fun x E1 => (aRs cl es E1).bind fun q => bindPs (fun as E2 => (aMt m x as).map fun c => [(c, E2)]) q) p
 | .comp G fr tg src ifs elt, E => (aSr cl src E).bind fun s => if s.2.2 < 16777216 then
   (bindL (fun a => (setA tg a (fr.map (slotA E) ++ List.replicate (G.N.length - fr.length) none)).bind fun es => bindE (fun E1 => (aTs cl ifs E1).bind fun es2 => bindE (fun E2 => (aR cl elt E2).map fun q => q.map (·.1)) es2) es) s.1).map fun u => [(.lst true (nor u) (if ifs.isEmpty then s.2.1 else 0) s.2.2, E)]
  else none
noncomputable def aRs (cl : Cl) : List IR → AE → Option Ps
 | [], E => some [([], E)]
 | e :: es, E => (aR cl e E).bind fun p => bindP (fun x E1 => (aRs cl es E1).bind fun q => bindPs (fun as E2 => some [(x :: as, E2)]) q) p
noncomputable def aRO (cl : Cl) : Option IR → AE → Option (Option Iv)
 | none, _ => some none
 | some e, E => (aR cl e E).bind fun p => (hull p).map some
noncomputable def aTs (cl : Cl) : List IR → AE → Option (List AE)
 | [], E => some [E]
 | e :: es, E => (aR cl e E).bind fun p => bindP (fun x E1 => match aTru x with
  | some (some false) => some []
  | some _ => aTs cl es E1
  | none => none) p
noncomputable def aSr (cl : Cl) : Sr → AE → Option (U × Nat × Nat)
 | .rng1 n, E => (aR cl n E).bind fun p => (hull p).bind fun q => match q with
  | (some l, some h) => if -4611686018427387904 ≤ l ∧ h < 4611686018427387904 then some ([.int (some 0) (some (h - 1))], l.toNat, h.toNat) else none
  | _ => none
 | .rng2 a b, E => (aR cl a E).bind fun p => (hull p).bind fun q => (aR cl b E).bind fun p' => (hull p').bind fun q' => match q, q' with
  | (some l, some h), (some l', some h') => if -4611686018427387904 ≤ l ∧ h < 4611686018427387904 ∧ -4611686018427387904 ≤ l' ∧ h' < 4611686018427387904 then some ([.int (some l) (some (h' - 1))], (l' - h).toNat, (h' - l).toNat) else none
  | _, _ => none
 | .val e, E => (aR cl e E).bind fun p => itP itA p
 | .rev e, E => (aR cl e E).bind fun p => itP toL p
end
end Ab
end L2
namespace L2
open PySem PySem.Spec PyProof.Rows PySem.SeqAt
namespace Ab
noncomputable def ClOk (cl : Nat → List D → Res D) (acl : Cl) : Prop := ∀ (f : Nat) (as : List A) (u : U), acl f as = some u → ∀ ds, Inl ds as → Wp (cl f ds) fun d => InU d u
theorem pok1 {a : A} {E : AE} {d : D} {τ : Ev} (h : In d a) (g : Gam τ E) : POk [(a, E)] d τ := ⟨_, List.mem_singleton.mpr rfl, h, g⟩
theorem pokU {u : U} {E : AE} {d : D} {τ : Ev} (h : InU d u) (g : Gam τ E) : POk (u.map fun c => (c, E)) d τ := by
 obtain ⟨a, ha, h⟩ := inU_iff.mp h
 exact ⟨(a, E), List.mem_map.mpr ⟨a, ha, rfl⟩, h, g⟩
theorem pokF {l : List A} {E : AE} {d : D} {τ : Ev} (h : ∃ b ∈ l, In d b) (g : Gam τ E) : POk (l.map fun y => (y, E)) d τ := by
 obtain ⟨a, ha, h⟩ := h
 exact ⟨(a, E), List.mem_map.mpr ⟨a, ha, rfl⟩, h, g⟩
theorem pokL {p q : P} {d : D} {τ : Ev} (h : POk p d τ) : POk (p ++ q) d τ := h.sub fun _ hx => List.mem_append_left _ hx
theorem pokR {p q : P} {d : D} {τ : Ev} (h : POk q d τ) : POk (p ++ q) d τ := h.sub fun _ hx => List.mem_append_right _ hx
theorem rng_in {a b : Int} {u : U} (h : ∀ i : Int, a ≤ i → i < b → InU (.int i) u) : InA (rngD a b) u := by
 rw [inA_iff]
 intro d hd
 unfold rngD at hd
 obtain ⟨k, hk, rfl⟩ := List.mem_map.mp hd
 have := List.mem_range.mp hk
 exact h _ (by omega) (by omega)
theorem fr_gam {τ : Ev} {E : AE} (g : Gam τ E) : ∀ fr : List Nat, Gam (fr.map (slotD τ)) (fr.map (slotA E))
 | [] => .nil
 | i :: fr => .cons (fun a ha => g.get ha) (fr_gam g fr)
theorem fmap_wp {g : D → Res (Option D)} {u v : U} {all : Bool} (hg : ∀ d, InU d u → Wp (g d) fun o => (all = true → o ≠ none) ∧ ∀ d', o = some d' → InU d' v) :
  ∀ {its : List D}, InA its u → Wp (fmapM g its) fun ds => (all = true → ds.length = its.length) ∧ ds.length ≤ its.length ∧ InA ds v
 | _, .nil => .ok ⟨fun _ => rfl, Nat.le_refl _, .nil⟩
 | _, .cons h1 h2 => by
  obtain ⟨o, ho, ha, hv⟩ := hg _ h1
  obtain ⟨ds, hd, e1, e2, e3⟩ := fmap_wp hg h2
  cases o with
  | none =>
   refine ⟨ds, by show bnd (g _) _ = _; rw [ho]; exact hd, fun z => absurd rfl (ha z), by rw [List.length_cons]; omega, e3⟩
  | some d =>
   refine ⟨d :: ds, by show bnd (g _) _ = _; rw [ho]; show bnd (fmapM g _) _ = _; rw [hd]; rfl, fun z => by rw [List.length_cons, List.length_cons, e1 z], by rw [List.length_cons, List.length_cons]; omega, .cons (hv d rfl) e3⟩
theorem neg_lo {h : Option Int} {i : Int} (h2 : hiOk h i) : loOk (h.map (- ·)) (-i) := by
 cases h with
 | none => trivial
 | some h => exact Int.neg_le_neg h2
theorem neg_hi {h : Option Int} {i : Int} (h2 : loOk h i) : hiOk (h.map (- ·)) (-i) := by
 cases h with
 | none => trivial
 | some h => exact Int.neg_le_neg h2
theorem ins_rev : ∀ {ds : List D} {us : List U}, Ins ds us → Ins ds.reverse us.reverse
 | _, _, .nil => .nil
 | _, _, .cons h1 h2 => by rw [List.reverse_cons, List.reverse_cons]; exact ins_app (ins_rev h2) (.cons h1 .nil)
set_option maxRecDepth 100000 in
mutual
theorem aR_ok {cl : Nat → List D → Res D} {acl : Cl} (hc : ClOk cl acl) : ∀ (e : IR) {E : AE} {p : P} {τ : Ev}, aR acl e E = some p → Gam τ E → Wp (evR cl e τ) fun d => POk p d τ
 | .c d, E, p, τ, e, g => by
  obtain ⟨a, ha, rfl⟩ := Option.map_eq_some_iff.mp e
  exact ⟨d, Ev.r_c, pok1 (ofC_ok ha) g⟩
 | .g _ d, E, p, τ, e, g => by
  obtain ⟨a, ha, rfl⟩ := Option.map_eq_some_iff.mp e
  exact ⟨d, Ev.r_g, pok1 (ofC_ok ha) g⟩
 | .v i, E, p, τ, e, g => by
  obtain ⟨a, ha, rfl⟩ := Option.map_eq_some_iff.mp e
  obtain ⟨d, hd, hin⟩ := g.get ha
  exact ⟨d, by rw [Ev.r_v, hd], pok1 hin g⟩
 | .bin op a b, E, p, τ, e, g => by
  obtain ⟨p1, e1, e2⟩ := Option.bind_eq_some_iff.mp e
  rw [Ev.r_bin]
  refine .bnd (aR_ok hc a e1 g) fun x hx => ?_
  obtain ⟨ax, E1, q, hxa, g1, eq1, s1⟩ := bindP_ok e2 hx
  obtain ⟨p2, e3, e4⟩ := Option.bind_eq_some_iff.mp eq1
  refine .bnd (aR_ok hc b e3 g1) fun y hy => ?_
  obtain ⟨ay, E2, q2, hya, g2, eq2, s2⟩ := bindP_ok e4 hy
  obtain ⟨c, ec, rfl⟩ := Option.map_eq_some_iff.mp eq2
  exact (aB_ok ec hxa hya).mono fun d hd => ((pok1 hd g2).sub s2).sub s1
 | .neg a, E, p, τ, e, g => by
  obtain ⟨p1, e1, e2⟩ := Option.bind_eq_some_iff.mp e
  rw [Ev.r_neg]
  refine .bnd (aR_ok hc a e1 g) fun x hx => ?_
  obtain ⟨ax, E1, q, hxa, g1, eq1, s1⟩ := bindP_ok e2 hx
  obtain ⟨c, ec, rfl⟩ := Option.map_eq_some_iff.mp eq1
  unfold aNeg at ec
  split at ec
  ·first | exact no_n ec | cases ec
   cases hxa with
   | @int i l h h1 h2 =>
    exact ⟨_, Ev.negD_i, (pok1 (.int (neg_lo h2) (neg_hi h1)) g1).sub s1⟩
  ·first | exact no_n ec | cases ec
 | .cmp op a b, E, p, τ, e, g => by
  rcases orP_ok e with e | e
  ·exact refE_ok e g
  ·obtain ⟨p1, e1, e2⟩ := Option.bind_eq_some_iff.mp e
   rw [Ev.r_cmp]
   refine .bnd (aR_ok hc a e1 g) fun x hx => ?_
   obtain ⟨ax, E1, q, hxa, g1, eq1, s1⟩ := bindP_ok e2 hx
   obtain ⟨p2, e3, e4⟩ := Option.bind_eq_some_iff.mp eq1
   refine .bnd (aR_ok hc b e3 g1) fun y hy => ?_
   obtain ⟨ay, E2, q2, hya, g2, eq2, s2⟩ := bindP_ok e4 hy
   obtain ⟨c, ec, rfl⟩ := Option.map_eq_some_iff.mp eq2
   refine .bnd (aC_ok ec hxa hya) fun r hr => .ok (((pok1 ?_ g2).sub s2).sub s1)
   cases c with
   | none => exact .bl r
   | some c => rw [hr c rfl]; exact .blc c
 | .chain op op' a b c, E, p, τ, e, g => by
  obtain ⟨p1, e1, e2⟩ := Option.bind_eq_some_iff.mp e
  rw [Ev.r_chain]
  refine .bnd (aR_ok hc a e1 g) fun x hx => ?_
  obtain ⟨ax, E1, q, hxa, g1, eq1, s1⟩ := bindP_ok e2 hx
  obtain ⟨p2, e3, e4⟩ := Option.bind_eq_some_iff.mp eq1
  refine .bnd (aR_ok hc b e3 g1) fun y hy => ?_
  obtain ⟨ay, E2, q2, hya, g2, eq2, s2⟩ := bindP_ok e4 hy
  obtain ⟨p3, e5, e6⟩ := Option.bind_eq_some_iff.mp eq2
  obtain ⟨z, hz, hzp⟩ := aR_ok hc c e5 g2
  obtain ⟨az, E3, q3, hza, g3, eq3, s3⟩ := bindP_ok e6 hzp
  obtain ⟨cc, ec, rfl⟩ := Option.map_eq_some_iff.mp eq3
  unfold aChain at ec
  split at ec
  ·rename_i r s er es
   cases ec
   refine .bnd (aC_ok er hxa hya) fun br hr => ?_
   rw [Ev.chK3_k]
   cases br with
   | false =>
    rw [if_neg (by decide)]
    refine .ok ((((pok1 ?_ g3).sub s3).sub s2).sub s1)
    cases r with
    | none => exact .bl _
    | some c => have := hr c rfl; subst this; exact .blc _
   | true =>
    rw [if_pos rfl, hz, Ev.bnd_k, Ev.cmpK2_k]
    refine .bnd (aC_ok es hya hza) fun bs hs => .ok ((((pok1 ?_ g3).sub s3).sub s2).sub s1)
    cases r with
    | none => exact .bl _
    | some c =>
     have := hr c rfl; subst this
     show In (.bl bs) (.bl s)
     cases s with
     | none => exact .bl _
     | some s => rw [hs s rfl]; exact .blc _
  ·first | exact no_n ec | cases ec
 | .and_ a b, E, p, τ, e, g => by
  obtain ⟨p1, e1, e2⟩ := Option.bind_eq_some_iff.mp e
  rw [Ev.r_and]
  refine .bnd (aR_ok hc a e1 g) fun x hx => ?_
  obtain ⟨ax, E1, q, hxa, g1, eq1, s1⟩ := bindP_ok e2 hx
  rw [Ev.andK_k]
  split at eq1
  ·rename_i ht
   refine .bnd (aTru_ok ht hxa) fun r hr => ?_
   rw [Ev.andK2_k, hr true rfl, if_pos rfl]
   exact (aR_ok hc b eq1 g1).mono fun d hd => hd.sub s1
  ·rename_i ht
   obtain ⟨r, e3, hr⟩ := aTru_ok ht hxa
   rw [e3]
   have := hr false rfl; subst this
   refine ⟨x, rfl, ?_⟩
   cases eq1
   exact (pokF (fal_ok ht hxa e3) g1).sub s1
  ·rename_i ht
   obtain ⟨q', hq', rfl⟩ := Option.map_eq_some_iff.mp eq1
   obtain ⟨r, e3, hr⟩ := aTru_ok ht hxa
   rw [e3]
   cases r with
   | true => exact (aR_ok hc b hq' g1).mono fun d hd => (pokL hd).sub s1
   | false => exact ⟨x, rfl, (pokR (pokF (fal_ok ht hxa e3) g1)).sub s1⟩
  ·first | exact no_n eq1 | cases eq1
 | .or_ a b, E, p, τ, e, g => by
  obtain ⟨p1, e1, e2⟩ := Option.bind_eq_some_iff.mp e
  rw [Ev.r_or]
  refine .bnd (aR_ok hc a e1 g) fun x hx => ?_
  obtain ⟨ax, E1, q, hxa, g1, eq1, s1⟩ := bindP_ok e2 hx
  rw [Ev.orK_k]
  split at eq1
  ·rename_i ht
   refine .bnd (aTru_ok ht hxa) fun r hr => ?_
   rw [Ev.orK2_k, hr false rfl, if_neg (by decide)]
   exact (aR_ok hc b eq1 g1).mono fun d hd => hd.sub s1
  ·rename_i ht
   obtain ⟨r, e3, hr⟩ := aTru_ok ht hxa
   rw [e3]
   have := hr true rfl; subst this
   refine ⟨x, rfl, ?_⟩
   cases eq1
   exact (pokF (tru_ok ht hxa e3) g1).sub s1
  ·rename_i ht
   obtain ⟨q', hq', rfl⟩ := Option.map_eq_some_iff.mp eq1
   obtain ⟨r, e3, hr⟩ := aTru_ok ht hxa
   rw [e3]
   cases r with
   | false => exact (aR_ok hc b hq' g1).mono fun d hd => (pokL hd).sub s1
   | true => exact ⟨x, rfl, (pokR (pokF (tru_ok ht hxa e3) g1)).sub s1⟩
  ·first | exact no_n eq1 | cases eq1
 | .not_ a, E, p, τ, e, g => by
  obtain ⟨p1, e1, e2⟩ := Option.bind_eq_some_iff.mp e
  rw [Ev.r_not]
  refine .bnd (aR_ok hc a e1 g) fun x hx => ?_
  obtain ⟨ax, E1, q, hxa, g1, eq1, s1⟩ := bindP_ok e2 hx
  obtain ⟨r, hr, rfl⟩ := Option.map_eq_some_iff.mp eq1
  refine .bnd (aTru_ok hr hxa) fun b hb => .ok ((pok1 ?_ g1).sub s1)
  have := nB_ok hb
  cases hn : nB r with
  | none => exact .bl _
  | some c => rw [this c hn]; exact .blc _
 | .ite t a b, E, p, τ, e, g => by
  obtain ⟨p1, e1, e2⟩ := Option.bind_eq_some_iff.mp e
  rw [Ev.r_ite]
  refine .bnd (aR_ok hc t e1 g) fun x hx => ?_
  obtain ⟨ax, E1, q, hxa, g1, eq1, s1⟩ := bindP_ok e2 hx
  rw [Ev.iteK_k]
  split at eq1
  ·rename_i ht
   refine .bnd (aTru_ok ht hxa) fun r hr => ?_
   rw [Ev.iteK2_k, hr true rfl, if_pos rfl]
   exact (aR_ok hc a eq1 g1).mono fun d hd => hd.sub s1
  ·rename_i ht
   refine .bnd (aTru_ok ht hxa) fun r hr => ?_
   rw [Ev.iteK2_k, hr false rfl, if_neg (by decide)]
   exact (aR_ok hc b eq1 g1).mono fun d hd => hd.sub s1
  ·rename_i ht
   split at eq1
   ·rename_i q' r' h1 h2
    cases eq1
    refine .bnd (aTru_ok ht hxa) fun r hr => ?_
    rw [Ev.iteK2_k]
    cases r with
    | true => rw [if_pos rfl]; exact (aR_ok hc a h1 g1).mono fun d hd => (pokL hd).sub s1
    | false => rw [if_neg (by decide)]; exact (aR_ok hc b h2 g1).mono fun d hd => (pokR hd).sub s1
   ·first | exact no_n eq1 | cases eq1
  ·first | exact no_n eq1 | cases eq1
 | .tup es, E, p, τ, e, g => by
  obtain ⟨p1, e1, e2⟩ := Option.bind_eq_some_iff.mp e
  rw [Ev.r_tup]
  refine .bnd (aRs_ok hc es e1 g) fun ds hds => ?_
  obtain ⟨as, E1, q, hl, g1, eq1, s1⟩ := bindPs_ok e2 hds
  split at eq1
  ·first | exact no_n eq1 | cases eq1
   refine ⟨.tup ds, by rw [Ev.tupK_k, Ev.szOk_t (by rw [inl_len hl]; assumption)]; rfl, (pok1 (.tup (inl_ins hl)) g1).sub s1⟩
  ·first | exact no_n eq1 | cases eq1
 | .lst es, E, p, τ, e, g => by
  obtain ⟨p1, e1, e2⟩ := Option.bind_eq_some_iff.mp e
  rw [Ev.r_lst]
  refine .bnd (aRs_ok hc es e1 g) fun ds hds => ?_
  obtain ⟨as, E1, q, hl, g1, eq1, s1⟩ := bindPs_ok e2 hds
  split at eq1
  ·first | exact no_n eq1 | cases eq1
   refine ⟨.lst true ds, by rw [Ev.lstK_k, Ev.szOk_t (by rw [inl_len hl]; assumption)]; rfl, (pok1 (.ls (fun _ => rfl) (inl_ins hl)) g1).sub s1⟩
  ·first | exact no_n eq1 | cases eq1
 | .idx a i, E, p, τ, e, g => by
  obtain ⟨p1, e1, e2⟩ := Option.bind_eq_some_iff.mp e
  rw [Ev.r_idx]
  obtain ⟨x, hx0, hx⟩ := aR_ok hc a e1 g
  rw [hx0]
  obtain ⟨ax, E1, q, hxa, g1, eq1, s1⟩ := bindP_ok e2 hx
  obtain ⟨p2, e3, e4⟩ := Option.bind_eq_some_iff.mp eq1
  obtain ⟨y, hy0, hy⟩ := aR_ok hc i e3 g1
  show Wp (bnd (evR cl i τ) (opIx x)) _
  rw [hy0]
  obtain ⟨ay, E2, q2, hya, g2, eq2, s2⟩ := bindP_ok e4 hy
  split at eq2
  ·rename_i u hu
   cases eq2
   exact (aIx_ok hu hxa hya).mono fun d hd => ((pokU hd g2).sub s2).sub s1
  ·split at eq2
   ·rename_i hm
    obtain ⟨u, hu, rfl⟩ := Option.map_eq_some_iff.mp eq2
    obtain ⟨j, rfl, h0, h1⟩ := modLen_ok hm hx0 hy0 (fun ds hds => by
     subst hds
     cases hxa with
     | tup _ => unfold elemsOf toS at hu; cases hu)
    exact (elemsOf_ok hu hxa h0 h1).mono fun d hd => ((pokU hd g2).sub s2).sub s1
   ·first | exact no_n eq2 | cases eq2
 | .sl a lo hi, E, p, τ, e, g => by
  obtain ⟨p1, e1, e2⟩ := Option.bind_eq_some_iff.mp e
  rw [Ev.r_sl]
  refine .bnd (aR_ok hc a e1 g) fun x hx => ?_
  obtain ⟨ax, E1, q, hxa, g1, eq1, s1⟩ := bindP_ok e2 hx
  obtain ⟨l, e3, e4⟩ := Option.bind_eq_some_iff.mp eq1
  obtain ⟨h, e5, e6⟩ := Option.bind_eq_some_iff.mp e4
  obtain ⟨c, ec, rfl⟩ := Option.map_eq_some_iff.mp e6
  rw [Ev.slK_k]
  refine .bnd (aRO_ok hc lo e3 g1) fun lv hl => ?_
  rw [Ev.slK2_k]
  refine .bnd (aRO_ok hc hi e5 g1) fun hv hh => ?_
  exact (aSl_ok ec hxa hl hh).mono fun d hd => (pok1 hd g1).sub s1
 | .call f es, E, p, τ, e, g => by
  obtain ⟨p1, e1, e2⟩ := Option.bind_eq_some_iff.mp e
  rw [Ev.r_call]
  refine .bnd (aRs_ok hc es e1 g) fun ds hds => ?_
  obtain ⟨as, E1, q, hl, g1, eq1, s1⟩ := bindPs_ok e2 hds
  obtain ⟨u, hu, rfl⟩ := Option.map_eq_some_iff.mp eq1
  rw [Ev.callK_k]
  exact (hc f _ u hu _ (inl_er hl)).mono fun d hd => (pokU hd g1).sub s1
 | .bi f es, E, p, τ, e, g => by
  obtain ⟨p1, e1, e2⟩ := Option.bind_eq_some_iff.mp e
  rw [Ev.r_bi]
  refine .bnd (aRs_ok hc es e1 g) fun ds hds => ?_
  obtain ⟨as, E1, q, hl, g1, eq1, s1⟩ := bindPs_ok e2 hds
  obtain ⟨c, ec, rfl⟩ := Option.map_eq_some_iff.mp eq1
  exact (aBi_ok ec hl).mono fun d hd => (pok1 hd g1).sub s1
 | .isi a k, E, p, τ, e, g => by
  obtain ⟨p1, e1, e2⟩ := Option.bind_eq_some_iff.mp e
  rw [Ev.r_isi]
  refine .bnd (aR_ok hc a e1 g) fun x hx => ?_
  obtain ⟨ax, E1, q, hxa, g1, eq1, s1⟩ := bindP_ok e2 hx
  cases eq1
  refine ⟨_, Ev.isiK_k, (pok1 ?_ g1).sub s1⟩
  rw [aIsi_ok hxa]
  exact .blc _
 | .lrev a, E, p, τ, e, g => by
  obtain ⟨p1, e1, e2⟩ := Option.bind_eq_some_iff.mp e
  rw [Ev.r_lrev]
  refine .bnd (aR_ok hc a e1 g) fun x hx => ?_
  obtain ⟨ax, E1, q, hxa, g1, eq1, s1⟩ := bindP_ok e2 hx
  obtain ⟨c, ec, rfl⟩ := Option.map_eq_some_iff.mp eq1
  unfold aRev at ec
  split at ec
  ·first | exact no_n ec | cases ec
   cases hxa with
   | @ls o o' ds us _ hs =>
    exact ⟨_, Ev.rv_l, (pok1 (.ls (fun _ => rfl) (ins_rev hs)) g1).sub s1⟩
  ·first | exact no_n ec | cases ec
   cases hxa with
   | lst _ h1 h2 hs =>
    exact ⟨_, Ev.rv_l, (pok1 (.lst (fun _ => rfl) (by rw [List.length_reverse]; exact h1) (by rw [List.length_reverse]; exact h2) (inA_iff.mpr fun d hd => inA_iff.mp hs d (List.mem_reverse.mp hd))) g1).sub s1⟩
  ·first | exact no_n ec | cases ec
 | .mth m o es, E, p, τ, e, g => by
  obtain ⟨p1, e1, e2⟩ := Option.bind_eq_some_iff.mp e
  rw [Ev.r_mth]
  refine .bnd (aR_ok hc o e1 g) fun x hx => ?_
  obtain ⟨ax, E1, q, hxa, g1, eq1, s1⟩ := bindP_ok e2 hx
  obtain ⟨p2, e3, e4⟩ := Option.bind_eq_some_iff.mp eq1
  obtain ⟨ds, hd0, hds⟩ := aRs_ok hc es e3 g1
  obtain ⟨as, E2, q2, hl, g2, eq2, s2⟩ := bindPs_ok e4 hds
  obtain ⟨c, ec, rfl⟩ := Option.map_eq_some_iff.mp eq2
  obtain ⟨h1, h2⟩ := aMt_ok ec hxa hl
  rw [Ev.mthK_k, h1, hd0]
  exact h2.mono fun d hd => ((pok1 hd g2).sub s2).sub s1
 | .comp G fr tg src ifs elt, E, p, τ, e, g => by
  obtain ⟨s, e1, e2⟩ := Option.bind_eq_some_iff.mp e
  rw [Ev.r_comp]
  split at e2
  ·rename_i hlt
   obtain ⟨u, hu, rfl⟩ := Option.map_eq_some_iff.mp e2
   refine .bnd (aSr_ok hc src e1 g) fun its hits => ?_
   rw [Ev.compK_k, Ev.szLt_t (by omega), Ev.grd_t]
   have gb : Gam (blk G fr τ) (fr.map (slotA E) ++ List.replicate (G.N.length - fr.length) none) := Gam.app (fr_gam g fr) (Gam.non _)
   have turn : ∀ d, InU d s.1 → Wp (bodyM cl tg ifs elt (blk G fr τ) d) fun o => (ifs.isEmpty = true → o ≠ none) ∧ ∀ d', o = some d' → InU d' u := by
    intro d hd
    obtain ⟨a, q, ha, hq, sub⟩ := bindL_ok hu hd
    obtain ⟨es, h1, h2⟩ := Option.bind_eq_some_iff.mp hq
    obtain ⟨τ1, ht, gt⟩ := setA_ok tg h1 ha gb
    obtain ⟨E1, q1, g1, h3, s3⟩ := bindE_ok h2 gt
    obtain ⟨es2, h4, h5⟩ := Option.bind_eq_some_iff.mp h3
    obtain ⟨r, hr, hrt, hri⟩ := aTs_ok hc ifs h4 g1
    cases r with
    | false =>
     refine ⟨none, ?_, fun z => absurd (hri z) (by decide), fun d' z => by cases z⟩
     show bnd (setT tg d (blk G fr τ)) _ = _
     rw [ht]
     show bnd (evTs cl ifs τ1) _ = _
     rw [hr]
     rfl
    | true =>
     obtain ⟨E2, q2, g2, h6, s6⟩ := bindE_ok h5 (hrt rfl)
     obtain ⟨pe, h7, rfl⟩ := Option.map_eq_some_iff.mp h6
     obtain ⟨d', hd', pd⟩ := aR_ok hc elt h7 g2
     refine ⟨some d', ?_, (fun _ z => by cases z), fun d'' z => ?_⟩
     ·show bnd (setT tg d (blk G fr τ)) _ = _
      rw [ht]
      show bnd (evTs cl ifs τ1) _ = _
      rw [hr]
      show bnd (evR cl elt τ1) _ = _
      rw [hd']
      rfl
     ·cases z
      obtain ⟨qq, hqq, hin, _⟩ := pd
      exact inU_of (sub _ (s3 _ (s6 _ (List.mem_map.mpr ⟨qq, hqq, rfl⟩)))) hin
   obtain ⟨ds, hds, f1, f2, f3⟩ := fmap_wp turn hits.2.2
   rw [hds]
   refine ⟨_, rfl, pok1 (.lst (fun _ => rfl) ?_ (by omega) (inA_iff.mpr fun d hd => nor_ok (inA_iff.mp f3 d hd))) g⟩
   cases hb : ifs.isEmpty with
   | true => rw [if_pos rfl, f1 hb]; exact hits.1
   | false => rw [if_neg (by decide)]; exact Nat.zero_le _
  ·first | exact no_n e2 | cases e2
theorem aRs_ok {cl : Nat → List D → Res D} {acl : Cl} (hc : ClOk cl acl) : ∀ (es : List IR) {E : AE} {p : Ps} {τ : Ev}, aRs acl es E = some p → Gam τ E → Wp (evRs cl es τ) fun ds => PsOk p ds τ
 | [], E, p, τ, e, g => by
  cases e
  exact ⟨[], Ev.rs_n, _, List.mem_singleton.mpr rfl, .nil, g⟩
 | x :: es, E, p, τ, e, g => by
  obtain ⟨p1, e1, e2⟩ := Option.bind_eq_some_iff.mp e
  rw [Ev.rs_c]
  refine .bnd (aR_ok hc x e1 g) fun d hd => ?_
  obtain ⟨a, E1, q, ha, g1, eq1, s1⟩ := bindP_ok e2 hd
  obtain ⟨p2, e3, e4⟩ := Option.bind_eq_some_iff.mp eq1
  rw [Ev.rsK_k]
  refine .bnd (aRs_ok hc es e3 g1) fun ds hds => ?_
  obtain ⟨as, E2, q2, hl, g2, eq2, s2⟩ := bindPs_ok e4 hds
  cases eq2
  exact ⟨d :: ds, Ev.consK_k, _, s1 _ (s2 _ (List.mem_singleton.mpr rfl)), .cons ha hl, g2⟩
theorem aRO_ok {cl : Nat → List D → Res D} {acl : Cl} (hc : ClOk cl acl) : ∀ (o : Option IR) {E : AE} {p : Option Iv} {τ : Ev}, aRO acl o E = some p → Gam τ E → Wp (evRO cl o τ) fun v => ivOk p v
 | none, E, p, τ, e, g => by
  cases e
  exact ⟨none, Ev.ro_n, trivial⟩
 | some x, E, p, τ, e, g => by
  obtain ⟨p1, e1, e2⟩ := Option.bind_eq_some_iff.mp e
  obtain ⟨q, hq, rfl⟩ := Option.map_eq_some_iff.mp e2
  rw [Ev.ro_s]
  refine .bnd (aR_ok hc x e1 g) fun d hd => ?_
  obtain ⟨i, rfl, h1, h2⟩ := hull_ok hq hd
  exact ⟨some i, Ev.intO_i, h1, h2⟩
theorem aTs_ok {cl : Nat → List D → Res D} {acl : Cl} (hc : ClOk cl acl) : ∀ (es : List IR) {E : AE} {p : List AE} {τ : Ev}, aTs acl es E = some p → Gam τ E → Wp (evTs cl es τ) fun r => (r = true → EOk p τ) ∧ (es.isEmpty = true → r = true)
 | [], E, p, τ, e, g => by
  cases e
  exact ⟨true, Ev.ts_n, fun _ => ⟨_, List.mem_singleton.mpr rfl, g⟩, fun _ => rfl⟩
 | x :: es, E, p, τ, e, g => by
  obtain ⟨p1, e1, e2⟩ := Option.bind_eq_some_iff.mp e
  obtain ⟨d, hd0, hd⟩ := aR_ok hc x e1 g
  obtain ⟨a, E1, q, ha, g1, eq1, s1⟩ := bindP_ok e2 hd
  rw [Ev.ts_c, hd0]
  show Wp (bnd (truD d) _) _
  split at eq1
  ·rename_i ht
   refine .bnd (aTru_ok ht ha) fun r hr => ?_
   rw [Ev.tsK_k, hr false rfl]
   exact ⟨false, rfl, fun z => (by cases z), fun z => (by cases z)⟩
  ·rename_i ht
   refine .bnd (aTru_ok ht ha) fun r hr => ?_
   rw [Ev.tsK_k]
   cases r with
   | false => exact ⟨false, rfl, fun z => (by cases z), fun z => (by cases z)⟩
   | true => exact (aTs_ok hc es eq1 g1).mono fun r hr => ⟨fun z => (hr.1 z).sub s1, fun z => (by cases z)⟩
  ·first | exact no_n eq1 | cases eq1
theorem aSr_ok {cl : Nat → List D → Res D} {acl : Cl} (hc : ClOk cl acl) : ∀ (s : Sr) {E : AE} {p : U × Nat × Nat} {τ : Ev}, aSr acl s E = some p → Gam τ E → Wp (evSr cl s τ) fun its => p.2.1 ≤ its.length ∧ its.length ≤ p.2.2 ∧ InA its p.1
 | .rng1 n, E, p, τ, e, g => by
  obtain ⟨p1, e1, e2⟩ := Option.bind_eq_some_iff.mp e
  obtain ⟨q, hq, e3⟩ := Option.bind_eq_some_iff.mp e2
  rw [Ev.s_r1]
  refine .bnd (aR_ok hc n e1 g) fun d hd => ?_
  obtain ⟨i, rfl, h1, h2⟩ := hull_ok hq hd
  split at e3
  ·rename_i l h
   split at e3
   ·first | exact no_n e3 | cases e3
    have h1 : l ≤ i := h1
    have h2 : i ≤ h := h2
    refine ⟨rngD 0 i, by rw [Ev.rng1D_i, Ev.rngOk_t (by omega) (by omega)]; rfl, by rw [rngD_len]; show l.toNat ≤ _; omega, by rw [rngD_len]; show _ ≤ h.toNat; omega, rng_in fun j a b => .hd (.int a (by show j ≤ h - 1; omega))⟩
   ·first | exact no_n e3 | cases e3
  ·first | exact no_n e3 | cases e3
 | .rng2 a b, E, p, τ, e, g => by
  obtain ⟨p1, e1, e2⟩ := Option.bind_eq_some_iff.mp e
  obtain ⟨q, hq, e3⟩ := Option.bind_eq_some_iff.mp e2
  obtain ⟨p2, e4, e5⟩ := Option.bind_eq_some_iff.mp e3
  obtain ⟨q', hq', e6⟩ := Option.bind_eq_some_iff.mp e5
  rw [Ev.s_r2]
  refine .bnd (aR_ok hc a e1 g) fun d hd => ?_
  obtain ⟨i, rfl, h1, h2⟩ := hull_ok hq hd
  rw [Ev.r2K_k]
  refine .bnd (aR_ok hc b e4 g) fun d hd => ?_
  obtain ⟨j, rfl, h3, h4⟩ := hull_ok hq' hd
  split at e6
  ·rename_i l h l' h'
   split at e6
   ·first | exact no_n e6 | cases e6
    have h1 : l ≤ i := h1
    have h2 : i ≤ h := h2
    have h3 : l' ≤ j := h3
    have h4 : j ≤ h' := h4
    refine ⟨rngD i j, by rw [Ev.rng2D_i, Ev.rngOk_t (by omega) (by omega), Ev.rngOk_t (by omega) (by omega)]; rfl, by rw [rngD_len]; show (l' - h).toNat ≤ _; omega, by rw [rngD_len]; show _ ≤ (h' - l).toNat; omega, rng_in fun k a b => .hd (.int (by show l ≤ k; omega) (by show k ≤ h' - 1; omega))⟩
   ·first | exact no_n e6 | cases e6
  ·first | exact no_n e6 | cases e6
 | .val x, E, p, τ, e, g => by
  obtain ⟨p1, e1, e2⟩ := Option.bind_eq_some_iff.mp e
  rw [Ev.s_val]
  exact .bnd (aR_ok hc x e1 g) fun d hd => itP_ok itA_ok e2 hd
 | .rev x, E, p, τ, e, g => by
  obtain ⟨p1, e1, e2⟩ := Option.bind_eq_some_iff.mp e
  refine .bnd (aR_ok hc x e1 g) fun d hd => ?_
  have := itP_ok (f := toL) (X := rev2D) (fun {a p d} h hd => by
   obtain ⟨o, ds, rfl, h1, h2, h3⟩ := toL_ok h hd
   exact .ok ⟨by rw [List.length_reverse]; exact h1, by rw [List.length_reverse]; exact h2, inA_iff.mpr fun d hd => inA_iff.mp h3 d (List.mem_reverse.mp hd)⟩) e2 hd
  obtain ⟨its, hi, hh⟩ := this
  refine ⟨its, ?_, hh⟩
  cases d with
  | lst o ds => exact hi
  | _ => cases hi
end
end Ab
end L2
namespace L2
open PySem PySem.Spec PyProof.Rows PySem.SeqAt
namespace Ab
noncomputable def kpA : Bool → A → A
 | true, .lst _ u l h => .lst true (eraU u) l h
 | true, .ls _ us => .ls true (eraUs us)
 | _, a => era a
noncomputable def keepA (e : IR) (a : A) : A := if lfA a then a else kpA (newList? e) a
noncomputable def kpD (e : IR) (τ : Ev) : Bool → D → D × Ev
 | true, .lst _ ds => if lfrees ds = true then (.lst true ds, τ) else (.lst true (ers ds), frz (vars e) τ)
 | _, d => (er d, frz (vars e) τ)
theorem keepD_eq {e : IR} {d : D} {τ : Ev} : keepD e d τ = if lfree d = true then (d, τ) else kpD e τ (newList? e) d := by
 unfold keepD kpD
 cases newList? e <;> cases d <;> rfl
noncomputable def frOk (e : IR) (a : A) : Bool := lfA a || (newList? e && match a with
  | .lst _ u _ _ => lfU u
  | .ls _ us => lfUs us
  | _ => false)
theorem keep_ok {e : IR} {a : A} {d : D} {τ : Ev} {E : AE} (h : In d a) (g : Gam τ E) : In (keepD e d τ).1 (keepA e a) ∧ Gam (keepD e d τ).2 (if frOk e a then E else frzE (vars e) 0 E) := by
 cases hl : lfA a with
 | true =>
  have e1 : keepD e d τ = (d, τ) := by unfold keepD; rw [if_pos (lf_in h hl)]
  have e2 : keepA e a = a := by unfold keepA; rw [if_pos hl]
  have e3 : frOk e a = true := by unfold frOk; rw [hl]; rfl
  rw [e1, e2, e3, if_pos rfl]
  exact ⟨h, g⟩
 | false =>
  have e2 : keepA e a = kpA (newList? e) a := by unfold keepA; rw [if_neg (by rw [hl]; decide)]
  rw [e2]
  cases hf : lfree d with
  | true =>
   have e1 : keepD e d τ = (d, τ) := by unfold keepD; rw [if_pos hf]
   rw [e1]
   refine ⟨?_, by split; exact g; exact g.frzN 0⟩
   cases newList? e with
   | false => rw [show kpA false a = era a by cases a <;> rfl]; exact in_er h
   | true =>
    cases a with
    | lst _ _ _ _ => cases h; cases hf
    | ls _ _ => cases h; cases hf
    | _ => exact in_er h
  | false =>
   have e1 : keepD e d τ = kpD e τ (newList? e) d := by rw [keepD_eq, if_neg (by rw [hf]; decide)]
   rw [e1]
   cases hn : newList? e with
   | false =>
    have e3 : frOk e a = false := by unfold frOk; rw [hl, hn]; rfl
    rw [e3, if_neg (by decide)]
    have e4 : kpD e τ false d = (er d, frz (vars e) τ) := by cases d <;> rfl
    have e5 : kpA false a = era a := by cases a <;> rfl
    rw [e4, e5]
    exact ⟨er_in h, g.frz 0⟩
   | true =>
    cases a with
    | lst o u l k =>
     have e3 : frOk e (.lst o u l k) = lfU u := by unfold frOk; rw [hl, hn]; rfl
     rw [e3]
     cases h with
     | @lst _ o' ds _ _ _ h1 h2 h3 h4 =>
      show In (if lfrees ds = true then (D.lst true ds, τ) else (.lst true (ers ds), frz (vars e) τ)).1 (.lst true (eraU u) l k) ∧ Gam (if lfrees ds = true then (D.lst true ds, τ) else (.lst true (ers ds), frz (vars e) τ)).2 _
      cases hs : lfrees ds with
      | true =>
       refine ⟨.lst (fun _ => rfl) h2 h3 (in_erA h4), ?_⟩
       show Gam τ _
       split
       ·exact g
       ·exact g.frzN 0
      | false =>
       have e4 : lfU u = false := by
        cases z : lfU u with
        | false => rfl
        | true => rw [lf_inA z h4] at hs; cases hs
       rw [e4]
       exact ⟨.lst (fun _ => rfl) (by rw [ers_length]; exact h2) (by rw [ers_length]; exact h3) (er_inA h4), g.frz 0⟩
    | ls o us =>
     have e3 : frOk e (.ls o us) = lfUs us := by unfold frOk; rw [hl, hn]; rfl
     rw [e3]
     cases h with
     | @ls _ o' ds _ h1 h2 =>
      show In (if lfrees ds = true then (D.lst true ds, τ) else (.lst true (ers ds), frz (vars e) τ)).1 (.ls true (eraUs us)) ∧ Gam (if lfrees ds = true then (D.lst true ds, τ) else (.lst true (ers ds), frz (vars e) τ)).2 _
      cases hs : lfrees ds with
      | true =>
       refine ⟨.ls (fun _ => rfl) (in_ers h2), ?_⟩
       show Gam τ _
       split
       ·exact g
       ·exact g.frzN 0
      | false =>
       have e4 : lfUs us = false := by
        cases z : lfUs us with
        | false => rfl
        | true => rw [lf_ins h2 z] at hs; cases hs
       rw [e4]
       exact ⟨.ls (fun _ => rfl) (er_ins h2), g.frz 0⟩
    | tup us =>
     have e3 : frOk e (.tup us) = false := by unfold frOk; rw [hl, hn]; rfl
     rw [e3]
     cases h with
     | tup h1 => exact ⟨er_in (.tup h1), g.frz 0⟩
    | non => cases hl
    | bl _ => cases hl
    | cs _ => cases hl
    | int _ _ => cases hl
    | str _ _ _ => cases hl
mutual
noncomputable def aO (cl : Cl) (mv : Bool) : IR → AE → Option P
 | .v i, E => (slotA E i).map fun a => if mv then [(a, E.set i none)] else [(era a, E.set i (some (era a)))]
 | .tup es, E => (aOs cl mv es E).bind fun p => bindPs (fun as E1 => if as.length ≤ 16777216 then some [(.tup (as.map fun a => [a]), E1)] else none) p
 | .lst es, E => (aOs cl mv es E).bind fun p => bindPs (fun as E1 => if as.length ≤ 16777216 then some [(.ls true (as.map fun a => [a]), E1)] else none) p
 | .ite t a b, E => (aR cl t E).bind fun p => bindP (fun x E1 => match aTru x with
  | some (some true) => aO cl mv a E1
  | some (some false) => aO cl mv b E1
  | some none => match aO cl mv a E1, aO cl mv b E1 with
   | some q, some r => some (q ++ r)
   | _, _ => none
  | none => none) p
 | .call f es, E => (aR cl (.call f es) E).bind fun p => bindP (fun a E1 => some [(a, if lfA a then E1 else frzE (varss es) 0 E1)]) p
 | e, E => (aR cl e E).bind fun p => bindP (fun a E1 => some [(keepA e a, if frOk e a then E1 else frzE (vars e) 0 E1)]) p
noncomputable def aOs (cl : Cl) (mv : Bool) : List IR → AE → Option Ps
 | [], E => some [([], E)]
 | e :: es, E => (aO cl mv e E).bind fun p => bindP (fun x E1 => (aOs cl mv es E1).bind fun q => bindPs (fun as E2 => some [(x :: as, E2)]) q) p
end
theorem keepO {cl : Nat → List D → Res D} {acl : Cl} (hc : ClOk cl acl) {e : IR} {E : AE} {p : P} {τ : Ev} (h : ((aR acl e E).bind fun p => bindP (fun a E1 => some [(keepA e a, if frOk e a then E1 else frzE (vars e) 0 E1)]) p) = some p) (g : Gam τ E) : Wp (bnd (evR cl e τ) fun d => .ok (keepD e d τ)) fun q => POk p q.1 q.2 := by
 obtain ⟨p1, e1, e2⟩ := Option.bind_eq_some_iff.mp h
 refine .bnd (aR_ok hc e e1 g) fun d hd => ?_
 obtain ⟨a, E1, q, ha, g1, eq1, s1⟩ := bindP_ok e2 hd
 cases eq1
 obtain ⟨k1, k2⟩ := keep_ok (e := e) ha g1
 exact .ok ((pok1 k1 k2).sub s1)
mutual
theorem aO_ok {cl : Nat → List D → Res D} {acl : Cl} (hc : ClOk cl acl) {mv : Bool} : ∀ (e : IR) {E : AE} {p : P} {τ : Ev}, aO acl mv e E = some p → Gam τ E → Wp (evO cl mv e τ) fun q => POk p q.1 q.2
 | .v i, E, p, τ, e, g => by
  obtain ⟨a, ha, rfl⟩ := Option.map_eq_some_iff.mp e
  obtain ⟨d, hd, hin⟩ := g.get ha
  cases mv with
  | true => exact ⟨(d, τ.set i none), by rw [Ev.o_v, hd]; rfl, pok1 hin (g.set i slOk_n)⟩
  | false => exact ⟨(er d, τ.set i (some (er d))), by rw [Ev.o_v, hd]; rfl, pok1 (er_in hin) (g.set i (slOk_s (er_in hin)))⟩
 | .tup es, E, p, τ, e, g => by
  obtain ⟨p1, e1, e2⟩ := Option.bind_eq_some_iff.mp e
  rw [Ev.o_tup]
  refine .bnd (aOs_ok hc es e1 g) fun q hq => ?_
  obtain ⟨as, E1, r, hl, g1, eq1, s1⟩ := bindPs_ok e2 hq
  split at eq1
  ·first | exact no_n eq1 | cases eq1
   refine ⟨(.tup q.1, q.2), by rw [Ev.otupK_k, Ev.szOk_t (by rw [inl_len hl]; assumption)]; rfl, (pok1 (.tup (inl_ins hl)) g1).sub s1⟩
  ·first | exact no_n eq1 | cases eq1
 | .lst es, E, p, τ, e, g => by
  obtain ⟨p1, e1, e2⟩ := Option.bind_eq_some_iff.mp e
  rw [Ev.o_lst]
  refine .bnd (aOs_ok hc es e1 g) fun q hq => ?_
  obtain ⟨as, E1, r, hl, g1, eq1, s1⟩ := bindPs_ok e2 hq
  split at eq1
  ·first | exact no_n eq1 | cases eq1
   refine ⟨(.lst true q.1, q.2), by rw [Ev.olstK_k, Ev.szOk_t (by rw [inl_len hl]; assumption)]; rfl, (pok1 (.ls (fun _ => rfl) (inl_ins hl)) g1).sub s1⟩
  ·first | exact no_n eq1 | cases eq1
 | .ite t a b, E, p, τ, e, g => by
  obtain ⟨p1, e1, e2⟩ := Option.bind_eq_some_iff.mp e
  rw [Ev.o_ite, Ev.t_t]
  obtain ⟨x, hx0, hx⟩ := aR_ok hc t e1 g
  rw [hx0]
  obtain ⟨ax, E1, q, hxa, g1, eq1, s1⟩ := bindP_ok e2 hx
  show Wp (bnd (truD x) _) _
  split at eq1
  ·rename_i ht
   refine .bnd (aTru_ok ht hxa) fun r hr => ?_
   rw [Ev.oiteK_k, hr true rfl, if_pos rfl]
   exact (aO_ok hc a eq1 g1).mono fun d hd => hd.sub s1
  ·rename_i ht
   refine .bnd (aTru_ok ht hxa) fun r hr => ?_
   rw [Ev.oiteK_k, hr false rfl, if_neg (by decide)]
   exact (aO_ok hc b eq1 g1).mono fun d hd => hd.sub s1
  ·rename_i ht
   split at eq1
   ·rename_i q' r' h1 h2
    cases eq1
    refine .bnd (aTru_ok ht hxa) fun r hr => ?_
    rw [Ev.oiteK_k]
    cases r with
    | true => rw [if_pos rfl]; exact (aO_ok hc a h1 g1).mono fun d hd => (pokL hd).sub s1
    | false => rw [if_neg (by decide)]; exact (aO_ok hc b h2 g1).mono fun d hd => (pokR hd).sub s1
   ·first | exact no_n eq1 | cases eq1
  ·first | exact no_n eq1 | cases eq1
 | .call f es, E, p, τ, e, g => by
  obtain ⟨p1, e1, e2⟩ := Option.bind_eq_some_iff.mp e
  obtain ⟨d, hd0, hd⟩ := aR_ok hc (.call f es) e1 g
  obtain ⟨a, E1, q, ha, g1, eq1, s1⟩ := bindP_ok e2 hd
  cases eq1
  rw [Ev.o_call]
  rw [Ev.r_call] at hd0
  cases hes : evRs cl es τ with
  | error z => rw [hes] at hd0; cases hd0
  | ok ds =>
   rw [hes] at hd0
   have hd0 : cl f (ers ds) = .ok d := hd0
   show Wp (bnd (cl f (ers ds)) _) _
   rw [hd0]
   show Wp (Ev.ocallK2 es τ d) _
   rw [Ev.ocallK2_k]
   cases hl : lfree d with
   | true =>
    rw [if_pos rfl]
    refine .ok ((pok1 ha ?_).sub s1)
    split
    ·exact g1
    ·exact g1.frzN 0
   | false =>
    rw [if_neg (by decide)]
    refine .ok ((pok1 ha ?_).sub s1)
    rw [if_neg (fun z => by rw [lf_in ha z] at hl; cases hl)]
    exact g1.frz 0
 | .c d, E, p, τ, e, g => keepO hc e g
 | .g n d, E, p, τ, e, g => keepO hc e g
 | .bin op a b, E, p, τ, e, g => keepO hc e g
 | .neg a, E, p, τ, e, g => keepO hc e g
 | .cmp op a b, E, p, τ, e, g => keepO hc e g
 | .chain op op' a b c, E, p, τ, e, g => keepO hc e g
 | .and_ a b, E, p, τ, e, g => keepO hc e g
 | .or_ a b, E, p, τ, e, g => keepO hc e g
 | .not_ a, E, p, τ, e, g => keepO hc e g
 | .idx a i, E, p, τ, e, g => keepO hc e g
 | .sl a lo hi, E, p, τ, e, g => keepO hc e g
 | .bi f es, E, p, τ, e, g => keepO hc e g
 | .isi a k, E, p, τ, e, g => keepO hc e g
 | .lrev a, E, p, τ, e, g => keepO hc e g
 | .mth m o es, E, p, τ, e, g => keepO hc e g
 | .comp G fr tg src ifs elt, E, p, τ, e, g => keepO hc e g
theorem aOs_ok {cl : Nat → List D → Res D} {acl : Cl} (hc : ClOk cl acl) {mv : Bool} : ∀ (es : List IR) {E : AE} {p : Ps} {τ : Ev}, aOs acl mv es E = some p → Gam τ E → Wp (evOs cl mv es τ) fun q => PsOk p q.1 q.2
 | [], E, p, τ, e, g => by
  cases e
  exact ⟨([], τ), Ev.os_n, _, List.mem_singleton.mpr rfl, .nil, g⟩
 | x :: es, E, p, τ, e, g => by
  obtain ⟨p1, e1, e2⟩ := Option.bind_eq_some_iff.mp e
  rw [Ev.os_c]
  refine .bnd (aO_ok hc x e1 g) fun q hq => ?_
  obtain ⟨a, E1, r, ha, g1, eq1, s1⟩ := bindP_ok e2 hq
  obtain ⟨p2, e3, e4⟩ := Option.bind_eq_some_iff.mp eq1
  rw [Ev.osK_k]
  refine .bnd (aOs_ok hc es e3 g1) fun q2 hq2 => ?_
  obtain ⟨as, E2, r2, hl, g2, eq2, s2⟩ := bindPs_ok e4 hq2
  cases eq2
  exact ⟨(q.1 :: q2.1, q2.2), Ev.osK2_k, _, s1 _ (s2 _ (List.mem_singleton.mpr rfl)), .cons ha hl, g2⟩
end
structure F where
 nx : List AE
 ct : List AE
 bk : List AE
 rt : U
noncomputable def FOk (f : F) : Fl → Prop
 | .nx τ => EOk f.nx τ
 | .ct τ => EOk f.ct τ
 | .bk τ => EOk f.bk τ
 | .rt d => InU d f.rt
noncomputable def F.add (f g : F) : F := ⟨f.nx ++ g.nx, f.ct ++ g.ct, f.bk ++ g.bk, f.rt ++ g.rt⟩
noncomputable def F.no : F := ⟨[], [], [], []⟩
theorem eokL {p q : List AE} {τ : Ev} (h : EOk p τ) : EOk (p ++ q) τ := h.sub fun _ hx => List.mem_append_left _ hx
theorem eokR {p q : List AE} {τ : Ev} (h : EOk q τ) : EOk (p ++ q) τ := h.sub fun _ hx => List.mem_append_right _ hx
theorem uL {p q : U} {d : D} (h : InU d p) : InU d (p ++ q) := inU_sub h fun _ hx => List.mem_append_left _ hx
theorem uR {p q : U} {d : D} (h : InU d q) : InU d (p ++ q) := inU_sub h fun _ hx => List.mem_append_right _ hx
theorem FOk.l {f g : F} : ∀ {fl : Fl}, FOk f fl → FOk (f.add g) fl
 | .nx _, h => eokL h
 | .ct _, h => eokL h
 | .bk _, h => eokL h
 | .rt _, h => uL h
theorem FOk.r {f g : F} : ∀ {fl : Fl}, FOk g fl → FOk (f.add g) fl
 | .nx _, h => eokR h
 | .ct _, h => eokR h
 | .bk _, h => eokR h
 | .rt _, h => uR h
noncomputable def seqL (f : AE → Option F) : List AE → Option F
 | [] => some F.no
 | E :: es => match f E, seqL f es with
  | some a, some b => some (a.add b)
  | _, _ => none
theorem seqL_ok {f : AE → Option F} : ∀ {es : List AE} {r : F}, seqL f es = some r → ∀ {τ : Ev}, EOk es τ → ∃ E q, Gam τ E ∧ f E = some q ∧ ∀ fl, FOk q fl → FOk r fl
 | [], r, e, τ, ⟨E, h, _⟩ => by cases h
 | E :: es, r, e, τ, ⟨E', h, g⟩ => by
  unfold seqL at e
  split at e
  ·rename_i a b e1 e2
   cases e
   rcases List.mem_cons.mp h with rfl | h
   ·exact ⟨E', a, g, e1, fun fl hf => hf.l⟩
   ·obtain ⟨E2, q, g2, hq, hs⟩ := seqL_ok e2 ⟨E', h, g⟩
    exact ⟨E2, q, g2, hq, fun fl hf => (hs fl hf).r⟩
  ·first | exact no_n e | cases e
inductive Pos : List D → List U → Nat → Prop where
 | nil {us : List U} : Pos [] us 0
 | cons {d : D} {ds : List D} {u : U} {us : List U} {n : Nat} : InU d u → Pos ds us (n - 1) → Pos (d :: ds) (u :: us) n
theorem pos_ins : ∀ {ds : List D} {us : List U}, Ins ds us → Pos ds us us.length
 | _, _, .nil => .nil
 | _, _, .cons h1 h2 => .cons h1 (by rw [List.length_cons, Nat.add_sub_cancel]; exact pos_ins h2)
theorem pos_rep {u : U} : ∀ {ds : List D} {l h : Nat}, InA ds u → l ≤ ds.length → ds.length ≤ h → Pos ds (List.replicate h u) l
 | [], l, h, _, h1, _ => by rw [show l = 0 by simpa using h1]; exact .nil
 | d :: ds, l, 0, _, _, h2 => by simp at h2
 | d :: ds, l, h + 1, .cons a b, h1, h2 => by
  rw [List.replicate_succ]
  rw [List.length_cons] at h1 h2
  exact .cons a (pos_rep b (by omega) (by omega))
theorem pos_rng : ∀ (n k : Nat) (a : Int) (l : Nat), l ≤ n → n ≤ k → Pos ((List.range n).map fun j : Nat => D.int (a + (j : Nat))) ((List.range k).map fun j : Nat => [A.int (some (a + (j : Nat))) (some (a + (j : Nat)))]) l
 | 0, k, a, l, h1, _ => by rw [show l = 0 by omega]; exact .nil
 | n + 1, 0, a, l, _, h2 => by omega
 | n + 1, k + 1, a, l, h1, h2 => by
  rw [List.range_succ_eq_map, List.range_succ_eq_map, List.map_cons, List.map_cons, List.map_map, List.map_map]
  refine .cons (.hd (.int (Int.le_refl _) (Int.le_refl _))) ?_
  have := pos_rng n k (a + 1) (l - 1) (by omega) (by omega)
  have e1 : ((fun j : Nat => D.int (a + (j : Nat))) ∘ Nat.succ) = fun j : Nat => D.int (a + 1 + (j : Nat)) := by
   funext j; show D.int (a + ((j + 1 : Nat) : Int)) = _; congr 1; omega
  have e2 : ((fun j : Nat => [A.int (some (a + (j : Nat))) (some (a + (j : Nat)))]) ∘ Nat.succ) = fun j : Nat => [A.int (some (a + 1 + (j : Nat))) (some (a + 1 + (j : Nat)))] := by
   funext j; show [A.int (some (a + ((j + 1 : Nat) : Int))) (some (a + ((j + 1 : Nat) : Int)))] = _; rw [show a + ((j + 1 : Nat) : Int) = a + 1 + (j : Nat) by omega]
  rw [e1, e2]
  exact this
noncomputable def posOf (p : P) : Option (List U × Nat) := match p with
 | [(.ls _ us, _)] => some (us, us.length)
 | [(.tup us, _)] => some (us, us.length)
 | p => (itP itA p).bind fun r => if r.2.2 ≤ 2000 then some (List.replicate r.2.2 (nor r.1), r.2.1) else none
theorem posOf_ok {p : P} {r : List U × Nat} {d : D} {τ : Ev} (e : posOf p = some r) (h : POk p d τ) : Wp (itemsD d) fun its => Pos its r.1 r.2 := by
 unfold posOf at e
 split at e
 ·first | exact no_n e | cases e
  obtain ⟨q, hq, h1, _⟩ := h
  rw [List.mem_singleton.mp hq] at h1
  cases h1 with
  | ls _ hs => exact .ok (pos_ins hs)
 ·first | exact no_n e | cases e
  obtain ⟨q, hq, h1, _⟩ := h
  rw [List.mem_singleton.mp hq] at h1
  cases h1 with
  | tup hs => exact .ok (pos_ins hs)
 ·obtain ⟨s, e1, e2⟩ := Option.bind_eq_some_iff.mp e
  split at e2
  ·first | exact no_n e2 | cases e2
   exact (itP_ok itA_ok e1 h).mono fun its hh => pos_rep (inA_iff.mpr fun d hd => nor_ok (inA_iff.mp hh.2.2 d hd)) hh.1 hh.2.1
  ·first | exact no_n e2 | cases e2
noncomputable def aSrP (cl : Cl) (s : Sr) (E : AE) : Option ((List U × Nat) × AE) := match s with
 | .rng1 n => (aR cl n E).bind fun p => (hull p).bind fun q => match q with
  | (some l, some h) => if -4611686018427387904 ≤ l ∧ h < 2000 then some (((List.range h.toNat).map fun j : Nat => [A.int (some (0 + (j : Nat))) (some (0 + (j : Nat)))], l.toNat), E) else none
  | _ => none
 | .rng2 a b => (aR cl a E).bind fun p => (hull p).bind fun q => (aR cl b E).bind fun p' => (hull p').bind fun q' => match q, q' with
  | (some l, some h), (some l', some h') => if l = h ∧ -4611686018427387904 ≤ l ∧ l < 4611686018427387904 ∧ -4611686018427387904 ≤ l' ∧ h' < 4611686018427387904 ∧ h' - l < 2000 then some (((List.range (h' - l).toNat).map fun j : Nat => [A.int (some (l + (j : Nat))) (some (l + (j : Nat)))], (l' - l).toNat), E) else none
  | _, _ => none
 | .val e => (aR cl e E).bind fun p => (posOf p).map fun r => ((eraUs r.1, r.2), frzE (vars e) 0 E)
 | .rev _ => none
theorem pos_er : ∀ {ds : List D} {us : List U} {n : Nat}, Pos ds us n → Pos (ers ds) (eraUs us) n
 | _, _, _, .nil => by rw [ers]; exact .nil
 | _, _, _, .cons h1 h2 => by rw [ers, eraUs]; exact .cons (er_inU h1) (pos_er h2)
theorem aSrP_ok {cl : Nat → List D → Res D} {acl : Cl} (hc : ClOk cl acl) {s : Sr} {E : AE} {r : (List U × Nat) × AE} {τ : Ev} (e : aSrP acl s E = some r) (g : Gam τ E) : Wp (srcO cl s τ) fun q => Pos q.1 r.1.1 r.1.2 ∧ Gam q.2 r.2 := by
 unfold aSrP at e
 split at e
 ·rename_i n
  obtain ⟨p1, e1, e2⟩ := Option.bind_eq_some_iff.mp e
  obtain ⟨q, hq, e3⟩ := Option.bind_eq_some_iff.mp e2
  rw [Ev.src_1, Ev.s_r1]
  obtain ⟨d, hd0, hd⟩ := aR_ok hc n e1 g
  rw [hd0]
  obtain ⟨i, rfl, h1, h2⟩ := hull_ok hq hd
  split at e3
  ·rename_i l h
   split at e3
   ·first | exact no_n e3 | cases e3
    have h1 : l ≤ i := h1
    have h2 : i ≤ h := h2
    refine ⟨(rngD 0 i, τ), by show bnd (Ev.rng1D (.int i)) _ = _; rw [Ev.rng1D_i, Ev.rngOk_t (by omega) (by omega)]; rfl, ?_, g⟩
    exact pos_rng (i - 0).toNat h.toNat 0 l.toNat (by omega) (by omega)
   ·first | exact no_n e3 | cases e3
  ·first | exact no_n e3 | cases e3
 ·rename_i a b
  obtain ⟨p1, e1, e2⟩ := Option.bind_eq_some_iff.mp e
  obtain ⟨q, hq, e3⟩ := Option.bind_eq_some_iff.mp e2
  obtain ⟨p2, e4, e5⟩ := Option.bind_eq_some_iff.mp e3
  obtain ⟨q', hq', e6⟩ := Option.bind_eq_some_iff.mp e5
  rw [Ev.src_2, Ev.s_r2]
  obtain ⟨d, hd0, hd⟩ := aR_ok hc a e1 g
  rw [hd0]
  obtain ⟨i, rfl, h1, h2⟩ := hull_ok hq hd
  obtain ⟨d, hd0, hd⟩ := aR_ok hc b e4 g
  obtain ⟨j, rfl, h3, h4⟩ := hull_ok hq' hd
  split at e6
  ·rename_i l h l' h'
   split at e6
   ·rename_i hcond
    cases e6
    have h1 : l ≤ i := h1
    have h2 : i ≤ h := h2
    have h3 : l' ≤ j := h3
    have h4 : j ≤ h' := h4
    have hil : i = l := by omega
    subst hil
    refine ⟨(rngD i j, τ), by show bnd (bnd (evR cl b τ) (Ev.rng2D (.int i))) _ = _; rw [hd0]; show bnd (Ev.rng2D (.int i) (.int j)) _ = _; rw [Ev.rng2D_i, Ev.rngOk_t (by omega) (by omega), Ev.rngOk_t (by omega) (by omega)]; rfl, ?_, g⟩
    exact pos_rng (j - i).toNat (h' - i).toNat i (l' - i).toNat (by omega) (by omega)
   ·first | exact no_n e6 | cases e6
  ·first | exact no_n e6 | cases e6
 ·rename_i x
  obtain ⟨p1, e1, e2⟩ := Option.bind_eq_some_iff.mp e
  obtain ⟨r', hr, rfl⟩ := Option.map_eq_some_iff.mp e2
  rw [Ev.src_v, Ev.s_val]
  obtain ⟨d, hd0, hd⟩ := aR_ok hc x e1 g
  rw [hd0]
  obtain ⟨its, hi, hp⟩ := posOf_ok hr hd
  refine ⟨(ers its, frz (vars x) τ), by show bnd (itemsD d) _ = _; rw [hi]; rfl, pos_er hp, g.frz 0⟩
 ·first | exact no_n e | cases e
mutual
noncomputable def kill : Tg → AE → AE
 | .nm i, E => E.set i none
 | .tp ts, E => kills ts E
noncomputable def kills : List Tg → AE → AE
 | [], E => E
 | t :: ts, E => kills ts (kill t E)
end
mutual
theorem kill_ok : ∀ (t : Tg) {E : AE} {τ : Ev}, Gam τ E → Gam τ (kill t E)
 | .nm i, E, τ, g => by rw [kill]; exact g.setA i fun _ h => by cases h
 | .tp ts, E, τ, g => by rw [kill]; exact kills_ok ts g
theorem kills_ok : ∀ (ts : List Tg) {E : AE} {τ : Ev}, Gam τ E → Gam τ (kills ts E)
 | [], E, τ, g => by rw [kills]; exact g
 | t :: ts, E, τ, g => by rw [kills]; exact kills_ok ts (kill_ok t g)
end
noncomputable def bindF (f : A → Option F) : U → Option F
 | [] => some F.no
 | a :: u => match f a, bindF f u with
  | some x, some y => some (x.add y)
  | _, _ => none
theorem bindF_ok {f : A → Option F} : ∀ {u : U} {r : F}, bindF f u = some r → ∀ {d : D}, InU d u → ∃ a q, In d a ∧ f a = some q ∧ ∀ fl, FOk q fl → FOk r fl
 | a :: u, r, e, d, h => by
  unfold bindF at e
  split at e
  ·rename_i x y e1 e2
   cases e
   cases h with
   | hd h => exact ⟨a, _, h, e1, fun fl hf => hf.l⟩
   | tl h =>
    obtain ⟨b, q, h1, h2, h3⟩ := bindF_ok e2 h
    exact ⟨b, q, h1, h2, fun fl hf => (h3 fl hf).r⟩
  ·first | exact no_n e | cases e
noncomputable def forA (tg : Tg) (body : A → AE → Option F) : List U → Nat → List AE → Option F
 | [], _, es => some ⟨es, [], [], []⟩
 | u :: us, n, es => match seqL (fun E => bindF (fun a => body a E) u) es with
  | some G => (match forA tg body us (n - 1) (norE ((G.nx ++ G.ct).map (kill tg))) with
   | some R => some ⟨norE ((if n = 0 then es else []) ++ R.nx ++ G.bk), [], [], nor (G.rt ++ R.rt)⟩
   | none => none)
  | none => none
theorem forA_ok {tg : Tg} {body : A → AE → Option F} {bd : D → Ev → Res Fl} (hb : ∀ (a : A) (E : AE) (G : F) (d : D) (τ : Ev), body a E = some G → In d a → Gam τ E → Wp (bd d τ) (FOk G)) :
  ∀ {us : List U} {n : Nat} {es : List AE} {R : F}, forA tg body us n es = some R → ∀ {its : List D} {τ : Ev}, Pos its us n → EOk es τ → Wp (forM bd its τ) (FOk R)
 | [], n, es, R, e, its, τ, hp, g => by
  cases hp with
  | nil => cases e; exact ⟨_, Ev.for_n, g⟩
 | u :: us, n, es, R, e, its, τ, hp, g => by
  unfold forA at e
  split at e
  ·rename_i G hG
   split at e
   ·rename_i R' hR
    cases e
    cases hp with
    | nil =>
     refine ⟨_, Ev.for_n, norE_ok ?_⟩
     exact eokL (eokL (by rw [if_pos rfl]; exact g))
    | @cons d0 ds0 _ _ _ h1 h2 =>
     obtain ⟨E, q, gE, hq, s⟩ := seqL_ok hG g
     obtain ⟨a, q', ha, hq', s'⟩ := bindF_ok hq h1
     rw [Ev.for_c]
     refine .bnd (hb a E q' _ _ hq' ha gE) fun fl hfl => ?_
     have hfl := s fl (s' fl hfl)
     have next : ∀ τ', EOk (G.nx ++ G.ct) τ' → Wp (forM bd ds0 τ') (FOk ⟨norE ((if n = 0 then es else []) ++ R'.nx ++ G.bk), [], [], nor (G.rt ++ R'.rt)⟩) := by
      intro τ' ⟨E', hE', gE'⟩
      refine (forA_ok hb hR h2 (norE_ok ⟨_, List.mem_map.mpr ⟨E', hE', rfl⟩, kill_ok tg gE'⟩)).mono fun fl hf => ?_
      cases fl with
      | nx τ2 => exact norE_ok (eokL (eokR hf))
      | ct τ2 => obtain ⟨_, hh, _⟩ := (forA_ct hR hf : EOk [] τ2); cases hh
      | bk τ2 => obtain ⟨_, hh, _⟩ := (forA_bk hR hf : EOk [] τ2); cases hh
      | rt d => exact nor_ok (uR hf)
     cases fl with
     | nx τ' => exact next τ' (eokL hfl)
     | ct τ' => exact next τ' (eokR hfl)
     | bk τ' => exact ⟨_, rfl, norE_ok (eokR hfl)⟩
     | rt d => exact ⟨_, rfl, nor_ok (uL hfl)⟩
   ·first | exact no_n e | cases e
  ·first | exact no_n e | cases e
where
 forA_ct {tg : Tg} {body : A → AE → Option F} {us : List U} {n : Nat} {es : List AE} {R : F} {τ : Ev} (e : forA tg body us n es = some R) (h : EOk R.ct τ) : EOk [] τ := by
  cases us with
  | nil => cases e; exact h
  | cons u us =>
   unfold forA at e
   split at e
   ·split at e
    ·cases e; exact h
    ·first | exact no_n e | cases e
   ·first | exact no_n e | cases e
 forA_bk {tg : Tg} {body : A → AE → Option F} {us : List U} {n : Nat} {es : List AE} {R : F} {τ : Ev} (e : forA tg body us n es = some R) (h : EOk R.bk τ) : EOk [] τ := by
  cases us with
  | nil => cases e; exact h
  | cons u us =>
   unfold forA at e
   split at e
   ·split at e
    ·cases e; exact h
    ·first | exact no_n e | cases e
   ·first | exact no_n e | cases e
end Ab
end L2
namespace L2
open PySem PySem.Spec PyProof.Rows PySem.SeqAt
namespace Ab
noncomputable def appA (a : A) : A → Option A
 | .ls true us => if us.length < 16777216 then some (.ls true (us ++ [[a]])) else none
 | .lst true u l h => if h < 16777216 then some (.lst true (nor (a :: u)) (l + 1) (h + 1)) else none
 | _ => none
theorem appA_ok {a b c : A} {d : D} {x : D} (e : appA a b = some c) (hb : In x b) (hd : In d a) : ∃ ds, x = .lst true ds ∧ szLt ds.length = true ∧ In (.lst true (ds ++ [d])) c := by
 unfold appA at e
 split at e
 ·split at e
  ·rename_i hl
   cases e
   cases hb with
   | @ls _ o' ds us h1 h2 =>
    rw [h1 rfl]
    exact ⟨ds, rfl, Ev.szLt_t (by rw [ins_len h2]; exact hl), .ls (fun _ => rfl) (ins_app h2 (.cons (.hd hd) .nil))⟩
  ·first | exact no_n e | cases e
 ·split at e
  ·rename_i hl
   cases e
   cases hb with
   | @lst _ o' ds u l h h1 h2 h3 h4 =>
    rw [h1 rfl]
    refine ⟨ds, rfl, Ev.szLt_t (by omega), .lst (fun _ => rfl) (by rw [List.length_append, List.length_singleton]; omega) (by rw [List.length_append, List.length_singleton]; omega) (inA_iff.mpr fun z hz => nor_ok ?_)⟩
    rcases List.mem_append.mp hz with hz | hz
    ·exact .tl (inA_iff.mp h4 z hz)
    ·rw [List.mem_singleton.mp hz]; exact .hd hd
  ·first | exact no_n e | cases e
 ·first | exact no_n e | cases e
noncomputable def isL : A → Bool
 | .ls _ _ => true
 | .lst _ _ _ _ => true
 | _ => false
theorem isL_ok {a : A} {x : D} (e : isL a = true) (h : In x a) : ∃ o ds, x = .lst o ds := by
 cases h with
 | ls _ _ => exact ⟨_, _, rfl⟩
 | lst _ _ _ _ => exact ⟨_, _, rfl⟩
 | _ => first | exact no_n e | cases e
noncomputable def setxA (a : A) (l h : Option Int) (b : A) : Option A := match l, h with
 | some l, some h => if 0 ≤ l then (match b with
  | .ls true us => if h < us.length then some (.lst true (nor (a :: us.flatten)) us.length us.length) else none
  | .lst true u lo hi => if h < lo then some (.lst true (nor (a :: u)) lo hi) else none
  | _ => none) else none
 | _, _ => none
theorem setxA_ok {a b c : A} {l h : Option Int} {d x : D} {i : Int} (e : setxA a l h b = some c) (hb : In x b) (hd : In d a) (h1 : loOk l i) (h2 : hiOk h i) : ∃ ds j, x = .lst true ds ∧ ixN ds.length i = some j ∧ In (.lst true (ds.set j d)) c := by
 unfold setxA at e
 split at e
 ·rename_i l h
  have a1 : l ≤ i := h1
  have a2 : i ≤ h := h2
  split at e
  ·have key : ∀ (ds : List D), i < ds.length → ixN ds.length i = some i.toNat := by
    intro ds hl
    unfold ixN
    rw [if_pos (by omega), if_pos hl]
   split at e
   ·split at e
    ·first | exact no_n e | cases e
     cases hb with
     | @ls _ o' ds us h3 h4 =>
      rw [h3 rfl]
      have hl := ins_len h4
      refine ⟨ds, i.toNat, rfl, key ds (by omega), .lst (fun _ => rfl) (by rw [List.length_set]; omega) (by rw [List.length_set]; omega) (inA_iff.mpr fun z hz => nor_ok ?_)⟩
      rcases List.mem_or_eq_of_mem_set hz with hz | hz
      ·exact .tl (inA_iff.mp (ins_flat h4) z hz)
      ·rw [hz]; exact .hd hd
    ·first | exact no_n e | cases e
   ·split at e
    ·first | exact no_n e | cases e
     cases hb with
     | @lst _ o' ds u lo hi h3 h4 h5 h6 =>
      rw [h3 rfl]
      refine ⟨ds, i.toNat, rfl, key ds (by omega), .lst (fun _ => rfl) (by rw [List.length_set]; omega) (by rw [List.length_set]; omega) (inA_iff.mpr fun z hz => nor_ok ?_)⟩
      rcases List.mem_or_eq_of_mem_set hz with hz | hz
      ·exact .tl (inA_iff.mp h6 z hz)
      ·rw [hz]; exact .hd hd
    ·first | exact no_n e | cases e
   ·first | exact no_n e | cases e
  ·first | exact no_n e | cases e
 ·first | exact no_n e | cases e
noncomputable def rvA : A → Option A
 | .ls true us => some (.ls true us.reverse)
 | .lst true u l h => some (.lst true u l h)
 | _ => none
theorem rvA_ok {a b : A} {x : D} (e : rvA a = some b) (h : In x a) : ∃ ds, x = .lst true ds ∧ In (.lst true ds.reverse) b := by
 unfold rvA at e
 split at e
 ·first | exact no_n e | cases e
  cases h with
  | @ls _ o' ds us h1 h2 => rw [h1 rfl]; exact ⟨ds, rfl, .ls (fun _ => rfl) (ins_rev h2)⟩
 ·first | exact no_n e | cases e
  cases h with
  | @lst _ o' ds u l h h1 h2 h3 h4 => rw [h1 rfl]; exact ⟨ds, rfl, .lst (fun _ => rfl) (by rw [List.length_reverse]; exact h2) (by rw [List.length_reverse]; exact h3) (inA_iff.mpr fun d hd => inA_iff.mp h4 d (List.mem_reverse.mp hd))⟩
 ·first | exact no_n e | cases e
mutual
noncomputable def aS (cl : Cl) : IS → AE → Option F
 | .asg tg e, E => (aO cl false e E).bind fun p => (bindP (fun a E1 => setA tg a E1) p).map fun es => ⟨es, [], [], []⟩
 | .setix i k e, E => (aO cl false e E).bind fun p => (bindP (fun a E1 => match slotA E1 i with
   | some b => (aR cl k E1).bind fun q => (hull q).bind fun v => (setxA a v.1 v.2 b).map fun c => [E1.set i (some c)]
   | none => none) p).map fun es => ⟨es, [], [], []⟩
 | .app i e, E => (slotA E i).bind fun b => if isL b then (aO cl false e E).bind fun p => (bindP (fun a E1 => match slotA E1 i with
    | some c => (appA a c).map fun c' => [E1.set i (some c')]
    | none => none) p).map fun es => ⟨es, [], [], []⟩ else none
 | .rvs i, E => (slotA E i).bind fun b => (rvA b).map fun c => ⟨[E.set i (some c)], [], [], []⟩
 | .clr i, E => (slotA E i).bind fun b => (rvA b).map fun _ => ⟨[E.set i (some (.ls true []))], [], [], []⟩
 | .exp e, E => (aR cl e E).map fun _ => ⟨[E], [], [], []⟩
 | .ret e, E => (aO cl true e E).map fun p => ⟨[], [], [], p.map (·.1)⟩
 | .retN, _ => some ⟨[], [], [], [.non]⟩
 | .if_ t a b, E => (aR cl t E).bind fun p => (bindP (fun x E1 => match aTru x with
   | some (some true) => (aSs cl a E1).map fun f => [f]
   | some (some false) => (aSs cl b E1).map fun f => [f]
   | some none => (match aSs cl a E1, aSs cl b E1 with
    | some f, some g => some [f, g]
    | _, _ => none)
   | none => none) p).map fun fs => fs.foldr F.add F.no
 | .for_ tg s body, E => (aSrP cl s E).bind fun r => forA tg (fun a E1 => (setA tg a E1).bind fun es => seqL (fun E2 => aSs cl body E2) es) r.1.1 r.1.2 [r.2]
 | .brk, E => some ⟨[], [], [E], []⟩
 | .cnt, E => some ⟨[], [E], [], []⟩
 | .pass, E => some ⟨[E], [], [], []⟩
 | _, _ => none
noncomputable def aSs (cl : Cl) : List IS → AE → Option F
 | [], E => some ⟨[E], [], [], []⟩
 | s :: r, E => (aS cl s E).bind fun f => (seqL (fun E' => aSs cl r E') (norE f.nx)).map fun g => ⟨g.nx, f.ct ++ g.ct, f.bk ++ g.bk, f.rt ++ g.rt⟩
end
theorem fold_ok {fs : List F} {f : F} {fl : Fl} (hm : f ∈ fs) (h : FOk f fl) : FOk (fs.foldr F.add F.no) fl := by
 induction fs with
 | nil => cases hm
 | cons g fs ih =>
  rw [List.foldr_cons]
  rcases List.mem_cons.mp hm with rfl | hm
  ·exact h.l
  ·exact (ih hm).r
mutual
theorem aS_ok {cl : Nat → List D → Res D} {acl : Cl} (hc : ClOk cl acl) : ∀ (s : IS) {E : AE} {f : F} {τ : Ev}, aS acl s E = some f → Gam τ E → Wp (evS cl s τ) (FOk f)
 | .asg tg x, E, f, τ, e, g => by
  obtain ⟨p, e1, e2⟩ := Option.bind_eq_some_iff.mp e
  obtain ⟨es, e3, rfl⟩ := Option.map_eq_some_iff.mp e2
  refine .bnd (aO_ok hc x e1 g) fun q hq => ?_
  obtain ⟨a, E1, es', ha, g1, e4, s1⟩ := bindP_ok e3 hq
  refine .bnd (setA_ok tg e4 ha g1) fun τ' g' => .ok ?_
  exact g'.sub s1
 | .setix i k x, E, f, τ, e, g => by
  obtain ⟨p, e1, e2⟩ := Option.bind_eq_some_iff.mp e
  obtain ⟨es, e3, rfl⟩ := Option.map_eq_some_iff.mp e2
  refine .bnd (aO_ok hc x e1 g) fun q hq => ?_
  obtain ⟨a, E1, es', ha, g1, e4, s1⟩ := bindP_ok e3 hq
  split at e4
  ·rename_i b hb
   obtain ⟨pq, e5, e6⟩ := Option.bind_eq_some_iff.mp e4
   obtain ⟨v, e7, e8⟩ := Option.bind_eq_some_iff.mp e6
   obtain ⟨c, e9, rfl⟩ := Option.map_eq_some_iff.mp e8
   obtain ⟨y, hy, hyb⟩ := g1.get hb
   obtain ⟨z, hz, hzp⟩ := aR_ok hc k e5 g1
   obtain ⟨j, rfl, h1, h2⟩ := hull_ok e7 hzp
   obtain ⟨ds, m, rfl, hm, hin⟩ := setxA_ok e9 hyb ha h1 h2
   refine ⟨.nx (q.2.set i (some (.lst true (ds.set m q.1)))), ?_, ?_⟩
   ·rw [hy]
    show bnd (evR cl k q.2) _ = _
    rw [hz]
    show (match ixN ds.length j with | some j => _ | none => _) = _
    rw [hm]
   ·exact ⟨_, s1 _ (List.mem_singleton.mpr rfl), g1.set i (slOk_s hin)⟩
  ·first | exact no_n e4 | cases e4
 | .app i x, E, f, τ, e, g => by
  obtain ⟨b, hb, e⟩ := Option.bind_eq_some_iff.mp e
  ·split at e
   ·rename_i hl
    obtain ⟨p, e1, e2⟩ := Option.bind_eq_some_iff.mp e
    obtain ⟨es, e3, rfl⟩ := Option.map_eq_some_iff.mp e2
    obtain ⟨y, hy, hyb⟩ := g.get hb
    obtain ⟨o, ds0, rfl⟩ := isL_ok hl hyb
    show Wp (match slotD τ i with | some (.lst _ _) => _ | _ => _) _
    rw [hy]
    refine .bnd (aO_ok hc x e1 g) fun q hq => ?_
    obtain ⟨a, E1, es', ha, g1, e4, s1⟩ := bindP_ok e3 hq
    split at e4
    ·rename_i c hcs
     obtain ⟨c', e5, rfl⟩ := Option.map_eq_some_iff.mp e4
     obtain ⟨y, hy, hyb⟩ := g1.get hcs
     obtain ⟨ds, rfl, hsz, hin⟩ := appA_ok e5 hyb ha
     refine ⟨.nx (q.2.set i (some (.lst true (ds ++ [q.1])))), ?_, ?_⟩
     ·rw [hy]
      show grd (szLt ds.length) _ = _
      rw [hsz]
      rfl
     ·exact ⟨_, s1 _ (List.mem_singleton.mpr rfl), g1.set i (slOk_s hin)⟩
    ·first | exact no_n e4 | cases e4
   ·first | exact no_n e | cases e
 | .exp x, E, f, τ, e, g => by
  obtain ⟨p, e1, rfl⟩ := Option.map_eq_some_iff.mp e
  exact .bnd (aR_ok hc x e1 g) fun d _ => .ok ⟨_, List.mem_singleton.mpr rfl, g⟩
 | .ret x, E, f, τ, e, g => by
  obtain ⟨p, e1, rfl⟩ := Option.map_eq_some_iff.mp e
  refine .bnd (aO_ok hc x e1 g) fun q hq => .ok ?_
  obtain ⟨y, hy, hin, _⟩ := hq
  exact inU_of (List.mem_map.mpr ⟨y, hy, rfl⟩) hin
 | .retN, E, f, τ, e, g => by
  have e : some _ = some f := e
  cases e
  exact ⟨_, Ev.st_retN, .hd .non⟩
 | .if_ t a b, E, f, τ, e, g => by
  obtain ⟨p, e1, e2⟩ := Option.bind_eq_some_iff.mp e
  obtain ⟨fs, e3, rfl⟩ := Option.map_eq_some_iff.mp e2
  rw [Ev.st_if, Ev.t_t]
  obtain ⟨x, hx0, hx⟩ := aR_ok hc t e1 g
  rw [hx0]
  obtain ⟨ax, E1, q, hxa, g1, eq1, s1⟩ := bindP_ok e3 hx
  show Wp (bnd (truD x) _) _
  split at eq1
  ·rename_i ht
   obtain ⟨f', hf', rfl⟩ := Option.map_eq_some_iff.mp eq1
   refine .bnd (aTru_ok ht hxa) fun r hr => ?_
   rw [Ev.ifK_k, hr true rfl, if_pos rfl]
   exact (aSs_ok hc a hf' g1).mono fun fl hfl => fold_ok (s1 _ (List.mem_singleton.mpr rfl)) hfl
  ·rename_i ht
   obtain ⟨f', hf', rfl⟩ := Option.map_eq_some_iff.mp eq1
   refine .bnd (aTru_ok ht hxa) fun r hr => ?_
   rw [Ev.ifK_k, hr false rfl, if_neg (by decide)]
   exact (aSs_ok hc b hf' g1).mono fun fl hfl => fold_ok (s1 _ (List.mem_singleton.mpr rfl)) hfl
  ·rename_i ht
   split at eq1
   ·rename_i f' g' h1 h2
    cases eq1
    refine .bnd (aTru_ok ht hxa) fun r hr => ?_
    rw [Ev.ifK_k]
    cases r with
    | true => rw [if_pos rfl]; exact (aSs_ok hc a h1 g1).mono fun fl hfl => fold_ok (s1 _ (List.mem_cons_self ..)) hfl
    | false => rw [if_neg (by decide)]; exact (aSs_ok hc b h2 g1).mono fun fl hfl => fold_ok (s1 _ (List.mem_cons_of_mem _ (List.mem_cons_self ..))) hfl
   ·first | exact no_n eq1 | cases eq1
  ·first | exact no_n eq1 | cases eq1
 | .for_ tg s body, E, f, τ, e, g => by
  obtain ⟨r, e1, e2⟩ := Option.bind_eq_some_iff.mp e
  refine .bnd (aSrP_ok hc e1 g) fun q hq => ?_
  exact forA_ok (fun a E' G d τ' hbd ha gE => by
   obtain ⟨es, h1, h2⟩ := Option.bind_eq_some_iff.mp hbd
   refine .bnd (setA_ok tg h1 ha gE) fun τ2 g2 => ?_
   obtain ⟨E2, q2, gE2, hq2, s2⟩ := seqL_ok h2 g2
   exact (aSs_ok hc body hq2 gE2).mono s2) e2 hq.1 ⟨_, List.mem_singleton.mpr rfl, hq.2⟩
 | .brk, E, f, τ, e, g => by have e : some _ = some f := e; cases e; exact ⟨_, Ev.st_brk, _, List.mem_singleton.mpr rfl, g⟩
 | .cnt, E, f, τ, e, g => by have e : some _ = some f := e; cases e; exact ⟨_, Ev.st_cnt, _, List.mem_singleton.mpr rfl, g⟩
 | .pass, E, f, τ, e, g => by have e : some _ = some f := e; cases e; exact ⟨_, Ev.st_pass, _, List.mem_singleton.mpr rfl, g⟩
 | .rvs i, E, f, τ, e, g => by
  obtain ⟨b, hb, e1⟩ := Option.bind_eq_some_iff.mp e
  obtain ⟨c, hc', rfl⟩ := Option.map_eq_some_iff.mp e1
  obtain ⟨y, hy, hyb⟩ := g.get hb
  obtain ⟨ds, rfl, hin⟩ := rvA_ok hc' hyb
  exact ⟨.nx (τ.set i (some (.lst true ds.reverse))), by rw [Ev.st_rvs, hy, Ev.rvK_k], _, List.mem_singleton.mpr rfl, g.set i (slOk_s hin)⟩
 | .clr i, E, f, τ, e, g => by
  obtain ⟨b, hb, e1⟩ := Option.bind_eq_some_iff.mp e
  obtain ⟨c, hc', rfl⟩ := Option.map_eq_some_iff.mp e1
  obtain ⟨y, hy, hyb⟩ := g.get hb
  obtain ⟨ds, rfl, hin⟩ := rvA_ok hc' hyb
  exact ⟨.nx (τ.set i (some (.lst true []))), by rw [Ev.st_clr, hy, Ev.clK_k], _, List.mem_singleton.mpr rfl, g.set i (slOk_s (.ls (fun _ => rfl) .nil))⟩
 | .par .., E, f, τ, e, g => no_n e
 | .appx .., E, f, τ, e, g => no_n e
 | .while_ .., E, f, τ, e, g => no_n e
 | .never, E, f, τ, e, g => no_n e
theorem aSs_ok {cl : Nat → List D → Res D} {acl : Cl} (hc : ClOk cl acl) : ∀ (ss : List IS) {E : AE} {f : F} {τ : Ev}, aSs acl ss E = some f → Gam τ E → Wp (evSs cl ss τ) (FOk f)
 | [], E, f, τ, e, g => by
  have e : some _ = some f := e
  cases e
  exact ⟨_, Ev.ss_n, _, List.mem_singleton.mpr rfl, g⟩
 | s :: r, E, f, τ, e, g => by
  obtain ⟨f1, e1, e2⟩ := Option.bind_eq_some_iff.mp e
  obtain ⟨f2, e3, rfl⟩ := Option.map_eq_some_iff.mp e2
  rw [Ev.ss_c]
  refine .bnd (aS_ok hc s e1 g) fun fl hfl => ?_
  cases fl with
  | nx τ' =>
   obtain ⟨E', q, gE, hq, s1⟩ := seqL_ok e3 (norE_ok hfl)
   rw [Ev.sq_nx]
   refine (aSs_ok hc r hq gE).mono fun fl hf => ?_
   have hf := s1 fl hf
   cases fl with
   | nx _ => exact hf
   | ct _ => exact eokR hf
   | bk _ => exact eokR hf
   | rt _ => exact uR hf
  | ct τ' => exact ⟨_, Ev.sq_ct, eokL hfl⟩
  | bk τ' => exact ⟨_, Ev.sq_bk, eokL hfl⟩
  | rt d => exact ⟨_, Ev.sq_rt, uL hfl⟩
end
noncomputable def aRun (cl : Cl) (fn : Fn) (as : List A) : Option U := if as.length = fn.np then
  (aSs cl fn.body (as.map some ++ List.replicate (fn.G.N.length - fn.np) none)).bind fun f =>
   if f.ct.isEmpty && f.bk.isEmpty then some (nor (f.rt ++ if f.nx.isEmpty then [] else [.non])) else none
 else none
noncomputable def aCall (T : Tb) (ov : Nat → Nat → List A → Option U) : Nat → Nat → List A → Option U
 | 0, _, _ => none
 | n + 1, f, as => match ov n f as with
  | some u => some u
  | none => match T f with
   | some fn => aRun (aCall T ov n) fn as
   | none => none
theorem gam_args : ∀ {ds : List D} {as : List A}, Inl ds as → Gam (ds.map some) (as.map some)
 | _, _, .nil => .nil
 | _, _, .cons h1 h2 => .cons (slOk_s h1) (gam_args h2)
theorem aRun_ok {cl : Nat → List D → Res D} {acl : Cl} (hc : ClOk cl acl) {fn : Fn} {as : List A} {u : U} (e : aRun acl fn as = some u) {ds : List D} (h : Inl ds as) : Wp (runF cl fn ds) fun d => InU d u := by
 unfold aRun at e
 split at e
 ·rename_i hl
  obtain ⟨f, e1, e2⟩ := Option.bind_eq_some_iff.mp e
  split at e2
  ·rename_i hb
   cases e2
   rw [Bool.and_eq_true, List.isEmpty_iff, List.isEmpty_iff] at hb
   rw [Ev.run (by rw [inl_len h]; exact hl)]
   refine .bnd (aSs_ok hc fn.body e1 (Gam.app (gam_args h) (Gam.non _))) fun fl hfl => ?_
   cases fl with
   | nx τ =>
    obtain ⟨E, hE, _⟩ := hfl
    refine ⟨_, Ev.ret_nx, nor_ok (uR ?_)⟩
    cases hn : f.nx with
    | nil => rw [hn] at hE; cases hE
    | cons _ _ => exact .hd .non
   | ct τ => obtain ⟨E, hE, _⟩ := hfl; rw [hb.1] at hE; cases hE
   | bk τ => obtain ⟨E, hE, _⟩ := hfl; rw [hb.2] at hE; cases hE
   | rt d => exact ⟨_, Ev.ret_rt, nor_ok (uL hfl)⟩
  ·first | exact no_n e2 | cases e2
 ·first | exact no_n e | cases e
noncomputable def OvOk (T : Tb) (ov : Nat → Nat → List A → Option U) : Prop := ∀ n, ClOk (callF T (n + 1)) (ov n)
theorem aCall_ok {T : Tb} {ov : Nat → Nat → List A → Option U} (ho : OvOk T ov) : ∀ n, ClOk (callF T n) (aCall T ov n)
 | 0 => fun f as u e => by cases e
 | n + 1 => fun f as u e ds h => by
  unfold aCall at e
  split at e
  ·first | exact no_n e | cases e
   exact ho n f as _ (by assumption) ds h
  ·split at e
   ·rename_i fn hT
    rw [Ev.call hT]
    exact aRun_ok (aCall_ok ho n) e h
   ·first | exact no_n e | cases e
noncomputable def chk (r : Option U) (v : U) : Bool := match r with
 | some u => leU fuel u v
 | none => false
theorem chk_ok {T : Tb} {ov : Nat → Nat → List A → Option U} (ho : OvOk T ov) {n f : Nat} {as : List A} {v : U} (e : chk (aCall T ov n f as) v = true) {ds : List D} (h : Inl ds as) : ∃ d, callF T n f ds = .ok d ∧ InU d v := by
 unfold chk at e
 split at e
 ·rename_i u hu
  exact (aCall_ok ho n f as u hu ds h).mono fun d hd => leU_ok e hd
 ·first | exact no_n e | cases e
noncomputable def isI1 : U → Bool
 | [] => false
 | a :: r => r.isEmpty && (match a with
  | .int l h => l.isNone && h.isNone
  | _ => false)
noncomputable def isIL : A → Bool
 | .lst _ u _ _ => isI1 u
 | _ => false
noncomputable def lowA : A → Option Int
 | .int l _ => l
 | _ => none
noncomputable def cellOv (f0 : Nat) : Nat → Nat → List A → Option U := fun _ f as => if f = f0 then (match as with
 | [a, b] => if isIL a = true then (match lowA b with
  | some l => if 0 ≤ l then some [.int none none] else none
  | none => none) else none
 | _ => none) else none
theorem isI1_ok {u : U} (h : isI1 u = true) : u = [.int none none] := by
 cases u with
 | nil => cases h
 | cons a r =>
  cases r with
  | cons _ _ => cases h
  | nil =>
   cases a with
   | int l h' =>
    cases l <;> cases h' <;> first | rfl | cases h
   | _ => cases h
theorem isIL_ok {a : A} (h : isIL a = true) : ∃ o l m, a = .lst o [.int none none] l m := by
 cases a with
 | lst o u l m => exact ⟨o, l, m, by rw [isI1_ok h]⟩
 | _ => cases h
theorem lowA_ok {a : A} {l : Int} (h : lowA a = some l) : ∃ m, a = .int (some l) m := by
 cases a with
 | int l' m => exact ⟨m, by rw [show l' = some l from h]⟩
 | _ => cases h
theorem ints_of : ∀ {ds : List D}, InA ds [A.int none none] → ∃ ns : List Int, ds = ns.map .int
 | _, .nil => ⟨[], rfl⟩
 | _, .cons h1 h2 => by
  obtain ⟨ns, rfl⟩ := ints_of h2
  cases inU_1.mp h1 with
  | @int i _ _ _ _ => exact ⟨i :: ns, rfl⟩
theorem cellOv_ok {T : Tb} {f0 : Nat} {fn : Fn} (hT : T f0 = some fn) (h1 : fn.np = 2) (h2 : fn.G.N.length = 2) (h3 : ∀ n (ns : List Int) (o : Bool) (k : Int), 0 ≤ k → ∃ i, callF T (n + 1) f0 [.lst o (ns.map .int), .int k] = .ok (.int i)) : OvOk T (cellOv f0) := by
 intro n f as u e ds h
 unfold cellOv at e
 by_cases hf : f = f0
 ·rw [if_pos hf] at e
  subst hf
  rcases as with _ | ⟨a, _ | ⟨b, _ | ⟨c, r⟩⟩⟩
  ·cases e
  ·cases e
  ·dsimp only at e
   by_cases hil : isIL a = true
   ·rw [if_pos hil] at e
    cases hlo : lowA b with
    | none => rw [hlo] at e; cases e
    | some l =>
     rw [hlo] at e
     dsimp only at e
     obtain ⟨_, _, _, rfl⟩ := isIL_ok hil
     obtain ⟨_, rfl⟩ := lowA_ok hlo
     by_cases h0 : 0 ≤ l
     ·rw [if_pos h0] at e
      cases e
      cases h with
      | cons ha hr =>
       cases hr with
       | cons hb hr =>
        cases hr
        cases ha with
        | lst _ _ _ hs =>
         obtain ⟨ns, rfl⟩ := ints_of hs
         cases hb with
         | @int i _ _ a1 _ =>
          have a1 : l ≤ i := a1
          obtain ⟨j, hj⟩ := h3 n ns _ i (by omega)
          exact ⟨_, hj, .hd (.int trivial trivial)⟩
     ·rw [if_neg h0] at e; cases e
   ·rw [if_neg hil] at e; cases e
  ·cases e
 ·rw [if_neg hf] at e; cases e
end Ab
end L2
namespace L2
open PySem PySem.Spec PyProof.Rows PySem.SeqAt
namespace Ab
theorem u_c {d : D} {a : A} {u : U} : InU d (a :: u) ↔ In d a ∨ InU d u := ⟨(fun h => by cases h with | hd h => exact .inl h | tl h => exact .inr h), fun h => h.elim .hd .tl⟩
theorem u_n {d : D} : InU d [] ↔ False := ⟨(fun h => by cases h), fun h => h.elim⟩
theorem i_cs {d : D} {x : Str} : In d (.cs x) ↔ d = .str x := ⟨(fun h => by cases h; rfl), fun h => by rw [h]; exact .cs x⟩
theorem i_i {d : D} {l h : Option Int} : In d (.int l h) ↔ ∃ i, d = .int i ∧ loOk l i ∧ hiOk h i := ⟨(fun h => by cases h with | int a b => exact ⟨_, rfl, a, b⟩), fun ⟨i, h, a, b⟩ => by rw [h]; exact .int a b⟩
theorem i_s {d : D} {l h m : Nat} : In d (.str l h m) ↔ ∃ x, d = .str x ∧ l ≤ x.length ∧ x.length ≤ h ∧ inM m x := ⟨(fun h => by cases h with | str a b c => exact ⟨_, rfl, a, b, c⟩), fun ⟨i, h, a, b, c⟩ => by rw [h]; exact .str a b c⟩
theorem i_t {d : D} {us : List U} : In d (.tup us) ↔ ∃ ds, d = .tup ds ∧ Ins ds us := ⟨(fun h => by cases h with | tup a => exact ⟨_, rfl, a⟩), fun ⟨i, h, a⟩ => by rw [h]; exact .tup a⟩
theorem i_ls {d : D} {o : Bool} {us : List U} : In d (.ls o us) ↔ ∃ o' ds, d = .lst o' ds ∧ (o = true → o' = true) ∧ Ins ds us := ⟨(fun h => by cases h with | ls a b => exact ⟨_, _, rfl, a, b⟩), fun ⟨o, i, h, a, b⟩ => by rw [h]; exact .ls a b⟩
theorem i_l {d : D} {o : Bool} {u : U} {l h : Nat} : In d (.lst o u l h) ↔ ∃ o' ds, d = .lst o' ds ∧ (o = true → o' = true) ∧ l ≤ ds.length ∧ ds.length ≤ h ∧ InA ds u := ⟨(fun h => by cases h with | lst a b c e => exact ⟨_, _, rfl, a, b, c, e⟩), fun ⟨o, i, h, a, b, c, e⟩ => by rw [h]; exact .lst a b c e⟩
theorem z_n {ds : List D} : Ins ds [] ↔ ds = [] := ⟨(fun h => by cases h; rfl), fun h => by rw [h]; exact .nil⟩
theorem z_c {ds : List D} {u : U} {us : List U} : Ins ds (u :: us) ↔ ∃ d ds', ds = d :: ds' ∧ InU d u ∧ Ins ds' us := ⟨(fun h => by cases h with | cons a b => exact ⟨_, _, rfl, a, b⟩), fun ⟨d, ds', h, a, b⟩ => by rw [h]; exact .cons a b⟩
theorem inA_map {α : Type} {u : U} {emb : α → D} {Q : α → Prop} (h : ∀ d, InU d u → ∃ x, d = emb x ∧ Q x) : ∀ {ds : List D}, InA ds u → ∃ xs : List α, ds = xs.map emb ∧ ∀ x ∈ xs, Q x
 | _, .nil => ⟨[], rfl, (fun _ z => by cases z)⟩
 | _, .cons h1 h2 => by
  obtain ⟨x, rfl, hx⟩ := h _ h1
  obtain ⟨xs, rfl, hxs⟩ := inA_map h h2
  refine ⟨x :: xs, rfl, fun y hy => ?_⟩
  rcases List.mem_cons.mp hy with rfl | hy
  ·exact hx
  ·exact hxs y hy
mutual
noncomputable def dp : D → Nat
 | .tup ds => dps ds + 1
 | .lst _ ds => dps ds + 1
 | .non => 0
 | .bl _ => 0
 | .int _ => 0
 | .str _ => 0
noncomputable def dps : List D → Nat
 | [] => 0
 | d :: ds => max (dp d) (dps ds)
end
mutual
noncomputable def dpA : A → Nat
 | .tup us => dpUs us + 1
 | .ls _ us => dpUs us + 1
 | .lst _ u _ _ => dpU u + 1
 | .non => 0
 | .bl _ => 0
 | .cs _ => 0
 | .int _ _ => 0
 | .str _ _ _ => 0
noncomputable def dpU : List A → Nat
 | [] => 0
 | a :: u => max (dpA a) (dpU u)
noncomputable def dpUs : List (List A) → Nat
 | [] => 0
 | u :: us => max (dpU u) (dpUs us)
end
mutual
theorem dp_in : ∀ {d : D} {a : A}, In d a → dp d ≤ dpA a
 | _, _, .non => by rw [dp]; exact Nat.zero_le _
 | _, _, .bl b => by rw [dp]; exact Nat.zero_le _
 | _, _, .blc b => by rw [dp]; exact Nat.zero_le _
 | _, _, .cs x => by rw [dp]; exact Nat.zero_le _
 | _, _, .int h1 h2 => by rw [dp]; exact Nat.zero_le _
 | _, _, .str h1 h2 h3 => by rw [dp]; exact Nat.zero_le _
 | _, _, .tup h => by rw [dp, dpA]; exact Nat.succ_le_succ (dp_ins h)
 | _, _, .ls h1 h => by rw [dp, dpA]; exact Nat.succ_le_succ (dp_ins h)
 | _, _, .lst h1 h2 h3 h => by rw [dp, dpA]; exact Nat.succ_le_succ (dp_inA h)
theorem dp_inU : ∀ {d : D} {u : List A}, InU d u → dp d ≤ dpU u
 | _, _, .hd h => by rw [dpU]; have := dp_in h; omega
 | _, _, .tl h => by rw [dpU]; have := dp_inU h; omega
theorem dp_ins : ∀ {ds : List D} {us : List (List A)}, Ins ds us → dps ds ≤ dpUs us
 | _, _, .nil => by rw [dps]; exact Nat.zero_le _
 | _, _, .cons h1 h2 => by rw [dps, dpUs]; have := dp_inU h1; have := dp_ins h2; omega
theorem dp_inA : ∀ {ds : List D} {u : List A}, InA ds u → dps ds ≤ dpU u
 | _, _, .nil => by rw [dps]; exact Nat.zero_le _
 | _, _, .cons h1 h2 => by rw [dps]; have := dp_inU h1; have := dp_inA h2; omega
end
mutual
theorem eq_er : ∀ (d e : D) (n : Nat), er d = er e → dp d < n → eqN n d e = .ok true
 | d, e, 0, _, h => absurd h (Nat.not_lt_zero _)
 | .non, e, n + 1, h, _ => by
  cases e <;> simp only [er] at h <;> first | rfl | cases h
 | .bl b, e, n + 1, h, _ => by
  cases e <;> simp only [er] at h <;> first | (cases h; show Except.ok (b == b) = _; rw [beq_self_eq_true]) | cases h
 | .int b, e, n + 1, h, _ => by
  cases e <;> simp only [er] at h <;> first | (cases h; show Except.ok (b == b) = _; rw [beq_self_eq_true]) | cases h
 | .str b, e, n + 1, h, _ => by
  cases e <;> simp only [er] at h <;> first | (cases h; show Except.ok (b == b) = _; rw [beq_self_eq_true]) | cases h
 | .tup ds, e, n + 1, h, hd => by
  cases e <;> simp only [er] at h <;> first | (cases h; done) | skip
  rw [Ev.e_tt]
  rw [dp] at hd
  exact eqs_er ds _ n (D.tup.inj h) (by omega)
 | .lst o ds, e, n + 1, h, hd => by
  cases e <;> simp only [er] at h <;> first | (cases h; done) | skip
  rw [Ev.e_ll]
  rw [dp] at hd
  exact eqs_er ds _ n (D.lst.inj h).2 (by omega)
theorem eqs_er : ∀ (ds es : List D) (n : Nat), ers ds = ers es → dps ds < n → eqsG (eqN n) ds es = .ok true
 | [], es, n, h, _ => by
  cases es with
  | nil => rfl
  | cons _ _ => simp only [ers] at h; cases h
 | d :: ds, es, n, h, hd => by
  cases es with
  | nil => simp only [ers] at h; cases h
  | cons e es =>
   simp only [ers] at h
   obtain ⟨h1, h2⟩ := List.cons.inj h
   rw [dps] at hd
   rw [Ev.es_c, eq_er d e n h1 (by omega)]
   show bnd (eqsG (eqN n) ds es) _ = _
   rw [eqs_er ds es n h2 (by omega)]
   rfl
end
theorem for_find {α : Type} {body : D → Ev → Res Fl} (emb : α → D) (p : α → Bool) (g : α → D) (st : Ev → Prop) : ∀ (xs : List α) (τ : Ev), st τ → (∀ x ∈ xs, ∀ τ, st τ → (p x = true → body (emb x) τ = .ok (.rt (g x))) ∧ (p x = false → ∃ τ', body (emb x) τ = .ok (.nx τ') ∧ st τ')) →
  match xs.find? p with
  | some x => forM body (xs.map emb) τ = .ok (.rt (g x))
  | none => ∃ τ', forM body (xs.map emb) τ = .ok (.nx τ') ∧ st τ'
 | [], τ, h, _ => ⟨τ, rfl, h⟩
 | x :: xs, τ, h, hb => by
  obtain ⟨h1, h2⟩ := hb x (by simp) τ h
  rw [List.find?_cons]
  cases hp : p x with
  | true =>
   show forM body _ τ = _
   rw [List.map_cons, Ev.for_c, h1 hp]
   rfl
  | false =>
   obtain ⟨τ', e, h'⟩ := h2 hp
   have := for_find emb p g st xs τ' h' fun y hy => hb y (List.mem_cons_of_mem _ hy)
   show match xs.find? p with | some x => _ | none => _
   rw [List.map_cons, Ev.for_c, e, Ev.bnd_k, Ev.ff_nx]
   exact this
theorem fmap_filter {α : Type} {g : D → Res (Option D)} (emb : α → D) (p : α → Bool) (out : α → D) : ∀ (xs : List α), (∀ x ∈ xs, g (emb x) = .ok (if p x = true then some (out x) else none)) → fmapM g (xs.map emb) = .ok ((xs.filter p).map out)
 | [], _ => rfl
 | x :: xs, h => by
  have ih := fmap_filter emb p out xs fun y hy => h y (List.mem_cons_of_mem _ hy)
  have h0 := h x (by simp)
  rw [List.map_cons, List.filter_cons]
  show bnd (g (emb x)) _ = _
  rw [h0]
  cases p x with
  | true =>
   rw [if_pos rfl, if_pos rfl]
   show bnd (fmapM g (xs.map emb)) _ = _
   rw [ih]
   rfl
  | false =>
   rw [if_neg (by decide), if_neg (by decide)]
   exact ih
theorem cellO {T : Tb} {f : Nat} {fn : Fn} (hT : T f = some fn) (h1 : fn.np = 2) (h2 : fn.G.N.length = 2) (h3 : fn.body = Fr.bCell) (n : Nat) (o : Bool) (ns : List Int) (k : Int) (hk : 0 ≤ k) : callF T (n + 1) f [.lst o (ns.map .int), .int k] = .ok (.int (ns.getD k.toNat 0)) := by
 rw [Ev.go hT h1 h2 h3 rfl]
 unfold Fr.bCell
 by_cases h : k < (ns.length : Int)
 ·have hd : decide (k < (((ns.map D.int).length : Nat) : Int)) = true := decide_eq_true (by rw [List.length_map]; exact h)
  simp -implicitDefEqProofs (disch := omega) only [ev0, Nat.reduceBEq, Nat.reduceSub, Nat.reduceAdd, reduceIte, hd]
 ·have hd : decide (k < (((ns.map D.int).length : Nat) : Int)) = false := decide_eq_false (by rw [List.length_map]; exact h)
  simp -implicitDefEqProofs (disch := omega) only [ev0, Nat.reduceBEq, Nat.reduceSub, Nat.reduceAdd, reduceIte, hd]
  rw [List.getD_eq_getElem?_getD, List.getElem?_eq_none (by omega)]
  rfl
theorem cell_ov {T : Tb} {f : Nat} {fn : Fn} (hT : T f = some fn) (h1 : fn.np = 2) (h2 : fn.G.N.length = 2) (h3 : fn.body = Fr.bCell) : OvOk T (cellOv f) :=
 cellOv_ok hT h1 h2 fun n ns o k hk => ⟨_, cellO hT h1 h2 h3 n o ns k hk⟩
section
variable {T : Tb}
noncomputable def whB : D → Bool
 | .int _ => true
 | _ => false
theorem wholeA {f : Nat} {fn : Fn} (hT : T f = some fn) (h1 : fn.np = 1) (h2 : fn.G.N.length = 1) (h3 : fn.body = Fr.bWhole) (n : Nat) (d : D) : callF T (n + 1) f [d] = .ok (.bl (whB d)) := by
 rw [Ev.go hT h1 h2 h3 rfl]
 unfold Fr.bWhole
 cases d <;> (simp -implicitDefEqProofs (disch := omega) only [ev0, Nat.reduceBEq, Nat.reduceSub, Nat.reduceAdd, reduceIte, whB])
noncomputable def bTruth : List IS := [(.ret (.and_ (.isi (.v 0) .bool) (.cmp .eq (.v 0) (.v 1))))]
theorem truth {f : Nat} {fn : Fn} (hT : T f = some fn) (h1 : fn.np = 2) (h2 : fn.G.N.length = 2) (h3 : fn.body = bTruth) (n : Nat) (a b : Bool) : callF T (n + 1) f [.bl a, .bl b] = .ok (.bl (a == b)) := by
 rw [Ev.go hT h1 h2 h3 rfl]
 unfold bTruth
 simp -implicitDefEqProofs (disch := omega) only [ev0, Nat.reduceBEq, Nat.reduceSub, Nat.reduceAdd, reduceIte]
end
end Ab
end L2
namespace L2
open PySem PySem.Spec PyProof.Rows PySem.SeqAt
namespace Ab
theorem ss_app {cl : Nat → List D → Res D} {a b : List IS} {τ : Ev} : evSs cl (a ++ b) τ = bnd (evSs cl a τ) (Ev.seqF (evSs cl b)) := by
 induction a generalizing τ with
 | nil => rfl
 | cons s r ih =>
  rw [List.cons_append, Ev.ss_c, Ev.ss_c]
  cases h : evS cl s τ with
  | error e => rfl
  | ok f =>
   cases f with
   | nx τ' => exact ih
   | _ => rfl
noncomputable def chkF (r : Option F) (E : AE) : Bool := match r with
 | some f => f.ct.isEmpty && f.bk.isEmpty && f.rt.isEmpty && f.nx.all fun E' => leE E' E
 | none => false
theorem seg {T : Tb} {ov : Nat → Nat → List A → Option U} (ho : OvOk T ov) {n : Nat} {ss : List IS} {E E' : AE} (e : chkF (aSs (aCall T ov n) ss E) E' = true) {τ : Ev} (g : Gam τ E) : ∃ τ', evSs (callF T n) ss τ = .ok (.nx τ') ∧ Gam τ' E' := by
 unfold chkF at e
 split at e
 ·rename_i f hf
  simp only [Bool.and_eq_true, List.isEmpty_iff] at e
  obtain ⟨fl, h1, h2⟩ := aSs_ok (aCall_ok ho n) ss hf g
  cases fl with
  | nx τ' =>
   obtain ⟨E1, hE, g1⟩ := h2
   exact ⟨τ', h1, leE_ok (List.all_eq_true.mp e.2 E1 hE) g1⟩
  | ct τ' => obtain ⟨E1, hE, g1⟩ := h2; rw [e.1.1.1] at hE; cases hE
  | bk τ' => obtain ⟨E1, hE, g1⟩ := h2; rw [e.1.1.2] at hE; cases hE
  | rt d => have h2 : InU d f.rt := h2; rw [e.1.2] at h2; cases h2
 ·cases e
theorem g_n {τ : Ev} : Gam τ [] ↔ τ = [] := by
 constructor
 ·intro h; cases h; rfl
 ·intro h; rw [h]; exact .nil
theorem g_c {τ : Ev} {a : A} {E : AE} : Gam τ (some a :: E) ↔ ∃ d τ', τ = some d :: τ' ∧ In d a ∧ Gam τ' E := by
 constructor
 ·intro h
  cases h with
  | cons h1 h2 => obtain ⟨d, rfl, hd⟩ := h1 a rfl; exact ⟨d, _, rfl, hd, h2⟩
 ·rintro ⟨d, τ', rfl, h1, h2⟩
  exact .cons (slOk_s h1) h2
theorem g_o {τ : Ev} {E : AE} : Gam τ (none :: E) ↔ ∃ o τ', τ = o :: τ' ∧ Gam τ' E := by
 constructor
 ·intro h
  cases h with
  | cons h1 h2 => exact ⟨_, _, rfl, h2⟩
 ·rintro ⟨d, τ', rfl, h2⟩
  exact .cons slOk_n h2
theorem x_0 {o : Bool} {d : D} {ds : List D} : opIx (.lst o (d :: ds)) (.int 0) = .ok d := by
 rw [Ev.x_l, Ev.atI_in d (Int.le_refl 0) (by rw [List.length_cons]; omega)]
 rfl
theorem a0 {α : Type} {x : α} {xs : List α} : atI (x :: xs) 0 = some x := Ev.atI_in x (Int.le_refl 0) (by rw [List.length_cons]; omega)
theorem a1 {α : Type} {x y : α} {xs : List α} : atI (x :: y :: xs) 1 = some y := Ev.atI_in x (by decide) (by rw [List.length_cons, List.length_cons]; omega)
theorem a2 {α : Type} {x y z : α} {xs : List α} : atI (x :: y :: z :: xs) 2 = some z := Ev.atI_in x (by decide) (by rw [List.length_cons, List.length_cons, List.length_cons]; omega)
noncomputable def pr (p : Str × D) : D := .tup [.str p.1, p.2]
theorem pr_lf {ps : List (Str × D)} (h : ∀ p ∈ ps, lfree p.2 = true) : lfrees (ps.map pr) = true := by
 rw [lfrees_all, List.all_map, List.all_eq_true]
 intro p hp
 show (true && (lfree p.2 && true)) = true
 rw [h p hp]
 rfl
noncomputable def bMark : List IS := [(.for_ (.tp [(.nm 2), (.nm 3)]) (.val (.v 0)) [(.if_ (.cmp .eq (.v 2) (.v 1)) [(.ret (.v 3))] [])]), (.ret (.c .non))]
noncomputable def mof (ps : List (Str × D)) (x : Str) : D := match ps.find? (fun p => p.1 == x) with
 | some p => p.2
 | none => .non
theorem markA {T : Tb} {f : Nat} {fn : Fn} (hT : T f = some fn) (h1 : fn.np = 2) (h2 : fn.G.N.length = 4) (h3 : fn.body = bMark) (n : Nat) (o : Bool) (ps : List (Str × D)) (hl : ∀ p ∈ ps, lfree p.2 = true) (x : Str) : callF T (n + 1) f [.lst o (ps.map pr), .str x] = .ok (mof ps x) := by
 rw [Ev.go hT h1 h2 h3 rfl]
 unfold bMark
 have he := ers_lfrees (pr_lf hl)
 have key := for_find (body := Ev.turn (callF T n) (.tp [.nm 2, .nm 3]) [(.if_ (.cmp .eq (.v 2) (.v 1)) [(.ret (.v 3))] [])]) pr (fun p => p.1 == x) (fun p => p.2) (fun τ => ∃ a b, τ = [some (.lst false (ps.map pr)), some (.str x), a, b]) ps [some (.lst false (ps.map pr)), some (.str x), none, none] ⟨_, _, rfl⟩ (by
  rintro p hp τ ⟨a, b, rfl⟩
  unfold pr
  constructor
  ·intro hx
   simp -implicitDefEqProofs (disch := omega) only [ev0, Nat.reduceBEq, Nat.reduceSub, Nat.reduceAdd, reduceIte, Ev.turn_eq, hx]
  ·intro hx
   refine ⟨_, ?_, some (.str p.1), some p.2, rfl⟩
   simp -implicitDefEqProofs (disch := omega) only [ev0, Nat.reduceBEq, Nat.reduceSub, Nat.reduceAdd, reduceIte, Ev.turn_eq, hx])
 unfold mof
 cases hf : ps.find? (fun p => p.1 == x) with
 | none =>
  rw [hf] at key
  obtain ⟨τ', e, a, b, rfl⟩ := key
  simp -implicitDefEqProofs (disch := omega) only [ev0, Nat.reduceBEq, Nat.reduceSub, Nat.reduceAdd, reduceIte, he, e]
 | some p =>
  rw [hf] at key
  have e : forM _ _ _ = _ := key
  simp -implicitDefEqProofs (disch := omega) only [ev0, Nat.reduceBEq, Nat.reduceSub, Nat.reduceAdd, reduceIte, he, e]
end Ab
end L2
namespace L2
open PySem PySem.Spec PyProof.Rows PySem.SeqAt
namespace Ab
theorem b_tf : (true == false) = false := rfl
theorem b_ft : (false == true) = false := rfl
theorem keep_lf {d : D} (h : lfree d = true) (e : IR) (τ : Ev) : keepD e d τ = (d, τ) := by unfold keepD; rw [if_pos h]
noncomputable def Th (d : D) : Prop := (∃ i, d = .int i) ∨ ∃ x, d = .str x ∧ x.length ≤ 1000
theorem th_lf {d : D} (h : Th d) : lfree d = true := by
 rcases h with ⟨_, rfl⟩ | ⟨_, rfl, _⟩ <;> rfl
theorem th_er {d : D} (h : Th d) : er d = d := er_lfree (th_lf h)
theorem ths_lf {ds : List D} (h : ∀ d ∈ ds, Th d) : lfrees ds = true := by
 rw [lfrees_all, List.all_eq_true]
 exact fun d hd => th_lf (h d hd)
noncomputable def eqT : D → D → Bool
 | .int a, .int b => a == b
 | .str a, .str b => a == b
 | _, _ => false
theorem eqT_ok {n : Nat} {a b : D} (ha : Th a) (hb : Th b) : eqN (n + 1) a b = .ok (eqT a b) := by
 rcases ha with ⟨_, rfl⟩ | ⟨_, rfl, _⟩ <;> rcases hb with ⟨_, rfl⟩ | ⟨_, rfl, _⟩ <;> rfl
theorem any_th {t : D} (ht : Th t) : ∀ {ds : List D}, (∀ d ∈ ds, Th d) → anyN t ds = .ok (ds.any fun d => eqT d t)
 | [], _ => rfl
 | d :: ds, h => by
  show bnd (eqN 40 d t) _ = _
  rw [eqT_ok (h d (by simp)) ht]
  show bnd (anyN t ds) _ = _
  rw [any_th ht fun e he => h e (List.mem_cons_of_mem _ he)]
  rfl
noncomputable def stB (t : D) (d : D) : Bool := match t, d with
 | .str x, .str y => Txt.startswith x y
 | _, _ => false
theorem starts_slice {x y : Str} (hx : x.length ≤ 16777216) : (Txt.slice x none (some ((y.length : Nat) : Int)) == y) = Txt.startswith x y := by
 have key : Builtin.Str.subAt x y 0 = (x.cps.toList.take y.length == y.cps.toList) := by rw [StrLaws.subAt_eq, List.drop_zero]
 have hlx : x.cps.toList.length = x.length := by simp [Str.length]
 have hly : y.cps.toList.length = y.length := by simp [Str.length]
 rw [slice_cut, Ev.cut_to _ (by omega), Int.toNat_natCast]
 show (_ == y) = (decide (0 + y.length ≤ x.length) && Builtin.Str.subAt x y 0)
 rw [key, Bool.eq_iff_iff, beq_iff_eq, Bool.and_eq_true, beq_iff_eq]
 constructor
 ·intro h
  have h2 : x.cps.toList.take y.length = y.cps.toList := by
   have := congrArg (fun z : Str => z.cps.toList) h
   simpa using this
  refine ⟨decide_eq_true ?_, h2⟩
  have := congrArg List.length h2
  rw [List.length_take, hlx, hly] at this
  omega
 ·rintro ⟨_, h⟩
  exact str_ext (by simpa using h)
theorem empS (x : Str) : ∀ xs : List Str, eqsG (eqN 39) ((xs.filter fun y => Txt.startswith x y).map .str) [] = .ok (!(xs.map D.str).any (stB (.str x)))
 | [] => rfl
 | y :: ys => by
  rw [List.filter_cons, List.map_cons, List.any_cons]
  have hs : stB (.str x) (.str y) = Txt.startswith x y := rfl
  rw [hs]
  cases Txt.startswith x y with
  | true => rfl
  | false => rw [if_neg (by decide), Bool.false_or]; exact empS x ys
noncomputable def hB (w : Str) (things : List D) : List D → Bool
 | [] => w == "not" || w == "lacks"
 | t :: _ => if w == "is" then things.any (fun d => eqT d t) else if w == "not" then !things.any (fun d => eqT d t) else if w == "begins" then things.any (stB t)
  else if w == "least" then (match t, things with | .int i, .int j :: _ => decide (j ≤ i) | _, _ => false)
  else if w == "most" then (match t, things with | .int i, .int j :: _ => decide (i ≤ j) | _, _ => false)
  else w == "has"
inductive Wd : Str → List D → Prop where
 | is {ts : List D} : (∀ d ∈ ts, Th d) → Wd "is" ts
 | not {ts : List D} : (∀ d ∈ ts, Th d) → Wd "not" ts
 | begins {xs : List Str} : (∀ x ∈ xs, x.length ≤ 1000) → Wd "begins" (xs.map .str)
 | least {i : Int} : Wd "least" [.int i]
 | most {i : Int} : Wd "most" [.int i]
 | has : Wd "has" []
 | lacks : Wd "lacks" []
theorem Wd.th {w : Str} {ts : List D} (h : Wd w ts) : ∀ d ∈ ts, Th d := by
 cases h with
 | is h => exact h
 | not h => exact h
 | begins h =>
  intro d hd
  obtain ⟨x, hx, rfl⟩ := List.mem_map.mp hd
  exact .inr ⟨x, rfl, h x hx⟩
 | least => intro d hd; rw [List.mem_singleton.mp hd]; exact .inl ⟨_, rfl⟩
 | most => intro d hd; rw [List.mem_singleton.mp hd]; exact .inl ⟨_, rfl⟩
 | has => intro d hd; cases hd
 | lacks => intro d hd; cases hd
section
variable {T : Tb}
noncomputable def bMH (fw : Nat) : List IS := [(.if_ (.cmp .eq (.v 0) (.c (.str "is"))) [(.ret (.and_ (.cmp .isn (.v 2) (.c .non)) (.cmp .in_ (.v 2) (.v 1))))] []), (.if_ (.cmp .eq (.v 0) (.c (.str "not"))) [(.ret (.or_ (.cmp .is_ (.v 2) (.c .non)) (.cmp .nin (.v 2) (.v 1))))] []), (.if_ (.cmp .eq (.v 0) (.c (.str "begins"))) [(.ret (.and_ (.isi (.v 2) .str) (.bi .any [(.comp { N := ["mark", "thing"], kd := [.cell, .local], gl := [], df := false } [2] (.nm 1) (.val (.v 1)) [] (.mth .starts (.v 0) [(.v 1)]))])))] []), (.if_ (.cmp .eq (.v 0) (.c (.str "least"))) [(.ret (.and_ (.call fw [(.v 2)]) (.cmp .ge (.v 2) (.idx (.v 1) (.c (.int 0))))))] []), (.if_ (.cmp .eq (.v 0) (.c (.str "most"))) [(.ret (.and_ (.call fw [(.v 2)]) (.cmp .le (.v 2) (.idx (.v 1) (.c (.int 0))))))] []), (.if_ (.cmp .eq (.v 0) (.c (.str "has"))) [(.ret (.cmp .isn (.v 2) (.c .non)))] []), (.ret (.cmp .is_ (.v 2) (.c .non)))]
theorem wq01 : ((Str.ofString "is") == (Str.ofString "not")) = false := by decide +kernel
theorem wq02 : ((Str.ofString "is") == (Str.ofString "begins")) = false := by decide +kernel
theorem wq03 : ((Str.ofString "is") == (Str.ofString "least")) = false := by decide +kernel
theorem wq04 : ((Str.ofString "is") == (Str.ofString "most")) = false := by decide +kernel
theorem wq05 : ((Str.ofString "is") == (Str.ofString "has")) = false := by decide +kernel
theorem wq06 : ((Str.ofString "is") == (Str.ofString "lacks")) = false := by decide +kernel
theorem wq07 : ((Str.ofString "is") == (Str.ofString "in")) = false := by decide +kernel
theorem wq08 : ((Str.ofString "is") == (Str.ofString "out")) = false := by decide +kernel
theorem wq10 : ((Str.ofString "not") == (Str.ofString "is")) = false := by decide +kernel
theorem wq12 : ((Str.ofString "not") == (Str.ofString "begins")) = false := by decide +kernel
theorem wq13 : ((Str.ofString "not") == (Str.ofString "least")) = false := by decide +kernel
theorem wq14 : ((Str.ofString "not") == (Str.ofString "most")) = false := by decide +kernel
theorem wq15 : ((Str.ofString "not") == (Str.ofString "has")) = false := by decide +kernel
theorem wq16 : ((Str.ofString "not") == (Str.ofString "lacks")) = false := by decide +kernel
theorem wq17 : ((Str.ofString "not") == (Str.ofString "in")) = false := by decide +kernel
theorem wq18 : ((Str.ofString "not") == (Str.ofString "out")) = false := by decide +kernel
theorem wq20 : ((Str.ofString "begins") == (Str.ofString "is")) = false := by decide +kernel
theorem wq21 : ((Str.ofString "begins") == (Str.ofString "not")) = false := by decide +kernel
theorem wq23 : ((Str.ofString "begins") == (Str.ofString "least")) = false := by decide +kernel
theorem wq24 : ((Str.ofString "begins") == (Str.ofString "most")) = false := by decide +kernel
theorem wq25 : ((Str.ofString "begins") == (Str.ofString "has")) = false := by decide +kernel
theorem wq26 : ((Str.ofString "begins") == (Str.ofString "lacks")) = false := by decide +kernel
theorem wq27 : ((Str.ofString "begins") == (Str.ofString "in")) = false := by decide +kernel
theorem wq28 : ((Str.ofString "begins") == (Str.ofString "out")) = false := by decide +kernel
theorem wq30 : ((Str.ofString "least") == (Str.ofString "is")) = false := by decide +kernel
theorem wq31 : ((Str.ofString "least") == (Str.ofString "not")) = false := by decide +kernel
theorem wq32 : ((Str.ofString "least") == (Str.ofString "begins")) = false := by decide +kernel
theorem wq34 : ((Str.ofString "least") == (Str.ofString "most")) = false := by decide +kernel
theorem wq35 : ((Str.ofString "least") == (Str.ofString "has")) = false := by decide +kernel
theorem wq36 : ((Str.ofString "least") == (Str.ofString "lacks")) = false := by decide +kernel
theorem wq37 : ((Str.ofString "least") == (Str.ofString "in")) = false := by decide +kernel
theorem wq38 : ((Str.ofString "least") == (Str.ofString "out")) = false := by decide +kernel
theorem wq40 : ((Str.ofString "most") == (Str.ofString "is")) = false := by decide +kernel
theorem wq41 : ((Str.ofString "most") == (Str.ofString "not")) = false := by decide +kernel
theorem wq42 : ((Str.ofString "most") == (Str.ofString "begins")) = false := by decide +kernel
theorem wq43 : ((Str.ofString "most") == (Str.ofString "least")) = false := by decide +kernel
theorem wq45 : ((Str.ofString "most") == (Str.ofString "has")) = false := by decide +kernel
theorem wq46 : ((Str.ofString "most") == (Str.ofString "lacks")) = false := by decide +kernel
theorem wq47 : ((Str.ofString "most") == (Str.ofString "in")) = false := by decide +kernel
theorem wq48 : ((Str.ofString "most") == (Str.ofString "out")) = false := by decide +kernel
theorem wq50 : ((Str.ofString "has") == (Str.ofString "is")) = false := by decide +kernel
theorem wq51 : ((Str.ofString "has") == (Str.ofString "not")) = false := by decide +kernel
theorem wq52 : ((Str.ofString "has") == (Str.ofString "begins")) = false := by decide +kernel
theorem wq53 : ((Str.ofString "has") == (Str.ofString "least")) = false := by decide +kernel
theorem wq54 : ((Str.ofString "has") == (Str.ofString "most")) = false := by decide +kernel
theorem wq56 : ((Str.ofString "has") == (Str.ofString "lacks")) = false := by decide +kernel
theorem wq57 : ((Str.ofString "has") == (Str.ofString "in")) = false := by decide +kernel
theorem wq58 : ((Str.ofString "has") == (Str.ofString "out")) = false := by decide +kernel
theorem wq60 : ((Str.ofString "lacks") == (Str.ofString "is")) = false := by decide +kernel
theorem wq61 : ((Str.ofString "lacks") == (Str.ofString "not")) = false := by decide +kernel
theorem wq62 : ((Str.ofString "lacks") == (Str.ofString "begins")) = false := by decide +kernel
theorem wq63 : ((Str.ofString "lacks") == (Str.ofString "least")) = false := by decide +kernel
theorem wq64 : ((Str.ofString "lacks") == (Str.ofString "most")) = false := by decide +kernel
theorem wq65 : ((Str.ofString "lacks") == (Str.ofString "has")) = false := by decide +kernel
theorem wq67 : ((Str.ofString "lacks") == (Str.ofString "in")) = false := by decide +kernel
theorem wq68 : ((Str.ofString "lacks") == (Str.ofString "out")) = false := by decide +kernel
theorem wq70 : ((Str.ofString "in") == (Str.ofString "is")) = false := by decide +kernel
theorem wq71 : ((Str.ofString "in") == (Str.ofString "not")) = false := by decide +kernel
theorem wq72 : ((Str.ofString "in") == (Str.ofString "begins")) = false := by decide +kernel
theorem wq73 : ((Str.ofString "in") == (Str.ofString "least")) = false := by decide +kernel
theorem wq74 : ((Str.ofString "in") == (Str.ofString "most")) = false := by decide +kernel
theorem wq75 : ((Str.ofString "in") == (Str.ofString "has")) = false := by decide +kernel
theorem wq76 : ((Str.ofString "in") == (Str.ofString "lacks")) = false := by decide +kernel
theorem wq78 : ((Str.ofString "in") == (Str.ofString "out")) = false := by decide +kernel
theorem wq80 : ((Str.ofString "out") == (Str.ofString "is")) = false := by decide +kernel
theorem wq81 : ((Str.ofString "out") == (Str.ofString "not")) = false := by decide +kernel
theorem wq82 : ((Str.ofString "out") == (Str.ofString "begins")) = false := by decide +kernel
theorem wq83 : ((Str.ofString "out") == (Str.ofString "least")) = false := by decide +kernel
theorem wq84 : ((Str.ofString "out") == (Str.ofString "most")) = false := by decide +kernel
theorem wq85 : ((Str.ofString "out") == (Str.ofString "has")) = false := by decide +kernel
theorem wq86 : ((Str.ofString "out") == (Str.ofString "lacks")) = false := by decide +kernel
theorem wq87 : ((Str.ofString "out") == (Str.ofString "in")) = false := by decide +kernel
theorem wqA : type_of% (And.intro (And.intro (And.intro (And.intro (And.intro (And.intro @wq01 @wq02) (And.intro @wq03 @wq04)) (And.intro (And.intro @wq05 @wq06) (And.intro @wq07 (And.intro @wq08 @wq10)))) (And.intro (And.intro (And.intro @wq12 @wq13) (And.intro @wq14 @wq15)) (And.intro (And.intro @wq16 @wq17) (And.intro @wq18 (And.intro @wq20 @wq21))))) (And.intro (And.intro (And.intro (And.intro @wq23 @wq24) (And.intro @wq25 @wq26)) (And.intro (And.intro @wq27 @wq28) (And.intro @wq30 (And.intro @wq31 @wq32)))) (And.intro (And.intro (And.intro @wq34 @wq35) (And.intro @wq36 @wq37)) (And.intro (And.intro @wq38 @wq40) (And.intro @wq41 (And.intro @wq42 @wq43)))))) (And.intro (And.intro (And.intro (And.intro (And.intro @wq45 @wq46) (And.intro @wq47 @wq48)) (And.intro (And.intro @wq50 @wq51) (And.intro @wq52 (And.intro @wq53 @wq54)))) (And.intro (And.intro (And.intro @wq56 @wq57) (And.intro @wq58 @wq60)) (And.intro (And.intro @wq61 @wq62) (And.intro @wq63 (And.intro @wq64 @wq65))))) (And.intro (And.intro (And.intro (And.intro @wq67 @wq68) (And.intro @wq70 @wq71)) (And.intro (And.intro @wq72 @wq73) (And.intro @wq74 (And.intro @wq75 @wq76)))) (And.intro (And.intro (And.intro @wq78 @wq80) (And.intro @wq81 @wq82)) (And.intro (And.intro @wq83 @wq84) (And.intro @wq85 (And.intro @wq86 @wq87))))))) := ⟨⟨⟨⟨⟨⟨@wq01, @wq02⟩, ⟨@wq03, @wq04⟩⟩, ⟨⟨@wq05, @wq06⟩, ⟨@wq07, ⟨@wq08, @wq10⟩⟩⟩⟩, ⟨⟨⟨@wq12, @wq13⟩, ⟨@wq14, @wq15⟩⟩, ⟨⟨@wq16, @wq17⟩, ⟨@wq18, ⟨@wq20, @wq21⟩⟩⟩⟩⟩, ⟨⟨⟨⟨@wq23, @wq24⟩, ⟨@wq25, @wq26⟩⟩, ⟨⟨@wq27, @wq28⟩, ⟨@wq30, ⟨@wq31, @wq32⟩⟩⟩⟩, ⟨⟨⟨@wq34, @wq35⟩, ⟨@wq36, @wq37⟩⟩, ⟨⟨@wq38, @wq40⟩, ⟨@wq41, ⟨@wq42, @wq43⟩⟩⟩⟩⟩⟩, ⟨⟨⟨⟨⟨@wq45, @wq46⟩, ⟨@wq47, @wq48⟩⟩, ⟨⟨@wq50, @wq51⟩, ⟨@wq52, ⟨@wq53, @wq54⟩⟩⟩⟩, ⟨⟨⟨@wq56, @wq57⟩, ⟨@wq58, @wq60⟩⟩, ⟨⟨@wq61, @wq62⟩, ⟨@wq63, ⟨@wq64, @wq65⟩⟩⟩⟩⟩, ⟨⟨⟨⟨@wq67, @wq68⟩, ⟨@wq70, @wq71⟩⟩, ⟨⟨@wq72, @wq73⟩, ⟨@wq74, ⟨@wq75, @wq76⟩⟩⟩⟩, ⟨⟨⟨@wq78, @wq80⟩, ⟨@wq81, @wq82⟩⟩, ⟨⟨@wq83, @wq84⟩, ⟨@wq85, ⟨@wq86, @wq87⟩⟩⟩⟩⟩⟩⟩
theorem if_skip {cl : Nat → List D → Res D} {τ : Ev} {i : Nat} {x w : Str} {b r : List IS} (hs : slotD τ i = some (.str w)) (hn : (w == x) = false) : evSs cl (.if_ (.cmp .eq (.v i) (.c (.str x))) b [] :: r) τ = evSs cl r τ := by
 rw [Ev.ss_c, Ev.st_if, Ev.t_t, Ev.r_cmp, Ev.r_v, hs, Ev.bnd_k, Ev.cmpK_k, Ev.r_c, Ev.bnd_k, Ev.cmpK2_k, Ev.c_eq, Ev.e_ss, hn]
 rfl
theorem if_hit {cl : Nat → List D → Res D} {τ : Ev} {i : Nat} {x w : Str} {b r : List IS} (hs : slotD τ i = some (.str w)) (hn : (w == x) = true) : evSs cl (.if_ (.cmp .eq (.v i) (.c (.str x))) b [] :: r) τ = bnd (evSs cl b τ) (Ev.seqF (evSs cl r)) := by
 rw [Ev.ss_c, Ev.st_if, Ev.t_t, Ev.r_cmp, Ev.r_v, hs, Ev.bnd_k, Ev.cmpK_k, Ev.r_c, Ev.bnd_k, Ev.cmpK2_k, Ev.c_eq, Ev.e_ss, hn]
 rfl
noncomputable abbrev tst (x : Str) : IR := .cmp .eq (.idx (.v 0) (.c (.int 1))) (.c (.str x))
theorem tst_ok {cl : Nat → List D → Res D} {τ : Ev} {name x w : Str} {l : D} (hs : slotD τ 0 = some (.tup [.str name, .str w, l])) : evR cl (tst x) τ = .ok (.bl (w == x)) := by
 rw [Ev.r_cmp, Ev.r_idx, Ev.r_v, hs, Ev.bnd_k, Ev.idxK_k, Ev.r_c, Ev.bnd_k, Ev.x_t, a1, Ev.bnd_k, Ev.cmpK_k, Ev.r_c, Ev.bnd_k, Ev.cmpK2_k, Ev.c_eq, Ev.e_ss]
 rfl
theorem if1 {cl : Nat → List D → Res D} {τ : Ev} {name x w : Str} {l : D} {b r : List IS} (hs : slotD τ 0 = some (.tup [.str name, .str w, l])) : evSs cl (.if_ (tst x) b [] :: r) τ = if (w == x) = true then bnd (evSs cl b τ) (Ev.seqF (evSs cl r)) else evSs cl r τ := by
 rw [Ev.ss_c, Ev.st_if, Ev.t_t, tst_ok hs]
 cases w == x <;> rfl
theorem if2 {cl : Nat → List D → Res D} {τ : Ev} {name x y w : Str} {l : D} {b r : List IS} (hs : slotD τ 0 = some (.tup [.str name, .str w, l])) : evSs cl (.if_ (.or_ (tst x) (tst y)) b [] :: r) τ = if (w == x || w == y) = true then bnd (evSs cl b τ) (Ev.seqF (evSs cl r)) else evSs cl r τ := by
 rw [Ev.ss_c, Ev.st_if, Ev.t_t, Ev.r_or, tst_ok hs, Ev.bnd_k, Ev.orK_k, Ev.tr_b, Ev.bnd_k, Ev.orK2_k]
 cases w == x with
 | true => rfl
 | false => rw [if_neg (by decide), tst_ok hs]; cases w == y <;> rfl
theorem if3 {cl : Nat → List D → Res D} {τ : Ev} {name x w : Str} {l : D} {e : IR} {c : Bool} {b r : List IS} (hs : slotD τ 0 = some (.tup [.str name, .str w, l])) (he : evR cl e τ = .ok (.bl c)) : evSs cl (.if_ (.and_ (tst x) e) b [] :: r) τ = if (w == x && c) = true then bnd (evSs cl b τ) (Ev.seqF (evSs cl r)) else evSs cl r τ := by
 rw [Ev.ss_c, Ev.st_if, Ev.t_t, Ev.r_and, tst_ok hs, Ev.bnd_k, Ev.andK_k, Ev.tr_b, Ev.bnd_k, Ev.andK2_k]
 cases w == x with
 | false => rfl
 | true => rw [if_pos rfl, he]; cases c <;> rfl
theorem if4 {cl : Nat → List D → Res D} {τ : Ev} {e : IR} {c : Bool} {b r : List IS} (he : evR cl e τ = .ok (.bl c)) : evSs cl (.if_ e b [] :: r) τ = if c = true then bnd (evSs cl b τ) (Ev.seqF (evSs cl r)) else evSs cl r τ := by
 rw [Ev.ss_c, Ev.st_if, Ev.t_t, he]
 cases c <;> rfl
noncomputable def hd1 : List D → D
 | [] => .non
 | t :: _ => t
theorem mark_holds {f fw : Nat} {fn gn : Fn} (hT : T f = some fn) (h1 : fn.np = 3) (h2 : fn.G.N.length = 3) (h3 : fn.body = bMH fw) (gT : T fw = some gn) (g1 : gn.np = 1) (g2 : gn.G.N.length = 1) (g3 : gn.body = Fr.bWhole)
  (n : Nat) (o : Bool) {w : Str} {things : List D} (hw : Wd w things) {there : List D} (ht : ∀ d ∈ there, Th d) (hsz : things.length ≤ 1000) : callF T (n + 2) f [.str w, .lst o things, hd1 there] = .ok (.bl (hB w things there)) := by
 rw [Ev.go hT h1 h2 h3 rfl]
 have ew := wholeA gT g1 g2 g3 n
 have hnn : ∀ t ts, there = t :: ts → isNon t = false := fun t ts h => by
  rcases ht t (by rw [h]; simp) with ⟨_, rfl⟩ | ⟨_, rfl, _⟩ <;> rfl
 show bnd (evSs (callF T (n + 1)) (bMH fw) [some (.str w), some (.lst o things), some (hd1 there)]) Ev.retF = _
 unfold bMH
 cases hw with
 | is h =>
  rw [if_hit rfl (beq_self_eq_true _)]
  cases there with
  | nil => simp -implicitDefEqProofs (disch := omega) only [ev0, Nat.reduceBEq, Nat.reduceSub, Nat.reduceAdd, reduceIte, hd1, hB, wqA]
  | cons t ts =>
   have ea := any_th (ht t (by simp)) h
   have hn := hnn t ts rfl
   simp -implicitDefEqProofs (disch := omega) only [ev0, Nat.reduceBEq, Nat.reduceSub, Nat.reduceAdd, reduceIte, hd1, hB, hn, ea]
 | not h =>
  rw [if_skip rfl wq10, if_hit rfl (beq_self_eq_true _)]
  cases there with
  | nil => simp -implicitDefEqProofs (disch := omega) only [ev0, Nat.reduceBEq, Nat.reduceSub, Nat.reduceAdd, reduceIte, hd1, hB, wqA]
  | cons t ts =>
   have ea := any_th (ht t (by simp)) h
   have hn := hnn t ts rfl
   simp -implicitDefEqProofs (disch := omega) only [ev0, Nat.reduceBEq, Nat.reduceSub, Nat.reduceAdd, reduceIte, hd1, hB, hn, ea, wqA]
 | @begins xs h =>
  rw [List.length_map] at hsz
  rw [if_skip rfl wq20, if_skip rfl wq21, if_hit rfl (beq_self_eq_true _)]
  cases there with
  | nil => simp -implicitDefEqProofs (disch := omega) only [ev0, Nat.reduceBEq, Nat.reduceSub, Nat.reduceAdd, reduceIte, hd1, hB, wqA]
  | cons t ts =>
   rcases ht t (by simp) with ⟨i, rfl⟩ | ⟨x, rfl, hx⟩
   ·have e0 : (xs.map D.str).any (stB (.int i)) = false := by rw [List.any_map, List.any_eq_false]; intro y _; exact fun z => by cases z
    simp -implicitDefEqProofs (disch := omega) only [ev0, Nat.reduceBEq, Nat.reduceSub, Nat.reduceAdd, reduceIte, wqA, hd1, hB, e0]
   ·have ec : fmapM (bodyM (callF T (n + 1)) (.nm 1) [] (.mth .starts (.v 0) [(.v 1)]) [some (.str x), none]) (xs.map .str) = .ok ((xs.map fun y => Txt.startswith x y).map .bl) := by
     refine Ev.fmap_all D.str (fun y => Txt.startswith x y) .bl _ fun y _ => ?_
     simp -implicitDefEqProofs (disch := omega) only [ev0, Nat.reduceBEq, Nat.reduceSub, Nat.reduceAdd, reduceIte]
    have ea : (xs.map fun y => Txt.startswith x y).any id = (xs.map D.str).any (stB (.str x)) := by rw [List.any_map, List.any_map]; rfl
    simp -implicitDefEqProofs (disch := omega) only [ev0, Nat.reduceBEq, Nat.reduceSub, Nat.reduceAdd, reduceIte, wqA, hd1, hB, ec, ea, List.length_map]
 | least =>
  rw [if_skip rfl wq30, if_skip rfl wq31, if_skip rfl wq32, if_hit rfl (beq_self_eq_true _)]
  cases there with
  | nil => simp -implicitDefEqProofs (disch := omega) only [ev0, Nat.reduceBEq, Nat.reduceSub, Nat.reduceAdd, reduceIte, wqA, hd1, hB, ew, whB]
  | cons t ts => rcases ht t (by simp) with ⟨i, rfl⟩ | ⟨x, rfl, hx⟩ <;> (simp -implicitDefEqProofs (disch := omega) only [ev0, Nat.reduceBEq, Nat.reduceSub, Nat.reduceAdd, reduceIte, wqA, hd1, hB, ew, whB, x_0])
 | most =>
  rw [if_skip rfl wq40, if_skip rfl wq41, if_skip rfl wq42, if_skip rfl wq43, if_hit rfl (beq_self_eq_true _)]
  cases there with
  | nil => simp -implicitDefEqProofs (disch := omega) only [ev0, Nat.reduceBEq, Nat.reduceSub, Nat.reduceAdd, reduceIte, wqA, hd1, hB, ew, whB]
  | cons t ts => rcases ht t (by simp) with ⟨i, rfl⟩ | ⟨x, rfl, hx⟩ <;> (simp -implicitDefEqProofs (disch := omega) only [ev0, Nat.reduceBEq, Nat.reduceSub, Nat.reduceAdd, reduceIte, wqA, hd1, hB, ew, whB, x_0])
 | has =>
  rw [if_skip rfl wq50, if_skip rfl wq51, if_skip rfl wq52, if_skip rfl wq53, if_skip rfl wq54, if_hit rfl (beq_self_eq_true _)]
  cases there with
  | nil => simp -implicitDefEqProofs (disch := omega) only [ev0, Nat.reduceBEq, Nat.reduceSub, Nat.reduceAdd, reduceIte, wqA, hd1, hB]
  | cons t ts =>
   have hn := hnn t ts rfl
   simp -implicitDefEqProofs (disch := omega) only [ev0, Nat.reduceBEq, Nat.reduceSub, Nat.reduceAdd, reduceIte, wqA, hd1, hB, hn]
 | lacks =>
  rw [if_skip rfl wq60, if_skip rfl wq61, if_skip rfl wq62, if_skip rfl wq63, if_skip rfl wq64, if_skip rfl wq65]
  cases there with
  | nil => simp -implicitDefEqProofs (disch := omega) only [ev0, Nat.reduceBEq, Nat.reduceSub, Nat.reduceAdd, reduceIte, wqA, hd1, hB]
  | cons t ts =>
   have hn := hnn t ts rfl
   simp -implicitDefEqProofs (disch := omega) only [ev0, Nat.reduceBEq, Nat.reduceSub, Nat.reduceAdd, reduceIte, wqA, hd1, hB, hn]
noncomputable def bCH (fg fm fo : Nat) : List IS := [(.asg (.nm 3) (.idx (.v 1) (.c (.int 0)))), (.asg (.nm 4) (.idx (.v 1) (.c (.int 1)))), (.if_ (.cmp .eq (.v 4) (.c (.str "in"))) [(.ret (.call fg [(.v 0), (.v 3), (.v 2)]))] []), (.if_ (.cmp .eq (.v 4) (.c (.str "out"))) [(.ret (.not_ (.call fg [(.v 0), (.v 3), (.v 2)])))] []), (.ret (.call fm [(.v 4), (.idx (.v 1) (.c (.int 2))), (.call fo [(.v 2), (.v 3)])]))]
noncomputable def thr (ps : List (Str × D)) (x : Str) : List D := (ps.filter fun p => p.1 == x).map (·.2)
theorem mof_thr (ps : List (Str × D)) (x : Str) : mof ps x = hd1 (thr ps x) := by
 unfold mof thr
 rw [← List.head?_filter]
 cases ps.filter (fun p => p.1 == x) <;> rfl
theorem thr_th {ps : List (Str × D)} (hp : ∀ p ∈ ps, Th p.2) (x : Str) : ∀ d ∈ thr ps x, Th d := by
 intro d hd
 obtain ⟨p, hpp, rfl⟩ := List.mem_map.mp hd
 exact hp p (List.mem_filter.mp hpp).1
theorem Wd.ne {w : Str} {ts : List D} (h : Wd w ts) : (w == Str.ofString "in") = false ∧ (w == Str.ofString "out") = false := by
 cases h <;> exact ⟨by decide +kernel, by decide +kernel⟩
theorem cond_holds {f fg fm fo fw : Nat} {fn mn on gn : Fn} (hT : T f = some fn) (h1 : fn.np = 3) (h2 : fn.G.N.length = 5) (h3 : fn.body = bCH fg fm fo) (mT : T fm = some mn) (m1 : mn.np = 3) (m2 : mn.G.N.length = 3) (m3 : mn.body = bMH fw)
  (oT : T fo = some on) (o1 : on.np = 2) (o2 : on.G.N.length = 4) (o3 : on.body = bMark) (gT : T fw = some gn) (g1 : gn.np = 1) (g2 : gn.G.N.length = 1) (g3 : gn.body = Fr.bWhole)
  (n : Nat) (gs : D) (o o' : Bool) {name w : Str} {things : List D} (hw : Wd w things) (hsz : things.length ≤ 1000) {ps : List (Str × D)} (hp : ∀ p ∈ ps, Th p.2) : callF T (n + 3) f [gs, .tup [.str name, .str w, .lst o things], .lst o' (ps.map pr)] = .ok (.bl (hB w things (thr ps name))) := by
 rw [Ev.go hT h1 h2 h3 rfl]
 have hl : ∀ p ∈ ps, lfree p.2 = true := fun p h => th_lf (hp p h)
 have he := ers_lfrees (pr_lf hl)
 have ht := ers_lfrees (ths_lf hw.th)
 have e1 := markA oT o1 o2 o3 (n + 1) false ps hl name
 rw [mof_thr] at e1
 have e2 := mark_holds mT m1 m2 m3 gT g1 g2 g3 n false hw (thr_th hp name) hsz
 have e3 : er (hd1 (thr ps name)) = hd1 (thr ps name) := by
  have := thr_th hp name
  cases h : thr ps name with
  | nil => rfl
  | cons t ts => rw [h] at this; exact th_er (this t (by simp))
 obtain ⟨n1, n2⟩ := hw.ne
 unfold bCH
 simp -implicitDefEqProofs (disch := omega) only [ev0, Nat.reduceBEq, Nat.reduceSub, Nat.reduceAdd, reduceIte, a0, a1, a2, n1, n2, he, ht, e1, e2, e3]
noncomputable def bPlain : List IS := [(.asg (.nm 2) (.comp { N := ["_law_cond_here", "_law_pair"], kd := [.cell, .local], gl := [], df := false } [0] (.nm 1) (.val (.v 1)) [(.cmp .eq (.idx (.v 1) (.c (.int 0))) (.idx (.v 0) (.c (.int 0))))] (.idx (.v 1) (.c (.int 1))))), (.if_ (.or_ (.cmp .eq (.idx (.v 0) (.c (.int 1))) (.c (.str "has"))) (.cmp .eq (.idx (.v 0) (.c (.int 1))) (.c (.str "lacks")))) [(.ret (.cmp .eq (.cmp .eq (.v 2) (.lst [])) (.cmp .eq (.idx (.v 0) (.c (.int 1))) (.c (.str "lacks")))))] []), (.if_ (.and_ (.cmp .eq (.idx (.v 0) (.c (.int 1))) (.c (.str "not"))) (.cmp .eq (.v 2) (.lst []))) [(.ret (.c (.bl true)))] []), (.if_ (.cmp .eq (.v 2) (.lst [])) [(.ret (.c (.bl false)))] []), (.asg (.nm 3) (.idx (.v 2) (.c (.int 0)))), (.if_ (.or_ (.cmp .eq (.idx (.v 0) (.c (.int 1))) (.c (.str "is"))) (.cmp .eq (.idx (.v 0) (.c (.int 1))) (.c (.str "not")))) [(.asg (.nm 4) (.comp { N := ["_law_thing_here", "_law_one"], kd := [.cell, .local], gl := [14, 11], df := false } [3] (.nm 1) (.val (.idx (.v 0) (.c (.int 2)))) [(.and_ (.cmp .eq (.isi (.v 1) .str) (.isi (.v 0) .str)) (.cmp .eq (.v 1) (.v 0)))] (.v 1))), (.ret (.cmp .eq (.cmp .ne (.v 4) (.lst [])) (.cmp .eq (.idx (.v 0) (.c (.int 1))) (.c (.str "is")))))] []), (.if_ (.cmp .eq (.idx (.v 0) (.c (.int 1))) (.c (.str "begins"))) [(.ret (.and_ (.isi (.v 3) .str) (.cmp .ne (.comp { N := ["_law_thing_here", "_law_one"], kd := [.cell, .local], gl := [0], df := false } [3] (.nm 1) (.val (.idx (.v 0) (.c (.int 2)))) [(.cmp .eq (.sl (.v 0) none (some (.bi .len [(.v 1)]))) (.v 1))] (.v 1)) (.lst []))))] []), (.if_ (.isi (.v 3) .str) [(.ret (.c (.bl false)))] []), (.if_ (.cmp .eq (.idx (.v 0) (.c (.int 1))) (.c (.str "least"))) [(.ret (.cmp .le (.idx (.idx (.v 0) (.c (.int 2))) (.c (.int 0))) (.v 3)))] []), (.ret (.cmp .le (.v 3) (.idx (.idx (.v 0) (.c (.int 2))) (.c (.int 0)))))]
theorem plain {f : Nat} {fn : Fn} (hT : T f = some fn) (h1 : fn.np = 2) (h2 : fn.G.N.length = 5) (h3 : fn.body = bPlain)
  (n : Nat) (o o' : Bool) {name w : Str} {things : List D} (hw : Wd w things) (hsz : things.length ≤ 1000) {ps : List (Str × D)} (hp : ∀ p ∈ ps, Th p.2) (hps : ps.length ≤ 1000) : callF T (n + 1) f [.tup [.str name, .str w, .lst o things], .lst o' (ps.map pr)] = .ok (.bl (hB w things (thr ps name))) := by
 rw [Ev.go hT h1 h2 h3 rfl]
 have hl : ∀ p ∈ ps, lfree p.2 = true := fun p h => th_lf (hp p h)
 have lp : (ps.map pr).length = ps.length := List.length_map ..
 have e0 : fmapM (bodyM (callF T n) (.nm 1) [(.cmp .eq (.idx (.v 1) (.c (.int 0))) (.idx (.v 0) (.c (.int 0))))] (.idx (.v 1) (.c (.int 1))) [some (.tup [.str name, .str w, .lst o things]), none]) (ps.map pr) = .ok (thr ps name) := by
  refine fmap_filter pr (fun p => p.1 == name) (·.2) ps fun p hp => ?_
  unfold pr
  cases hx : p.1 == name <;> (simp -implicitDefEqProofs (disch := omega) only [ev0, Nat.reduceBEq, Nat.reduceSub, Nat.reduceAdd, reduceIte, a0, a1, hx])
 have th := thr_th hp name
 have thf := ths_lf th
 generalize thr ps name = there at *
 have e1 : evS (callF T n) (.asg (.nm 2) (.comp { N := ["_law_cond_here", "_law_pair"], kd := [.cell, .local], gl := [], df := false } [0] (.nm 1) (.val (.v 1)) [(.cmp .eq (.idx (.v 1) (.c (.int 0))) (.idx (.v 0) (.c (.int 0))))] (.idx (.v 1) (.c (.int 1))))) [some (.tup [.str name, .str w, .lst o things]), some (.lst o' (ps.map pr)), none, none, none] = .ok (.nx [some (.tup [.str name, .str w, .lst o things]), some (.lst o' (ps.map pr)), some (.lst true there), none, none]) := by
  simp -implicitDefEqProofs (disch := omega) only [ev0, Nat.reduceBEq, Nat.reduceSub, Nat.reduceAdd, reduceIte, e0, lp, thf]
 show bnd (evSs (callF T n) bPlain [some (.tup [.str name, .str w, .lst o things]), some (.lst o' (ps.map pr)), none, none, none]) Ev.retF = _
 unfold bPlain
 rw [Ev.ss_c, e1, Ev.bnd_k, Ev.sq_nx]
 have he : evR (callF T n) (.cmp .eq (.v 2) (.lst [])) [some (.tup [.str name, .str w, .lst o things]), some (.lst o' (ps.map pr)), some (.lst true there), none, none] = .ok (.bl there.isEmpty) := by
  cases there <;> (simp -implicitDefEqProofs (disch := omega) only [ev0, Nat.reduceBEq, Nat.reduceSub, Nat.reduceAdd, reduceIte, List.isEmpty_nil, List.isEmpty_cons])
 cases there with
 | nil =>
  rw [List.isEmpty_nil] at he
  cases hw with
  | is h =>
   rw [if2 (w := Str.ofString "is") rfl, if_neg (by rw [wq05, wq06]; decide), if3 (w := Str.ofString "is") rfl he, if_neg (by decide +kernel), if4 he, if_pos rfl]
   simp -implicitDefEqProofs (disch := omega) only [ev0, Nat.reduceBEq, Nat.reduceSub, Nat.reduceAdd, reduceIte, wqA, hB]
  | not h =>
   rw [if2 (w := Str.ofString "not") rfl, if_neg (by rw [wq15, wq16]; decide), if3 (w := Str.ofString "not") rfl he, if_pos (by decide +kernel)]
   simp -implicitDefEqProofs (disch := omega) only [ev0, Nat.reduceBEq, Nat.reduceSub, Nat.reduceAdd, reduceIte, hB]
  | begins h =>
   rw [if2 (w := Str.ofString "begins") rfl, if_neg (by rw [wq25, wq26]; decide), if3 (w := Str.ofString "begins") rfl he, if_neg (by decide +kernel), if4 he, if_pos rfl]
   simp -implicitDefEqProofs (disch := omega) only [ev0, Nat.reduceBEq, Nat.reduceSub, Nat.reduceAdd, reduceIte, wqA, hB]
  | least =>
   rw [if2 (w := Str.ofString "least") rfl, if_neg (by rw [wq35, wq36]; decide), if3 (w := Str.ofString "least") rfl he, if_neg (by decide +kernel), if4 he, if_pos rfl]
   simp -implicitDefEqProofs (disch := omega) only [ev0, Nat.reduceBEq, Nat.reduceSub, Nat.reduceAdd, reduceIte, wqA, hB]
  | most =>
   rw [if2 (w := Str.ofString "most") rfl, if_neg (by rw [wq45, wq46]; decide), if3 (w := Str.ofString "most") rfl he, if_neg (by decide +kernel), if4 he, if_pos rfl]
   simp -implicitDefEqProofs (disch := omega) only [ev0, Nat.reduceBEq, Nat.reduceSub, Nat.reduceAdd, reduceIte, wqA, hB]
  | has =>
   rw [if2 (w := Str.ofString "has") rfl, if_pos (by decide +kernel)]
   simp -implicitDefEqProofs (disch := omega) only [ev0, Nat.reduceBEq, Nat.reduceSub, Nat.reduceAdd, reduceIte, wqA, a1, hB, b_tf, b_ft]
  | lacks =>
   rw [if2 (w := Str.ofString "lacks") rfl, if_pos (by decide +kernel)]
   simp -implicitDefEqProofs (disch := omega) only [ev0, Nat.reduceBEq, Nat.reduceSub, Nat.reduceAdd, reduceIte, wqA, a1, hB, b_tf, b_ft]
 | cons t ts =>
  rw [List.isEmpty_cons] at he
  have htt := th t (by simp)
  have hlt := th_lf htt
  have hk := keep_lf hlt
  have alike : ∀ things : List D, (∀ d ∈ things, Th d) → fmapM (bodyM (callF T n) (.nm 1) [(.and_ (.cmp .eq (.isi (.v 1) .str) (.isi (.v 0) .str)) (.cmp .eq (.v 1) (.v 0)))] (.v 1) [some t, none]) things = .ok (things.filter fun d => eqT d t) := by
   intro things h
   have := fmap_filter (g := bodyM (callF T n) (.nm 1) [(.and_ (.cmp .eq (.isi (.v 1) .str) (.isi (.v 0) .str)) (.cmp .eq (.v 1) (.v 0)))] (.v 1) [some t, none]) id (fun d => eqT d t) id things fun d hd => by
    rcases h d hd with ⟨i, rfl⟩ | ⟨x, rfl, _⟩ <;> rcases htt with ⟨j, rfl⟩ | ⟨y, rfl, _⟩
    ·cases hx : i == j <;> (simp -implicitDefEqProofs (disch := omega) only [ev0, Nat.reduceBEq, Nat.reduceSub, Nat.reduceAdd, reduceIte, id, eqT, hx])
    ·simp -implicitDefEqProofs (disch := omega) only [ev0, Nat.reduceBEq, Nat.reduceSub, Nat.reduceAdd, reduceIte, id, eqT, b_tf, b_ft]
    ·simp -implicitDefEqProofs (disch := omega) only [ev0, Nat.reduceBEq, Nat.reduceSub, Nat.reduceAdd, reduceIte, id, eqT, b_tf, b_ft]
    ·cases hx : x == y <;> (simp -implicitDefEqProofs (disch := omega) only [ev0, Nat.reduceBEq, Nat.reduceSub, Nat.reduceAdd, reduceIte, id, eqT, hx])
   rw [List.map_id, List.map_id] at this
   exact this
  have emp : ∀ (things : List D) (p : D → Bool), eqsG (eqN 39) (things.filter p) [] = .ok (!things.any p) := by
   intro things p
   induction things with
   | nil => rfl
   | cons d ds ih =>
    rw [List.filter_cons, List.any_cons]
    cases p d with
    | true => rfl
    | false => rw [if_neg (by decide), Bool.false_or]; exact ih
  have e4 : evS (callF T n) (.asg (.nm 3) (.idx (.v 2) (.c (.int 0)))) [some (.tup [.str name, .str w, .lst o things]), some (.lst o' (ps.map pr)), some (.lst true (t :: ts)), none, none] = .ok (.nx [some (.tup [.str name, .str w, .lst o things]), some (.lst o' (ps.map pr)), some (.lst true (t :: ts)), some t, none]) := by
   simp -implicitDefEqProofs (disch := omega) only [ev0, Nat.reduceBEq, Nat.reduceSub, Nat.reduceAdd, reduceIte, x_0, hk]
  have hi : evR (callF T n) (.isi (.v 3) .str) [some (.tup [.str name, .str w, .lst o things]), some (.lst o' (ps.map pr)), some (.lst true (t :: ts)), some t, none] = .ok (.bl (isiD .str t)) := by
   simp -implicitDefEqProofs (disch := omega) only [ev0, Nat.reduceBEq, Nat.reduceSub, Nat.reduceAdd, reduceIte]
  cases hw with
  | @is things h =>
   have e1 := alike things h
   have e2 := emp things fun d => eqT d t
   have e3 : lfrees (things.filter fun d => eqT d t) = true := ths_lf fun d hd => h d (List.mem_filter.mp hd).1
   rw [if2 (w := Str.ofString "is") rfl, if_neg (by rw [wq05, wq06]; decide), if3 (w := Str.ofString "is") rfl he, if_neg (by rw [Bool.and_false]; decide), if4 he, if_neg (by decide), Ev.ss_c, e4, Ev.bnd_k, Ev.sq_nx, if2 (w := Str.ofString "is") rfl, if_pos (by decide +kernel)]
   cases hb : things.any (fun d => eqT d t) <;> (rw [hb] at e2; simp -implicitDefEqProofs (disch := omega) only [ev0, Nat.reduceBEq, Nat.reduceSub, Nat.reduceAdd, reduceIte, wqA, a1, a2, e1, e2, e3, hB, hb, b_tf, b_ft])
  | @not things h =>
   have e1 := alike things h
   have e2 := emp things fun d => eqT d t
   have e3 : lfrees (things.filter fun d => eqT d t) = true := ths_lf fun d hd => h d (List.mem_filter.mp hd).1
   rw [if2 (w := Str.ofString "not") rfl, if_neg (by rw [wq15, wq16]; decide), if3 (w := Str.ofString "not") rfl he, if_neg (by rw [Bool.and_false]; decide), if4 he, if_neg (by decide), Ev.ss_c, e4, Ev.bnd_k, Ev.sq_nx, if2 (w := Str.ofString "not") rfl, if_pos (by decide +kernel)]
   cases hb : things.any (fun d => eqT d t) <;> (rw [hb] at e2; simp -implicitDefEqProofs (disch := omega) only [ev0, Nat.reduceBEq, Nat.reduceSub, Nat.reduceAdd, reduceIte, wqA, a1, a2, e1, e2, e3, hB, hb, b_tf, b_ft])
  | @begins xs h =>
   rw [List.length_map] at hsz
   rw [if2 (w := Str.ofString "begins") rfl, if_neg (by rw [wq25, wq26]; decide), if3 (w := Str.ofString "begins") rfl he, if_neg (by rw [Bool.and_false]; decide), if4 he, if_neg (by decide), Ev.ss_c, e4, Ev.bnd_k, Ev.sq_nx, if2 (w := Str.ofString "begins") rfl, if_neg (by rw [wq20, wq21]; decide), if1 (w := Str.ofString "begins") rfl, if_pos (beq_self_eq_true _)]
   rcases htt with ⟨i, rfl⟩ | ⟨x, rfl, hx⟩
   ·have e1 : (xs.map D.str).any (stB (.int i)) = false := by rw [List.any_map, List.any_eq_false]; intro y _; exact fun z => by cases z
    simp -implicitDefEqProofs (disch := omega) only [ev0, Nat.reduceBEq, Nat.reduceSub, Nat.reduceAdd, reduceIte, wqA, e1, hB]
   ·have ec : fmapM (bodyM (callF T n) (.nm 1) [(.cmp .eq (.sl (.v 0) none (some (.bi .len [(.v 1)]))) (.v 1))] (.v 1) [some (.str x), none]) (xs.map .str) = .ok ((xs.filter fun y => Txt.startswith x y).map .str) := by
     refine fmap_filter D.str (fun y => Txt.startswith x y) D.str xs fun y hy => ?_
     have hy' := h y hy
     have es := starts_slice (x := x) (y := y) (by omega)
     cases hb : Txt.startswith x y <;> (rw [hb] at es; simp -implicitDefEqProofs (disch := omega) only [ev0, Nat.reduceBEq, Nat.reduceSub, Nat.reduceAdd, reduceIte, es])
    have e2 := empS x xs
    cases hb : (xs.map D.str).any (stB (.str x)) <;> (rw [hb] at e2; simp -implicitDefEqProofs (disch := omega) only [ev0, Nat.reduceBEq, Nat.reduceSub, Nat.reduceAdd, reduceIte, wqA, a2, ec, e2, hB, hb, List.length_map])
  | least =>
   rw [if2 (w := Str.ofString "least") rfl, if_neg (by rw [wq35, wq36]; decide), if3 (w := Str.ofString "least") rfl he, if_neg (by rw [Bool.and_false]; decide), if4 he, if_neg (by decide), Ev.ss_c, e4, Ev.bnd_k, Ev.sq_nx, if2 (w := Str.ofString "least") rfl, if_neg (by rw [wq30, wq31]; decide), if1 (w := Str.ofString "least") rfl, if_neg (by rw [wq32]; decide), if4 hi]
   rcases htt with ⟨i, rfl⟩ | ⟨x, rfl, hx⟩
   ·rw [show isiD .str (.int i) = false from rfl, if_neg (by decide), if1 (w := Str.ofString "least") rfl, if_pos (beq_self_eq_true _)]
    simp -implicitDefEqProofs (disch := omega) only [ev0, Nat.reduceBEq, Nat.reduceSub, Nat.reduceAdd, reduceIte, wqA, a2, x_0, hB]
   ·rw [show isiD .str (.str x) = true from rfl, if_pos rfl]
    simp -implicitDefEqProofs (disch := omega) only [ev0, Nat.reduceBEq, Nat.reduceSub, Nat.reduceAdd, reduceIte, wqA, hB]
  | most =>
   rw [if2 (w := Str.ofString "most") rfl, if_neg (by rw [wq45, wq46]; decide), if3 (w := Str.ofString "most") rfl he, if_neg (by rw [Bool.and_false]; decide), if4 he, if_neg (by decide), Ev.ss_c, e4, Ev.bnd_k, Ev.sq_nx, if2 (w := Str.ofString "most") rfl, if_neg (by rw [wq40, wq41]; decide), if1 (w := Str.ofString "most") rfl, if_neg (by rw [wq42]; decide), if4 hi]
   rcases htt with ⟨i, rfl⟩ | ⟨x, rfl, hx⟩
   ·rw [show isiD .str (.int i) = false from rfl, if_neg (by decide), if1 (w := Str.ofString "most") rfl, if_neg (by rw [wq43]; decide)]
    simp -implicitDefEqProofs (disch := omega) only [ev0, Nat.reduceBEq, Nat.reduceSub, Nat.reduceAdd, reduceIte, wqA, a2, x_0, hB]
   ·rw [show isiD .str (.str x) = true from rfl, if_pos rfl]
    simp -implicitDefEqProofs (disch := omega) only [ev0, Nat.reduceBEq, Nat.reduceSub, Nat.reduceAdd, reduceIte, wqA, hB]
  | has =>
   rw [if2 (w := Str.ofString "has") rfl, if_pos (by decide +kernel)]
   simp -implicitDefEqProofs (disch := omega) only [ev0, Nat.reduceBEq, Nat.reduceSub, Nat.reduceAdd, reduceIte, wqA, a1, hB, b_tf, b_ft]
  | lacks =>
   rw [if2 (w := Str.ofString "lacks") rfl, if_pos (by decide +kernel)]
   simp -implicitDefEqProofs (disch := omega) only [ev0, Nat.reduceBEq, Nat.reduceSub, Nat.reduceAdd, reduceIte, wqA, a1, hB, b_tf, b_ft]
end
end Ab
end L2
namespace L2
open PySem PySem.Spec PyProof.Rows PySem.SeqAt
namespace Ab
noncomputable def sE (τ : Ev) (i : Nat) : Option D := (slotD τ i).map er
theorem sE_set {τ : Ev} {i k : Nat} {o : Option D} (h : i ≠ k) : sE (τ.set k o) i = sE τ i := by
 unfold sE slotD
 rw [List.getElem?_set_ne (fun e => h e.symm)]
theorem sE_er {τ : Ev} {i k : Nat} {d : D} (h : slotD τ k = some d) : sE (τ.set k (some (er d))) i = sE τ i := by
 by_cases e : i = k
 ·subst e
  unfold sE
  rw [h]
  have hl : i < τ.length := by
   unfold slotD at h
   rcases Nat.lt_or_ge i τ.length with hl | hl
   ·exact hl
   ·rw [List.getElem?_eq_none hl] at h; cases h
  unfold slotD
  rw [List.getElem?_set_self hl]
  show some (er (er d)) = some (er d)
  rw [er_er]
 ·exact sE_set e
theorem sE_frz {is : List Nat} : ∀ {τ : Ev} {k i : Nat}, sE (frzA is k τ) i = sE τ i
 | [], k, i => rfl
 | o :: τ, k, 0 => by
  rw [frzA]
  unfold sE slotD
  rw [List.getElem?_cons_zero, List.getElem?_cons_zero]
  cases is.contains k with
  | false => rfl
  | true =>
   cases o with
   | none => rfl
   | some d => show some (er (er d)) = some (er d); rw [er_er]
 | o :: τ, k, i + 1 => by
  rw [frzA]
  have := sE_frz (is := is) (τ := τ) (k := k + 1) (i := i)
  unfold sE at this ⊢
  rw [slotD_cons, slotD_cons]
  exact this
theorem sE_keep {e : IR} {d : D} {τ : Ev} {i : Nat} : sE (keepD e d τ).2 i = sE τ i := by
 rw [show keepD e d τ = if lfree d = true then (d, τ) else kpD e τ (newList? e) d from keepD_eq]
 split
 ·rfl
 ·unfold kpD
  split
  ·split
   ·rfl
   ·exact sE_frz
  ·exact sE_frz
theorem bnd_ok {α β : Type} {x : Res α} {f : α → Res β} {b : β} (h : bnd x f = .ok b) : ∃ a, x = .ok a ∧ f a = .ok b := by
 cases x with
 | ok a => exact ⟨a, rfl, h⟩
 | error e => cases h
theorem grd_ok {α : Type} {c : Bool} {x : Res α} {a : α} (h : grd c x = .ok a) : x = .ok a := by
 unfold grd at h
 split at h
 ·exact h
 ·cases h
theorem keep_fr {cl : Nat → List D → Res D} {e : IR} {τ : Ev} {q : D × Ev} (h : bnd (evR cl e τ) (fun d => .ok (keepD e d τ)) = .ok q) (i : Nat) : sE q.2 i = sE τ i := by
 obtain ⟨d, _, h2⟩ := bnd_ok h
 cases h2
 exact sE_keep
mutual
theorem evO_fr {cl : Nat → List D → Res D} : ∀ (e : IR) {τ : Ev} {q : D × Ev}, evO cl false e τ = .ok q → ∀ i, sE q.2 i = sE τ i
 | .v k, τ, q, h, i => by
  rw [Ev.o_v] at h
  cases hs : slotD τ k with
  | none => rw [hs] at h; cases h
  | some d => rw [hs] at h; cases h; exact sE_er hs
 | .tup es, τ, q, h, i => by
  rw [Ev.o_tup] at h
  obtain ⟨p, h1, h2⟩ := bnd_ok h
  cases grd_ok h2
  exact evOs_fr es h1 i
 | .lst es, τ, q, h, i => by
  rw [Ev.o_lst] at h
  obtain ⟨p, h1, h2⟩ := bnd_ok h
  cases grd_ok h2
  exact evOs_fr es h1 i
 | .ite t a b, τ, q, h, i => by
  rw [Ev.o_ite] at h
  obtain ⟨r, _, h2⟩ := bnd_ok h
  rw [Ev.oiteK_k] at h2
  split at h2
  ·exact evO_fr a h2 i
  ·exact evO_fr b h2 i
 | .call f es, τ, q, h, i => by
  rw [Ev.o_call] at h
  obtain ⟨ds, _, h2⟩ := bnd_ok h
  obtain ⟨d, _, h3⟩ := bnd_ok h2
  rw [Ev.ocallK2_k] at h3
  split at h3
  ·cases h3; rfl
  ·cases h3; exact sE_frz
 | .c d, τ, q, h, i => keep_fr h i
 | .g n d, τ, q, h, i => keep_fr h i
 | .bin op a b, τ, q, h, i => keep_fr h i
 | .neg a, τ, q, h, i => keep_fr h i
 | .cmp op a b, τ, q, h, i => keep_fr h i
 | .chain op op' a b c, τ, q, h, i => keep_fr h i
 | .and_ a b, τ, q, h, i => keep_fr h i
 | .or_ a b, τ, q, h, i => keep_fr h i
 | .not_ a, τ, q, h, i => keep_fr h i
 | .idx a k, τ, q, h, i => keep_fr h i
 | .sl a lo hi, τ, q, h, i => keep_fr h i
 | .bi f es, τ, q, h, i => keep_fr h i
 | .isi a k, τ, q, h, i => keep_fr h i
 | .lrev a, τ, q, h, i => keep_fr h i
 | .mth m o es, τ, q, h, i => keep_fr h i
 | .comp G fr tg src ifs elt, τ, q, h, i => keep_fr h i
theorem evOs_fr {cl : Nat → List D → Res D} : ∀ (es : List IR) {τ : Ev} {q : List D × Ev}, evOs cl false es τ = .ok q → ∀ i, sE q.2 i = sE τ i
 | [], τ, q, h, i => by cases h; rfl
 | e :: es, τ, q, h, i => by
  rw [Ev.os_c] at h
  obtain ⟨p, h1, h2⟩ := bnd_ok h
  rw [Ev.osK_k] at h2
  obtain ⟨p2, h3, h4⟩ := bnd_ok h2
  cases h4
  rw [evOs_fr es h3 i, evO_fr e h1 i]
end
mutual
noncomputable def wrT (i : Nat) : Tg → Bool
 | .nm k => k == i
 | .tp ts => wrTs i ts
noncomputable def wrTs (i : Nat) : List Tg → Bool
 | [] => false
 | t :: ts => wrT i t || wrTs i ts
end
mutual
theorem setT_fr {i : Nat} : ∀ (t : Tg) {d : D} {τ τ' : Ev}, wrT i t = false → setT t d τ = .ok τ' → sE τ' i = sE τ i
 | .nm k, d, τ, τ', w, h => by
  cases h
  rw [wrT] at w
  exact sE_set (fun e => by rw [e, beq_self_eq_true] at w; cases w)
 | .tp ts, d, τ, τ', w, h => by
  rw [wrT] at w
  cases d with
  | tup ds => exact setTs_fr ts w (grd_ok h)
  | lst o ds => exact setTs_fr ts w (grd_ok h)
  | _ => cases h
theorem setTs_fr {i : Nat} : ∀ (ts : List Tg) {ds : List D} {τ τ' : Ev}, wrTs i ts = false → setTs ts ds τ = .ok τ' → sE τ' i = sE τ i
 | [], ds, τ, τ', w, h => by
  cases ds with
  | nil => cases h; rfl
  | cons _ _ => cases h
 | t :: ts, ds, τ, τ', w, h => by
  cases ds with
  | nil => cases h
  | cons d ds =>
   rw [wrTs, Bool.or_eq_false_iff] at w
   rw [Ev.ts'_c] at h
   obtain ⟨τ1, h1, h2⟩ := bnd_ok h
   rw [setTs_fr ts w.2 h2, setT_fr t w.1 h1]
end
mutual
noncomputable def wr (i : Nat) : IS → Bool
 | .asg tg _ => wrT i tg
 | .par a b _ _ => a == i || b == i
 | .setix k _ _ => k == i
 | .app k _ => k == i
 | .appx k _ _ => k == i
 | .rvs k => k == i
 | .clr k => k == i
 | .exp _ => false
 | .ret _ => false
 | .retN => false
 | .if_ _ a b => wrs i a || wrs i b
 | .for_ tg _ b => wrT i tg || wrs i b
 | .while_ _ b => wrs i b
 | .brk => false
 | .cnt => false
 | .pass => false
 | .never => false
noncomputable def wrs (i : Nat) : List IS → Bool
 | [] => false
 | s :: r => wr i s || wrs i r
end
noncomputable def FlE (i : Nat) (τ : Ev) : Fl → Prop
 | .nx τ' => sE τ' i = sE τ i
 | .ct τ' => sE τ' i = sE τ i
 | .bk τ' => sE τ' i = sE τ i
 | .rt _ => True
theorem FlE.tr {i : Nat} {τ τ1 : Ev} (e : sE τ1 i = sE τ i) : ∀ {fl : Fl}, FlE i τ1 fl → FlE i τ fl
 | .nx _, h => Eq.trans h e
 | .ct _, h => Eq.trans h e
 | .bk _, h => Eq.trans h e
 | .rt _, h => trivial
theorem forM_fr {i : Nat} {bd : D → Ev → Res Fl} (hb : ∀ d τ fl, bd d τ = .ok fl → FlE i τ fl) : ∀ (its : List D) {τ : Ev} {fl : Fl}, forM bd its τ = .ok fl → FlE i τ fl
 | [], τ, fl, h => by cases h; exact rfl
 | x :: xs, τ, fl, h => by
  rw [Ev.for_c] at h
  obtain ⟨f1, h1, h2⟩ := bnd_ok h
  have hh := hb x τ f1 h1
  cases f1 with
  | nx τ1 => exact (forM_fr hb xs h2).tr hh
  | ct τ1 => exact (forM_fr hb xs h2).tr hh
  | bk τ1 => cases h2; exact hh
  | rt d => cases h2; trivial
theorem ne_of {i k : Nat} (h : (k == i) = false) : i ≠ k := fun e => by rw [e, beq_self_eq_true] at h; cases h
mutual
theorem evS_fr {cl : Nat → List D → Res D} {i : Nat} : ∀ (s : IS) {τ : Ev} {fl : Fl}, wr i s = false → evS cl s τ = .ok fl → FlE i τ fl
 | .asg tg e, τ, fl, w, h => by
  rw [wr] at w
  obtain ⟨p, h1, h2⟩ := bnd_ok h
  obtain ⟨τ', h3, h4⟩ := bnd_ok h2
  cases h4
  exact (setT_fr tg w h3).trans (evO_fr e h1 i)
 | .par a b x y, τ, fl, w, h => by
  rw [wr, Bool.or_eq_false_iff] at w
  obtain ⟨p, h1, h2⟩ := bnd_ok h
  have e1 := evOs_fr [x, y] h1 i
  split at h2
  ·cases h2
   show sE _ i = _
   rw [sE_set (ne_of w.2), sE_set (ne_of w.1), e1]
  ·cases h2
 | .setix k x e, τ, fl, w, h => by
  rw [wr] at w
  obtain ⟨p, h1, h2⟩ := bnd_ok h
  have e1 := evO_fr e h1 i
  split at h2
  ·obtain ⟨z, _, h3⟩ := bnd_ok h2
   split at h3
   ·split at h3
    ·cases h3
     show sE _ i = _
     rw [sE_set (ne_of w), e1]
    ·cases h3
   ·cases h3
  ·cases h2
 | .app k e, τ, fl, w, h => by
  rw [wr] at w
  have h : (match slotD τ k with | some (.lst _ _) => (bnd (evO cl false e τ) fun p => (match slotD p.2 k with | some (.lst true ds) => grd (szLt ds.length) (.ok (Fl.nx (p.2.set k (some (.lst true (ds ++ [p.1])))))) | _ => (stk : Res Fl))) | _ => (stk : Res Fl)) = .ok fl := h
  split at h
  ·obtain ⟨p, h1, h2⟩ := bnd_ok h
   have e1 := evO_fr e h1 i
   split at h2
   ·cases grd_ok h2
    show sE _ i = _
    rw [sE_set (ne_of w), e1]
   ·cases h2
  ·cases h
 | .appx _ _ _, τ, fl, w, h => by cases h
 | .rvs k, τ, fl, w, h => by
  rw [wr] at w
  rw [Ev.st_rvs] at h
  unfold Ev.rvK at h
  split at h
  ·cases h; exact sE_set (ne_of w)
  ·cases h
 | .clr k, τ, fl, w, h => by
  rw [wr] at w
  rw [Ev.st_clr] at h
  unfold Ev.clK at h
  split at h
  ·cases h; exact sE_set (ne_of w)
  ·cases h
 | .exp e, τ, fl, w, h => by
  obtain ⟨d, _, h2⟩ := bnd_ok h
  cases h2; exact rfl
 | .ret e, τ, fl, w, h => by
  obtain ⟨d, _, h2⟩ := bnd_ok h
  cases h2; trivial
 | .retN, τ, fl, w, h => by cases h; trivial
 | .if_ t a b, τ, fl, w, h => by
  rw [wr, Bool.or_eq_false_iff] at w
  obtain ⟨r, _, h2⟩ := bnd_ok h
  split at h2
  ·exact evSs_fr a w.1 h2
  ·exact evSs_fr b w.2 h2
 | .for_ tg s body, τ, fl, w, h => by
  rw [wr, Bool.or_eq_false_iff] at w
  obtain ⟨p, h1, h2⟩ := bnd_ok h
  have e1 : sE p.2 i = sE τ i := by
   obtain ⟨its, _, h3⟩ := bnd_ok h1
   cases s with
   | rng1 n => cases h3; rfl
   | rng2 a b => cases h3; rfl
   | val e => cases h3; exact sE_frz
   | rev e => cases h3; exact sE_frz
  refine (forM_fr (fun d τ' fl' hh => ?_) p.1 h2).tr e1
  obtain ⟨τ1, h3, h4⟩ := bnd_ok hh
  exact (evSs_fr body w.2 h4).tr (setT_fr tg w.1 h3)
 | .while_ t body, τ, fl, w, h => by
  rw [wr] at w
  have key : ∀ n τ fl, whileM (evT cl t) (evSs cl body) n τ = .ok fl → FlE i τ fl := by
   intro n
   induction n with
   | zero => intro τ fl h; cases h
   | succ n ih =>
    intro τ fl h
    obtain ⟨r, _, h2⟩ := bnd_ok h
    split at h2
    ·obtain ⟨f1, h3, h4⟩ := bnd_ok h2
     have hh := evSs_fr body w h3
     cases f1 with
     | nx τ1 => exact (ih _ _ h4).tr hh
     | ct τ1 => exact (ih _ _ h4).tr hh
     | bk τ1 => cases h4; exact hh
     | rt d => cases h4; trivial
    ·cases h2; exact rfl
  exact key _ τ fl h
 | .brk, τ, fl, w, h => by cases h; exact rfl
 | .cnt, τ, fl, w, h => by cases h; exact rfl
 | .pass, τ, fl, w, h => by cases h; exact rfl
 | .never, τ, fl, w, h => by cases h
theorem evSs_fr {cl : Nat → List D → Res D} {i : Nat} : ∀ (ss : List IS) {τ : Ev} {fl : Fl}, wrs i ss = false → evSs cl ss τ = .ok fl → FlE i τ fl
 | [], τ, fl, w, h => by cases h; exact rfl
 | s :: r, τ, fl, w, h => by
  rw [wrs, Bool.or_eq_false_iff] at w
  rw [Ev.ss_c] at h
  obtain ⟨f1, h1, h2⟩ := bnd_ok h
  have hh := evS_fr s w.1 h1
  cases f1 with
  | nx τ1 => exact (evSs_fr r w.2 h2).tr hh
  | ct τ1 => cases h2; exact hh
  | bk τ1 => cases h2; exact hh
  | rt d => cases h2; trivial
end
end Ab
end L2
namespace L2
open PySem PySem.Spec PyProof.Rows PySem.SeqAt
namespace Ab
noncomputable abbrev Cn := Str × Str × List D
noncomputable abbrev Gp := Str × List (List Cn)
noncomputable def emC (c : Cn) : D := .tup [.str c.1, .str c.2.1, .lst false c.2.2]
noncomputable def emR (r : List Cn) : D := .lst false (r.map emC)
noncomputable def emG (g : Gp) : D := .tup [.str g.1, .lst false (g.2.map emR)]
noncomputable def COk (c : Cn) : Prop := Wd c.2.1 c.2.2 ∧ c.2.2.length ≤ 10
noncomputable def CIO (c : Cn) : Prop := COk c ∨ ((c.2.1 = "in" ∨ c.2.1 = "out") ∧ c.2.2 = [])
noncomputable def GOk' (g : Gp) : Prop := g.2.length ≤ 1000 ∧ ∀ r ∈ g.2, r.length ≤ 1000 ∧ ∀ c ∈ r, COk c
theorem CIO.ers {c : Cn} (h : CIO c) : ers c.2.2 = c.2.2 := by
 rcases h with h | h
 ·exact ers_lfrees (ths_lf h.1.th)
 ·rw [h.2]; rfl
theorem emC_er {c : Cn} (h : CIO c) : er (emC c) = emC c := by
 unfold emC
 rw [er, L2.ers, L2.ers, L2.ers, L2.ers, er, er, er, h.ers]
theorem map_er {α : Type} {emb : α → D} : ∀ {xs : List α}, (∀ x ∈ xs, er (emb x) = emb x) → ers (xs.map emb) = xs.map emb
 | [], _ => rfl
 | x :: xs, h => by rw [List.map_cons, ers, h x (by simp), map_er fun y hy => h y (List.mem_cons_of_mem _ hy)]
theorem emR_er {r : List Cn} (h : ∀ c ∈ r, CIO c) : er (emR r) = emR r := by
 unfold emR
 rw [er, map_er fun c hc => emC_er (h c hc)]
theorem emG_er {g : Gp} (h : GOk' g) : er (emG g) = emG g := by
 unfold emG
 rw [er, ers, ers, ers, er, er, map_er fun r hr => emR_er fun c hc => .inl ((h.2 r hr).2 c hc)]
theorem gs_er {gs : List Gp} (h : ∀ g ∈ gs, GOk' g) : ers (gs.map emG) = gs.map emG := map_er fun g hg => emG_er (h g hg)
noncomputable def rowB (ps : List (Str × D)) (r : List Cn) : Bool := r.all fun c => hB c.2.1 c.2.2 (thr ps c.1)
noncomputable def grpB (ps : List (Str × D)) (gs : List Gp) (x : Str) : Bool := match gs.find? (fun g => g.1 == x) with
 | some g => g.2.any (rowB ps)
 | none => false
noncomputable def cB (ps : List (Str × D)) (gs : List Gp) (c : Cn) : Bool := if c.2.1 == "in" then grpB ps gs c.1 else if c.2.1 == "out" then !grpB ps gs c.1 else hB c.2.1 c.2.2 (thr ps c.1)
section
variable {T : Tb}
theorem find_all {α : Type} (b : α → Bool) (xs : List α) : match xs.find? (fun x => !b x) with | some _ => xs.all b = false | none => xs.all b = true := by
 induction xs with
 | nil => rfl
 | cons x xs ih =>
  rw [List.find?_cons]
  cases h : b x with
  | true => simpa [h] using ih
  | false => simp [h]
theorem find_any {α : Type} (b : α → Bool) (xs : List α) : match xs.find? b with | some _ => xs.any b = true | none => xs.any b = false := by
 induction xs with
 | nil => rfl
 | cons x xs ih =>
  rw [List.find?_cons]
  cases h : b x with
  | true => simp [h]
  | false => simpa [h] using ih
noncomputable def bCs (fc : Nat) : List IS := [(.for_ (.nm 3) (.val (.v 1)) [(.if_ (.not_ (.call fc [(.v 0), (.v 3), (.v 2)])) [(.ret (.c (.bl false)))] [])]), (.ret (.c (.bl true)))]
theorem conds_hold {f fc : Nat} {fn : Fn} (hT : T f = some fn) (h1 : fn.np = 3) (h2 : fn.G.N.length = 4) (h3 : fn.body = bCs fc) {m : Nat} {gd md : D} (hg : er gd = gd) (hm : er md = md) {r : List Cn} (hr : ∀ c ∈ r, CIO c) (hl : r.length ≤ 1000) {b : Cn → Bool}
  (hb : ∀ c ∈ r, callF T m fc [gd, emC c, md] = .ok (.bl (b c))) : callF T (m + 1) f [gd, .lst false (r.map emC), md] = .ok (.bl (r.all b)) := by
 rw [Ev.go hT h1 h2 h3 rfl]
 have he : ers (r.map emC) = r.map emC := map_er fun c hc => emC_er (hr c hc)
 have key := for_find (body := Ev.turn (callF T m) (.nm 3) [(.if_ (.not_ (.call fc [(.v 0), (.v 3), (.v 2)])) [(.ret (.c (.bl false)))] [])]) emC (fun c => !b c) (fun _ => .bl false) (fun τ => ∃ a, τ = [some gd, some (.lst false (r.map emC)), some md, a]) r _ ⟨none, rfl⟩ (by
  rintro c hc τ ⟨a, rfl⟩
  have e := hb c hc
  have ec := emC_er (hr c hc)
  constructor
  ·intro hx
   have hx' : b c = false := by simpa using hx
   rw [hx'] at e
   simp -implicitDefEqProofs (disch := omega) only [ev0, Nat.reduceBEq, Nat.reduceSub, Nat.reduceAdd, reduceIte, Ev.turn_eq, hg, hm, ec, e]
  ·intro hx
   have hx' : b c = true := by simpa using hx
   rw [hx'] at e
   refine ⟨_, ?_, some (emC c), rfl⟩
   simp -implicitDefEqProofs (disch := omega) only [ev0, Nat.reduceBEq, Nat.reduceSub, Nat.reduceAdd, reduceIte, Ev.turn_eq, hg, hm, ec, e])
 have ha := find_all b r
 unfold bCs
 cases hf : r.find? (fun c => !b c) with
 | none =>
  rw [hf] at key ha
  obtain ⟨τ', e, a, rfl⟩ := key
  have ha : r.all b = true := ha
  simp -implicitDefEqProofs (disch := omega) only [ev0, Nat.reduceBEq, Nat.reduceSub, Nat.reduceAdd, reduceIte, he, e, ha]
 | some c =>
  rw [hf] at key ha
  have e : forM _ _ _ = _ := key
  have ha : r.all b = false := ha
  simp -implicitDefEqProofs (disch := omega) only [ev0, Nat.reduceBEq, Nat.reduceSub, Nat.reduceAdd, reduceIte, he, e, ha]
noncomputable def bIR (fs : Nat) : List IS := [(.for_ (.nm 3) (.val (.v 1)) [(.if_ (.call fs [(.v 0), (.v 3), (.v 2)]) [(.ret (.c (.bl true)))] [])]), (.ret (.c (.bl false)))]
theorem in_rows {f fs : Nat} {fn : Fn} (hT : T f = some fn) (h1 : fn.np = 3) (h2 : fn.G.N.length = 4) (h3 : fn.body = bIR fs) {m : Nat} {gd md : D} (hg : er gd = gd) (hm : er md = md) {ps : List (Str × D)} {rs : List (List Cn)} (hr : ∀ r ∈ rs, r.length ≤ 1000 ∧ ∀ c ∈ r, COk c)
  (hb : ∀ r : List Cn, r.length ≤ 1000 → (∀ c ∈ r, COk c) → callF T m fs [gd, emR r, md] = .ok (.bl (rowB ps r))) : callF T (m + 1) f [gd, .lst false (rs.map emR), md] = .ok (.bl (rs.any (rowB ps))) := by
 rw [Ev.go hT h1 h2 h3 rfl]
 have he : ers (rs.map emR) = rs.map emR := map_er fun r h => emR_er fun c hc => .inl ((hr r h).2 c hc)
 have key := for_find (body := Ev.turn (callF T m) (.nm 3) [(.if_ (.call fs [(.v 0), (.v 3), (.v 2)]) [(.ret (.c (.bl true)))] [])]) emR (rowB ps) (fun _ => .bl true) (fun τ => ∃ a, τ = [some gd, some (.lst false (rs.map emR)), some md, a]) rs _ ⟨none, rfl⟩ (by
  rintro r h τ ⟨a, rfl⟩
  have e := hb r (hr r h).1 (hr r h).2
  have ec := emR_er fun c hc => .inl ((hr r h).2 c hc)
  constructor
  ·intro hx
   rw [hx] at e
   simp -implicitDefEqProofs (disch := omega) only [ev0, Nat.reduceBEq, Nat.reduceSub, Nat.reduceAdd, reduceIte, Ev.turn_eq, hg, hm, ec, e]
  ·intro hx
   rw [hx] at e
   refine ⟨_, ?_, some (emR r), rfl⟩
   simp -implicitDefEqProofs (disch := omega) only [ev0, Nat.reduceBEq, Nat.reduceSub, Nat.reduceAdd, reduceIte, Ev.turn_eq, hg, hm, ec, e])
 have ha := find_any (rowB ps) rs
 unfold bIR
 cases hf : rs.find? (rowB ps) with
 | none =>
  rw [hf] at key ha
  obtain ⟨τ', e, a, rfl⟩ := key
  have ha : rs.any (rowB ps) = false := ha
  simp -implicitDefEqProofs (disch := omega) only [ev0, Nat.reduceBEq, Nat.reduceSub, Nat.reduceAdd, reduceIte, he, e, ha]
 | some c =>
  rw [hf] at key ha
  have e : forM _ _ _ = _ := key
  have ha : rs.any (rowB ps) = true := ha
  simp -implicitDefEqProofs (disch := omega) only [ev0, Nat.reduceBEq, Nat.reduceSub, Nat.reduceAdd, reduceIte, he, e, ha]
noncomputable def bIG (fr : Nat) : List IS := [(.for_ (.tp [(.nm 3), (.nm 4)]) (.val (.v 0)) [(.if_ (.cmp .eq (.v 3) (.v 1)) [(.ret (.call fr [(.v 0), (.v 4), (.v 2)]))] [])]), (.ret (.c (.bl false)))]
theorem in_group {f fr : Nat} {fn : Fn} (hT : T f = some fn) (h1 : fn.np = 3) (h2 : fn.G.N.length = 5) (h3 : fn.body = bIG fr) {m : Nat} {md : D} (hm : er md = md) {gs : List Gp} (hg : ∀ g ∈ gs, GOk' g) {ps : List (Str × D)}
  (hb : ∀ g ∈ gs, callF T m fr [.lst false (gs.map emG), .lst false (g.2.map emR), md] = .ok (.bl (g.2.any (rowB ps)))) (x : Str) : callF T (m + 1) f [.lst false (gs.map emG), .str x, md] = .ok (.bl (grpB ps gs x)) := by
 rw [Ev.go hT h1 h2 h3 rfl]
 have he := gs_er hg
 have key := for_find (body := Ev.turn (callF T m) (.tp [.nm 3, .nm 4]) [(.if_ (.cmp .eq (.v 3) (.v 1)) [(.ret (.call fr [(.v 0), (.v 4), (.v 2)]))] [])]) emG (fun g => g.1 == x) (fun g => .bl (g.2.any (rowB ps))) (fun τ => ∃ a b, τ = [some (.lst false (gs.map emG)), some (.str x), some md, a, b]) gs _ ⟨none, none, rfl⟩ (by
  rintro g hgm τ ⟨a, b, rfl⟩
  have hok := hg g hgm
  have e1 := hb g hgm
  have e2 : ers (g.2.map emR) = g.2.map emR := map_er fun r h => emR_er fun c hc => .inl ((hok.2 r h).2 c hc)
  unfold emG at *
  constructor
  ·intro hx
   simp -implicitDefEqProofs (disch := omega) only [ev0, Nat.reduceBEq, Nat.reduceSub, Nat.reduceAdd, reduceIte, Ev.turn_eq, hx, he, hm, e2, e1]
  ·intro hx
   refine ⟨_, ?_, some (.str g.1), some (.lst false (g.2.map emR)), rfl⟩
   simp -implicitDefEqProofs (disch := omega) only [ev0, Nat.reduceBEq, Nat.reduceSub, Nat.reduceAdd, reduceIte, Ev.turn_eq, hx])
 unfold grpB bIG
 cases hf : gs.find? (fun g => g.1 == x) with
 | none =>
  rw [hf] at key
  obtain ⟨τ', e, a, b, rfl⟩ := key
  simp -implicitDefEqProofs (disch := omega) only [ev0, Nat.reduceBEq, Nat.reduceSub, Nat.reduceAdd, reduceIte, he, e]
 | some g =>
  rw [hf] at key
  have e : forM _ _ _ = _ := key
  simp -implicitDefEqProofs (disch := omega) only [ev0, Nat.reduceBEq, Nat.reduceSub, Nat.reduceAdd, reduceIte, he, e]
theorem cond_io {f fg fm fo : Nat} {fn : Fn} (hT : T f = some fn) (h1 : fn.np = 3) (h2 : fn.G.N.length = 5) (h3 : fn.body = bCH fg fm fo) {m : Nat} {gd md : D} (hg : er gd = gd) (hm : er md = md) {b : Str → Bool} (hb : ∀ x, callF T m fg [gd, .str x, md] = .ok (.bl (b x))) {c : Cn} (hc : (c.2.1 = "in" ∨ c.2.1 = "out") ∧ c.2.2 = []) :
  callF T (m + 1) f [gd, emC c, md] = .ok (.bl (if c.2.1 == "in" then b c.1 else !b c.1)) := by
 obtain ⟨x, w, ts⟩ := c
 obtain ⟨hw, rfl⟩ := hc
 rw [Ev.go hT h1 h2 h3 rfl]
 have e := hb x
 unfold emC bCH
 dsimp only at hw ⊢
 have q : ((Str.ofString "out") == (Str.ofString "in")) = false := by decide +kernel
 rcases hw with rfl | rfl
 ·simp -implicitDefEqProofs (disch := omega) only [ev0, Nat.reduceBEq, Nat.reduceSub, Nat.reduceAdd, reduceIte, a0, a1, a2, hg, hm, e]
 ·simp -implicitDefEqProofs (disch := omega) only [ev0, Nat.reduceBEq, Nat.reduceSub, Nat.reduceAdd, reduceIte, a0, a1, a2, hg, hm, e, q]
noncomputable def bLIG (fp : Nat) : List IS := [(.for_ (.tp [(.nm 3), (.nm 4)]) (.val (.v 0)) [(.if_ (.cmp .eq (.v 3) (.v 1)) [(.ret (.cmp .ne (.comp { N := ["_law_marks_here", "_law_row"], kd := [.cell, .local], gl := [], df := false } [2] (.nm 1) (.val (.v 4)) [(.cmp .eq (.comp { N := ["_law_marks_here", "_law_cond_here"], kd := [.cell, .local], gl := [fp], df := false } [0] (.nm 1) (.val (.v 1)) [(.not_ (.call fp [(.v 1), (.v 0)]))] (.v 1)) (.lst []))] (.v 1)) (.lst [])))] [])]), (.ret (.c (.bl false)))]
theorem emp_filter {n : Nat} {α : Type} (emb : α → D) (p : α → Bool) : ∀ xs : List α, eqsG (eqN n) ((xs.filter p).map emb) [] = .ok (!xs.any p)
 | [] => rfl
 | x :: xs => by
  rw [List.filter_cons, List.any_cons]
  cases p x with
  | true => rfl
  | false => rw [if_neg (by decide), Bool.false_or]; exact emp_filter emb p xs
theorem all_any {α : Type} (p : α → Bool) (xs : List α) : (!xs.any fun x => !p x) = xs.all p := by
 induction xs with
 | nil => rfl
 | cons x xs ih => rw [List.any_cons, List.all_cons, Bool.not_or, Bool.not_not, ih]
theorem law_group {f fp : Nat} {fn : Fn} (hT : T f = some fn) (h1 : fn.np = 3) (h2 : fn.G.N.length = 5) (h3 : fn.body = bLIG fp) {m : Nat} {md : D} (hm : er md = md) {gs : List Gp} (hg : ∀ g ∈ gs, GOk' g) {ps : List (Str × D)}
  (hb : ∀ c, COk c → callF T m fp [emC c, md] = .ok (.bl (hB c.2.1 c.2.2 (thr ps c.1)))) (x : Str) : callF T (m + 1) f [.lst false (gs.map emG), .str x, md] = .ok (.bl (grpB ps gs x)) := by
 rw [Ev.go hT h1 h2 h3 rfl]
 have he := gs_er hg
 have key := for_find (body := Ev.turn (callF T m) (.tp [.nm 3, .nm 4]) [(.if_ (.cmp .eq (.v 3) (.v 1)) [(.ret (.cmp .ne (.comp { N := ["_law_marks_here", "_law_row"], kd := [.cell, .local], gl := [], df := false } [2] (.nm 1) (.val (.v 4)) [(.cmp .eq (.comp { N := ["_law_marks_here", "_law_cond_here"], kd := [.cell, .local], gl := [fp], df := false } [0] (.nm 1) (.val (.v 1)) [(.not_ (.call fp [(.v 1), (.v 0)]))] (.v 1)) (.lst []))] (.v 1)) (.lst [])))] [])]) emG (fun g => g.1 == x) (fun g => .bl (g.2.any (rowB ps))) (fun τ => ∃ a b, τ = [some (.lst false (gs.map emG)), some (.str x), some md, a, b]) gs [some (.lst false (gs.map emG)), some (.str x), some md, none, none] ⟨_, _, rfl⟩ (by
  rintro g hgm τ ⟨a, b, rfl⟩
  have hok := hg g hgm
  have e1 : fmapM (bodyM (callF T m) (.nm 1) [(.cmp .eq (.comp { N := ["_law_marks_here", "_law_cond_here"], kd := [.cell, .local], gl := [fp], df := false } [0] (.nm 1) (.val (.v 1)) [(.not_ (.call fp [(.v 1), (.v 0)]))] (.v 1)) (.lst []))] (.v 1) [some md, none]) (g.2.map emR) = .ok ((g.2.filter (rowB ps)).map emR) := by
   refine fmap_filter emR (rowB ps) emR _ fun r hr => ?_
   have hrr := hok.2 r hr
   have e2 : fmapM (bodyM (callF T m) (.nm 1) [(.not_ (.call fp [(.v 1), (.v 0)]))] (.v 1) [some md, none]) (r.map emC) = .ok ((r.filter fun c => !hB c.2.1 c.2.2 (thr ps c.1)).map emC) := by
    refine fmap_filter emC (fun c => !hB c.2.1 c.2.2 (thr ps c.1)) emC _ fun c hc => ?_
    have e := hb c (hrr.2 c hc)
    have ec := emC_er (.inl (hrr.2 c hc))
    cases hx : hB c.2.1 c.2.2 (thr ps c.1) <;> (rw [hx] at e; simp -implicitDefEqProofs (disch := omega) only [ev0, Nat.reduceBEq, Nat.reduceSub, Nat.reduceAdd, reduceIte, hm, ec, e])
   have e3 := emp_filter (n := 39) emC (fun c : Cn => !hB c.2.1 c.2.2 (thr ps c.1)) r
   rw [all_any (fun c : Cn => hB c.2.1 c.2.2 (thr ps c.1)) r] at e3
   have lr : (r.map emC).length = r.length := List.length_map ..
   have l1 := hrr.1
   unfold emR
   cases hx : rowB ps r <;> (unfold rowB at hx; rw [hx] at e3; simp -implicitDefEqProofs (disch := omega) only [ev0, Nat.reduceBEq, Nat.reduceSub, Nat.reduceAdd, reduceIte, lr, e2, e3])
  have e4 := emp_filter (n := 39) emR (rowB ps) g.2
  have lr : (g.2.map emR).length = g.2.length := List.length_map ..
  have l2 := hok.1
  unfold emG
  constructor
  ·intro hx
   cases hy : g.2.any (rowB ps) <;> (rw [hy] at e4; simp -implicitDefEqProofs (disch := omega) only [ev0, Nat.reduceBEq, Nat.reduceSub, Nat.reduceAdd, reduceIte, Ev.turn_eq, hx, e1, e4, lr])
  ·intro hx
   refine ⟨_, ?_, some (.str g.1), some (.lst false (g.2.map emR)), rfl⟩
   simp -implicitDefEqProofs (disch := omega) only [ev0, Nat.reduceBEq, Nat.reduceSub, Nat.reduceAdd, reduceIte, Ev.turn_eq, hx])
 unfold grpB bLIG
 cases hf : gs.find? (fun g => g.1 == x) with
 | none =>
  rw [hf] at key
  obtain ⟨τ', e, a, b, rfl⟩ := key
  simp -implicitDefEqProofs (disch := omega) only [ev0, Nat.reduceBEq, Nat.reduceSub, Nat.reduceAdd, reduceIte, he, e]
 | some g =>
  rw [hf] at key
  have e : forM _ _ _ = _ := key
  simp -implicitDefEqProofs (disch := omega) only [ev0, Nat.reduceBEq, Nat.reduceSub, Nat.reduceAdd, reduceIte, he, e]
noncomputable def bLH (fg fp : Nat) : List IS := [(.if_ (.or_ (.cmp .eq (.idx (.v 1) (.c (.int 1))) (.c (.str "in"))) (.cmp .eq (.idx (.v 1) (.c (.int 1))) (.c (.str "out")))) [(.ret (.cmp .eq (.call fg [(.v 0), (.idx (.v 1) (.c (.int 0))), (.v 2)]) (.cmp .eq (.idx (.v 1) (.c (.int 1))) (.c (.str "in")))))] []), (.ret (.call fp [(.v 1), (.v 2)]))]
theorem law_holds {f fg fp : Nat} {fn : Fn} (hT : T f = some fn) (h1 : fn.np = 3) (h2 : fn.G.N.length = 3) (h3 : fn.body = bLH fg fp) {m : Nat} {md : D} (hm : er md = md) {gs : List Gp} (hg : ∀ g ∈ gs, GOk' g) {ps : List (Str × D)}
  (hb : ∀ c, COk c → callF T m fp [emC c, md] = .ok (.bl (hB c.2.1 c.2.2 (thr ps c.1)))) (hi : ∀ x, callF T m fg [.lst false (gs.map emG), .str x, md] = .ok (.bl (grpB ps gs x))) {c : Cn} (hc : CIO c) : callF T (m + 1) f [.lst false (gs.map emG), emC c, md] = .ok (.bl (cB ps gs c)) := by
 rw [Ev.go hT h1 h2 h3 rfl]
 have he := gs_er hg
 have ec := emC_er hc
 have q : ((Str.ofString "out") == (Str.ofString "in")) = false := by decide +kernel
 rcases hc with hc | hc
 ·have e := hb c hc
  obtain ⟨n1, n2⟩ := hc.1.ne
  unfold emC at ec e ⊢
  unfold bLH cB
  simp -implicitDefEqProofs (disch := omega) only [ev0, Nat.reduceBEq, Nat.reduceSub, Nat.reduceAdd, reduceIte, a0, a1, a2, n1, n2, hm, he, ec, e]
 ·obtain ⟨x, w, ts⟩ := c
  obtain ⟨hw, rfl⟩ := hc
  have e := hi x
  unfold emC at ec ⊢
  unfold bLH cB
  dsimp only at hw ⊢
  rcases hw with rfl | rfl
  ·cases hx : grpB ps gs x <;> (rw [hx] at e; simp -implicitDefEqProofs (disch := omega) only [ev0, Nat.reduceBEq, Nat.reduceSub, Nat.reduceAdd, reduceIte, a0, a1, a2, hm, he, e, b_tf, b_ft])
  ·cases hx : grpB ps gs x <;> (rw [hx] at e; simp -implicitDefEqProofs (disch := omega) only [ev0, Nat.reduceBEq, Nat.reduceSub, Nat.reduceAdd, reduceIte, a0, a1, a2, hm, he, e, q, b_tf, b_ft])
end
noncomputable def leL : List A → List A → Bool
 | [], [] => true
 | a :: as, b :: bs => leA fuel a b && leL as bs
 | _, _ => false
theorem leL_ok : ∀ {as bs : List A} {ds : List D}, leL as bs = true → Inl ds as → Inl ds bs
 | [], [], _, _, h => h
 | a :: as, b :: bs, _, e, .cons h1 h2 => by
  rw [leL, Bool.and_eq_true] at e
  exact .cons (leA_ok fuel e.1 h1) (leL_ok e.2 h2)
 | [], _ :: _, _, e, _ => by cases e
 | _ :: _, [], _, e, _ => by cases e
noncomputable def ovAt (ov : Nat → Nat → List A → Option U) (n0 f0 : Nat) (as0 : List A) (u0 : U) : Nat → Nat → List A → Option U := fun n f as => if n = n0 ∧ f = f0 ∧ leL as as0 = true then some u0 else ov n f as
theorem ovAt_ok {T : Tb} {ov : Nat → Nat → List A → Option U} (ho : OvOk T ov) {n0 f0 : Nat} {as0 : List A} {u0 : U} (e : chk (aCall T ov (n0 + 1) f0 as0) u0 = true) : OvOk T (ovAt ov n0 f0 as0 u0) := by
 intro n f as u h ds hd
 unfold ovAt at h
 split at h
 ·rename_i hc
  obtain ⟨rfl, rfl, hl⟩ := hc
  cases h
  exact chk_ok ho e (leL_ok hl hd)
 ·exact ho n f as u h ds hd
theorem inA_er {α : Type} {u : U} {emb : α → D} {Q : α → Prop} (h : ∀ d, InU d u → ∃ x, er d = emb x ∧ Q x) : ∀ {ds : List D}, InA ds u → ∃ xs : List α, ers ds = xs.map emb ∧ ∀ x ∈ xs, Q x
 | _, .nil => ⟨[], rfl, (fun _ z => by cases z)⟩
 | _, .cons h1 h2 => by
  obtain ⟨x, ex, hx⟩ := h _ h1
  obtain ⟨xs, exs, hxs⟩ := inA_er h h2
  refine ⟨x :: xs, by rw [ers, ex, exs]; rfl, fun y hy => ?_⟩
  rcases List.mem_cons.mp hy with rfl | hy
  ·exact hx
  ·exact hxs y hy
end Ab
end L2
namespace Law
open PySem L2
noncomputable def top (i : Nat) : Stmt := PySem.Challenge.pw_flagroll_k15_groups.main.body.getD i (.Pass ⟨0, 0, 0, 0⟩)
noncomputable def Z : Sg := { nm := ["is_whole", "mark_of", "mark_holds", "cond_holds", "conds_hold", "in_rows", "in_group", "_law_cell_at", "_law_stream", "_law_truth", "_law_names", "_law_thing", "_law_told", "_law_cond", "_law_mark", "_law_plain", "_law_groups", "_law_in_group", "_law_holds", "_law_marks", "_law_asked", "law"], kst := [], fns := [18, 19, 20, 21, 22, 23, 24, 25, 26, 27, 28, 29, 30, 31, 32, 33, 34, 35, 36, 37, 38, 39] }
noncomputable def b18 : List IS :=
 [(.ret (.and_ (.isi (.v 0) .int) (.not_ (.isi (.v 0) .bool))))]
noncomputable def d18 : Fn := { np := 1, G := { N := ["thing"], kd := [.local], gl := [14, 8, 16], df := true }, body := b18 }
noncomputable def b19 : List IS :=
 [(.for_ (.tp [(.nm 2), (.nm 3)]) (.val (.v 0)) [(.if_ (.cmp .eq (.v 2) (.v 1)) [(.ret (.v 3))] [])]), (.ret (.c .non))]
noncomputable def d19 : Fn := { np := 2, G := { N := ["marks", "name", "mark_name", "thing"], kd := [.local, .local, .local, .local], gl := [], df := true }, body := b19 }
noncomputable def b20 : List IS :=
 [(.if_ (.cmp .eq (.v 0) (.c (.str "is"))) [(.ret (.and_ (.cmp .isn (.v 2) (.c .non)) (.cmp .in_ (.v 2) (.v 1))))] []), (.if_ (.cmp .eq (.v 0) (.c (.str "not"))) [(.ret (.or_ (.cmp .is_ (.v 2) (.c .non)) (.cmp .nin (.v 2) (.v 1))))] []), (.if_ (.cmp .eq (.v 0) (.c (.str "begins"))) [(.ret (.and_ (.isi (.v 2) .str) (.bi .any [(.comp { N := ["mark", "thing"], kd := [.cell, .local], gl := [], df := false } [2] (.nm 1) (.val (.v 1)) [] (.mth .starts (.v 0) [(.v 1)]))])))] []), (.if_ (.cmp .eq (.v 0) (.c (.str "least"))) [(.ret (.and_ (.call 18 [(.v 2)]) (.cmp .ge (.v 2) (.idx (.v 1) (.c (.int 0))))))] []), (.if_ (.cmp .eq (.v 0) (.c (.str "most"))) [(.ret (.and_ (.call 18 [(.v 2)]) (.cmp .le (.v 2) (.idx (.v 1) (.c (.int 0))))))] []), (.if_ (.cmp .eq (.v 0) (.c (.str "has"))) [(.ret (.cmp .isn (.v 2) (.c .non)))] []), (.ret (.cmp .is_ (.v 2) (.c .non)))]
noncomputable def d20 : Fn := { np := 3, G := { N := ["word", "things", "mark"], kd := [.local, .local, .cell], gl := [14, 11, 10, 18], df := true }, body := b20 }
noncomputable def b21 : List IS :=
 [(.asg (.nm 3) (.idx (.v 1) (.c (.int 0)))), (.asg (.nm 4) (.idx (.v 1) (.c (.int 1)))), (.if_ (.cmp .eq (.v 4) (.c (.str "in"))) [(.ret (.call 24 [(.v 0), (.v 3), (.v 2)]))] []), (.if_ (.cmp .eq (.v 4) (.c (.str "out"))) [(.ret (.not_ (.call 24 [(.v 0), (.v 3), (.v 2)])))] []), (.ret (.call 20 [(.v 4), (.idx (.v 1) (.c (.int 2))), (.call 19 [(.v 2), (.v 3)])]))]
noncomputable def d21 : Fn := { np := 3, G := { N := ["groups", "cond", "marks", "name", "word"], kd := [.local, .local, .local, .local, .local], gl := [24, 20, 19], df := true }, body := b21 }
noncomputable def b22 : List IS :=
 [(.for_ (.nm 3) (.val (.v 1)) [(.if_ (.not_ (.call 21 [(.v 0), (.v 3), (.v 2)])) [(.ret (.c (.bl false)))] [])]), (.ret (.c (.bl true)))]
noncomputable def d22 : Fn := { np := 3, G := { N := ["groups", "conds", "marks", "cond"], kd := [.local, .local, .local, .local], gl := [21], df := true }, body := b22 }
noncomputable def b23 : List IS :=
 [(.for_ (.nm 3) (.val (.v 1)) [(.if_ (.call 22 [(.v 0), (.v 3), (.v 2)]) [(.ret (.c (.bl true)))] [])]), (.ret (.c (.bl false)))]
noncomputable def d23 : Fn := { np := 3, G := { N := ["groups", "rows", "marks", "row"], kd := [.local, .local, .local, .local], gl := [22], df := true }, body := b23 }
noncomputable def b24 : List IS :=
 [(.for_ (.tp [(.nm 3), (.nm 4)]) (.val (.v 0)) [(.if_ (.cmp .eq (.v 3) (.v 1)) [(.ret (.call 23 [(.v 0), (.v 4), (.v 2)]))] [])]), (.ret (.c (.bl false)))]
noncomputable def d24 : Fn := { np := 3, G := { N := ["groups", "name", "marks", "group_name", "rows"], kd := [.local, .local, .local, .local, .local], gl := [23], df := true }, body := b24 }
noncomputable def b25 : List IS :=
 [(.if_ (.cmp .lt (.v 1) (.bi .len [(.v 0)])) [(.ret (.idx (.v 0) (.v 1)))] []), (.ret (.c (.int 0)))]
noncomputable def d25 : Fn := { np := 2, G := { N := ["_law_script", "_law_k"], kd := [.local, .local], gl := [0], df := true }, body := b25 }
noncomputable def b26 : List IS :=
 [(.asg (.nm 2) (.lst [])), (.asg (.nm 3) (.bin .add (.bin .mod (.v 0) (.c (.int 2147483647))) (.c (.int 1)))), (.for_ (.nm 4) (.rng1 (.v 1)) [(.asg (.nm 3) (.bin .mod (.bin .add (.bin .add (.bin .mul (.v 3) (.c (.int 48271))) (.bin .mul (.bin .mul (.c (.int 7)) (.v 4)) (.v 4))) (.c (.int 3))) (.c (.int 2147483647)))), (.app 2 (.bin .fdiv (.v 3) (.c (.int 16))))]), (.ret (.v 2))]
noncomputable def d26 : Fn := { np := 2, G := { N := ["_law_cell", "_law_many", "_law_found", "_law_number", "_law_k"], kd := [.local, .local, .local, .local, .local], gl := [15], df := true }, body := b26 }
noncomputable def b27 : List IS :=
 [(.ret (.and_ (.isi (.v 0) .bool) (.cmp .eq (.v 0) (.v 1))))]
noncomputable def d27 : Fn := { np := 2, G := { N := ["_law_found", "_law_due"], kd := [.local, .local], gl := [14, 16], df := true }, body := b27 }
noncomputable def b28 : List IS :=
 [(.asg (.nm 2) (.c (.str "abcdefghijklmnopqrstuvwxyz"))), (.asg (.nm 3) (.mth .join (.c (.str "")) [(.comp { N := ["_law_abc", "_law_number"], kd := [.cell, .local], gl := [], df := false } [2] (.nm 1) (.val (.call 26 [(.bin .fdiv (.v 0) (.c (.int 3))), (.c (.int 8))])) [] (.idx (.v 0) (.bin .mod (.v 1) (.c (.int 26)))))])), (.if_ (.and_ (.cmp .eq (.bin .mod (.v 0) (.c (.int 3))) (.c (.int 1))) (.cmp .le (.v 1) (.c (.int 8)))) [(.ret (.comp { N := ["_law_base", "_law_k"], kd := [.cell, .local], gl := [], df := false } [3] (.nm 1) (.rng1 (.v 1)) [] (.sl (.v 0) none (some (.bin .add (.v 1) (.c (.int 1)))))))] []), (.asg (.nm 3) (.sl (.v 3) none (some (.bin .add (.c (.int 1)) (.bin .mod (.bin .fdiv (.v 0) (.c (.int 3))) (.c (.int 8))))))), (.asg (.nm 4) (.bin .mod (.bin .fdiv (.v 0) (.c (.int 24))) (.bi .len [(.v 3)]))), (.ret (.comp { N := ["_law_base", "_law_at", "_law_abc", "_law_cell", "_law_k"], kd := [.cell, .cell, .cell, .cell, .local], gl := [], df := false } [3, 4, 2, 0] (.nm 4) (.rng1 (.v 1)) [] (.bin .add (.bin .add (.sl (.v 0) none (some (.v 1))) (.idx (.v 2) (.bin .mod (.bin .add (.bin .fdiv (.v 3) (.c (.int 3))) (.bin .mul (.c (.int 7)) (.v 4))) (.c (.int 26))))) (.sl (.v 0) (some (.bin .add (.v 1) (.c (.int 1)))) none))))]
noncomputable def d28 : Fn := { np := 2, G := { N := ["_law_cell", "_law_many", "_law_abc", "_law_base", "_law_at"], kd := [.cell, .local, .cell, .cell, .cell], gl := [26, 15, 0], df := true }, body := b28 }
noncomputable def b29 : List IS :=
 [(.asg (.nm 1) (.call 26 [(.v 0), (.c (.int 14))])), (.asg (.nm 2) (.c (.str "abcdefghijklmnopqrstuvwxyz0123456789"))), (.if_ (.cmp .eq (.bin .mod (.idx (.v 1) (.c (.int 0))) (.c (.int 3))) (.c (.int 0))) [(.asg (.nm 3) (.idx (.lst [(.c (.int 9)), (.bin .pow (.c (.int 10)) (.c (.int 9))), (.c (.int 999999999))]) (.bin .mod (.idx (.v 1) (.c (.int 1))) (.c (.int 3))))), (.ret (.idx (.lst [(.bin .sub (.bin .mod (.idx (.v 1) (.c (.int 2))) (.bin .add (.bin .mul (.c (.int 2)) (.v 3)) (.c (.int 1)))) (.v 3)), (.v 3), (.bin .sub (.c (.int 0)) (.v 3))]) (.bin .mod (.idx (.v 1) (.c (.int 3))) (.c (.int 3)))))] []), (.asg (.nm 4) (.idx (.lst [(.bin .mod (.idx (.v 1) (.c (.int 1))) (.c (.int 4))), (.bin .mod (.idx (.v 1) (.c (.int 1))) (.c (.int 13))), (.c (.int 12))]) (.bin .mod (.idx (.v 1) (.c (.int 2))) (.c (.int 3))))), (.asg (.nm 5) (.mth .join (.c (.str "")) [(.comp { N := ["_law_signs", "_law_xs", "_law_number"], kd := [.cell, .cell, .local], gl := [], df := false } [2, 1] (.nm 2) (.val (.sl (.v 1) (some (.c (.int 2))) (some (.c (.int 14))))) [] (.idx (.v 0) (.bin .mod (.v 2) (.idx (.lst [(.c (.int 2)), (.c (.int 36))]) (.bin .mod (.idx (.v 1) (.c (.int 3))) (.c (.int 2)))))))])), (.ret (.sl (.v 5) none (some (.v 4))))]
noncomputable def d29 : Fn := { np := 1, G := { N := ["_law_cell", "_law_xs", "_law_signs", "_law_far", "_law_size", "_law_text"], kd := [.local, .cell, .cell, .local, .local, .local], gl := [26], df := true }, body := b29 }
noncomputable def b30 : List IS :=
 [(.asg (.nm 2) (.call 26 [(.v 0), (.c (.int 10))])), (.asg (.nm 3) (.c (.str "abcdefghijklmnopqrstuvwxyz0123456789"))), (.if_ (.or_ (.cmp .eq (.v 1) (.c (.str "number"))) (.and_ (.cmp .eq (.v 1) (.c (.str "any"))) (.cmp .eq (.bin .mod (.idx (.v 2) (.c (.int 0))) (.c (.int 3))) (.c (.int 0))))) [(.asg (.nm 4) (.idx (.lst [(.c (.int 4)), (.c (.int 999999999))]) (.bin .mod (.idx (.v 2) (.c (.int 1))) (.c (.int 2))))), (.ret (.idx (.lst [(.bin .sub (.bin .mod (.idx (.v 2) (.c (.int 2))) (.bin .add (.bin .mul (.c (.int 2)) (.v 4)) (.c (.int 1)))) (.v 4)), (.v 4), (.bin .sub (.c (.int 0)) (.v 4))]) (.bin .mod (.idx (.v 2) (.c (.int 3))) (.c (.int 3)))))] []), (.asg (.nm 5) (.mth .join (.c (.str "")) [(.comp { N := ["_law_signs", "_law_xs", "_law_number"], kd := [.cell, .cell, .local], gl := [], df := false } [3, 2] (.nm 2) (.val (.sl (.v 2) (some (.c (.int 2))) (some (.c (.int 10))))) [] (.idx (.v 0) (.bin .mod (.v 2) (.idx (.lst [(.c (.int 2)), (.c (.int 36))]) (.bin .fdiv (.bin .mod (.idx (.v 1) (.c (.int 1))) (.c (.int 4))) (.c (.int 3)))))))])), (.if_ (.cmp .eq (.v 1) (.c (.str "begins"))) [(.ret (.sl (.v 5) none (some (.bin .add (.c (.int 1)) (.bin .mod (.bin .fdiv (.idx (.v 2) (.c (.int 0))) (.c (.int 3))) (.idx (.lst [(.c (.int 3)), (.c (.int 8))]) (.bin .mod (.idx (.v 2) (.c (.int 2))) (.c (.int 2)))))))))] []), (.ret (.sl (.v 5) none (some (.bin .mod (.bin .fdiv (.idx (.v 2) (.c (.int 0))) (.c (.int 3))) (.idx (.lst [(.c (.int 4)), (.c (.int 9))]) (.bin .mod (.idx (.v 2) (.c (.int 2))) (.c (.int 2))))))))]
noncomputable def d30 : Fn := { np := 2, G := { N := ["_law_cell", "_law_kind", "_law_xs", "_law_signs", "_law_far", "_law_text"], kd := [.local, .local, .cell, .cell, .local, .local], gl := [26], df := true }, body := b30 }
noncomputable def b31 : List IS :=
 [(.asg (.nm 3) (.lst [(.c (.str "is")), (.c (.str "not")), (.c (.str "begins")), (.c (.str "least")), (.c (.str "most")), (.c (.str "has")), (.c (.str "lacks")), (.c (.str "in")), (.c (.str "out"))])), (.asg (.nm 4) (.call 26 [(.v 0), (.c (.int 4))])), (.asg (.nm 5) (.idx (.v 3) (.bin .mod (.idx (.v 4) (.c (.int 0))) (.idx (.lst [(.c (.int 9)), (.c (.int 7))]) (.bi .int [(.cmp .eq (.v 2) (.lst []))]))))), (.asg (.nm 6) (.idx (.v 1) (.bin .mod (.idx (.v 4) (.c (.int 1))) (.bi .len [(.v 1)])))), (.if_ (.or_ (.cmp .eq (.v 5) (.c (.str "in"))) (.cmp .eq (.v 5) (.c (.str "out")))) [(.ret (.tup [(.idx (.v 2) (.bin .mod (.idx (.v 4) (.c (.int 1))) (.bi .len [(.v 2)]))), (.v 5), (.lst [])]))] []), (.if_ (.or_ (.cmp .eq (.v 5) (.c (.str "has"))) (.cmp .eq (.v 5) (.c (.str "lacks")))) [(.ret (.tup [(.v 6), (.v 5), (.lst [])]))] []), (.if_ (.or_ (.cmp .eq (.v 5) (.c (.str "least"))) (.cmp .eq (.v 5) (.c (.str "most")))) [(.ret (.tup [(.v 6), (.v 5), (.lst [(.call 30 [(.bin .fdiv (.v 0) (.c (.int 5))), (.c (.str "number"))])])]))] []), (.asg (.nm 7) (.idx (.lst [(.bin .add (.c (.int 1)) (.bin .mod (.idx (.v 4) (.c (.int 2))) (.c (.int 3)))), (.bin .add (.c (.int 1)) (.bin .mod (.idx (.v 4) (.c (.int 2))) (.c (.int 10))))]) (.bin .fdiv (.bin .mod (.idx (.v 4) (.c (.int 3))) (.c (.int 4))) (.c (.int 3))))), (.asg (.nm 8) (.idx (.lst [(.c (.str "any")), (.c (.str "begins"))]) (.bi .int [(.cmp .eq (.v 5) (.c (.str "begins")))]))), (.ret (.tup [(.v 6), (.v 5), (.comp { N := ["_law_cell", "_law_kind", "_law_k"], kd := [.cell, .cell, .local], gl := [30], df := false } [0, 8] (.nm 2) (.rng1 (.v 7)) [] (.call 30 [(.bin .add (.bin .fdiv (.v 0) (.c (.int 5))) (.bin .mul (.c (.int 31)) (.v 2))), (.v 1)]))]))]
noncomputable def d31 : Fn := { np := 3, G := { N := ["_law_cell", "_law_names_here", "_law_groups_here", "_law_words", "_law_xs", "_law_word", "_law_name", "_law_many", "_law_kind"], kd := [.cell, .local, .local, .local, .local, .local, .local, .local, .cell], gl := [26, 8, 0, 30, 15], df := true }, body := b31 }
noncomputable def b32 : List IS :=
 [(.asg (.nm 3) (.lst [])), (.for_ (.nm 4) (.val (.v 1)) [(.if_ (.and_ (.cmp .eq (.idx (.v 4) (.c (.int 0))) (.v 2)) (.cmp .nin (.idx (.v 4) (.c (.int 1))) (.tup [(.c (.str "in")), (.c (.str "out"))]))) [(.asg (.nm 3) (.bin .add (.v 3) (.idx (.v 4) (.c (.int 2)))))] [])]), (.asg (.nm 5) (.call 26 [(.v 0), (.c (.int 4))])), (.if_ (.or_ (.cmp .eq (.v 3) (.lst [])) (.cmp .eq (.bin .mod (.idx (.v 5) (.c (.int 0))) (.c (.int 4))) (.c (.int 0)))) [(.ret (.call 29 [(.bin .fdiv (.v 0) (.c (.int 3)))]))] []), (.asg (.nm 6) (.idx (.v 3) (.bin .mod (.idx (.v 5) (.c (.int 1))) (.bi .len [(.v 3)])))), (.if_ (.isi (.v 6) .int) [(.ret (.bin .sub (.bin .add (.v 6) (.bin .mod (.idx (.v 5) (.c (.int 2))) (.c (.int 3)))) (.c (.int 1))))] []), (.if_ (.cmp .eq (.bin .mod (.idx (.v 5) (.c (.int 2))) (.c (.int 3))) (.c (.int 0))) [(.ret (.bin .add (.v 6) (.idx (.c (.str "ab")) (.bin .mod (.idx (.v 5) (.c (.int 3))) (.c (.int 2))))))] []), (.if_ (.cmp .eq (.bin .mod (.idx (.v 5) (.c (.int 2))) (.c (.int 3))) (.c (.int 1))) [(.ret (.sl (.v 6) none (some (.bi .max2 [(.c (.int 0)), (.bin .sub (.bi .len [(.v 6)]) (.c (.int 1)))]))))] []), (.ret (.v 6))]
noncomputable def d32 : Fn := { np := 3, G := { N := ["_law_cell", "_law_conds", "_law_name", "_law_pool", "_law_cond_here", "_law_xs", "_law_thing_here"], kd := [.local, .local, .local, .local, .local, .local, .local], gl := [26, 29, 0, 14, 8, 3], df := true }, body := b32 }
noncomputable def b33 : List IS :=
 [(.asg (.nm 2) (.comp { N := ["_law_cond_here", "_law_pair"], kd := [.cell, .local], gl := [], df := false } [0] (.nm 1) (.val (.v 1)) [(.cmp .eq (.idx (.v 1) (.c (.int 0))) (.idx (.v 0) (.c (.int 0))))] (.idx (.v 1) (.c (.int 1))))), (.if_ (.or_ (.cmp .eq (.idx (.v 0) (.c (.int 1))) (.c (.str "has"))) (.cmp .eq (.idx (.v 0) (.c (.int 1))) (.c (.str "lacks")))) [(.ret (.cmp .eq (.cmp .eq (.v 2) (.lst [])) (.cmp .eq (.idx (.v 0) (.c (.int 1))) (.c (.str "lacks")))))] []), (.if_ (.and_ (.cmp .eq (.idx (.v 0) (.c (.int 1))) (.c (.str "not"))) (.cmp .eq (.v 2) (.lst []))) [(.ret (.c (.bl true)))] []), (.if_ (.cmp .eq (.v 2) (.lst [])) [(.ret (.c (.bl false)))] []), (.asg (.nm 3) (.idx (.v 2) (.c (.int 0)))), (.if_ (.or_ (.cmp .eq (.idx (.v 0) (.c (.int 1))) (.c (.str "is"))) (.cmp .eq (.idx (.v 0) (.c (.int 1))) (.c (.str "not")))) [(.asg (.nm 4) (.comp { N := ["_law_thing_here", "_law_one"], kd := [.cell, .local], gl := [14, 11], df := false } [3] (.nm 1) (.val (.idx (.v 0) (.c (.int 2)))) [(.and_ (.cmp .eq (.isi (.v 1) .str) (.isi (.v 0) .str)) (.cmp .eq (.v 1) (.v 0)))] (.v 1))), (.ret (.cmp .eq (.cmp .ne (.v 4) (.lst [])) (.cmp .eq (.idx (.v 0) (.c (.int 1))) (.c (.str "is")))))] []), (.if_ (.cmp .eq (.idx (.v 0) (.c (.int 1))) (.c (.str "begins"))) [(.ret (.and_ (.isi (.v 3) .str) (.cmp .ne (.comp { N := ["_law_thing_here", "_law_one"], kd := [.cell, .local], gl := [0], df := false } [3] (.nm 1) (.val (.idx (.v 0) (.c (.int 2)))) [(.cmp .eq (.sl (.v 0) none (some (.bi .len [(.v 1)]))) (.v 1))] (.v 1)) (.lst []))))] []), (.if_ (.isi (.v 3) .str) [(.ret (.c (.bl false)))] []), (.if_ (.cmp .eq (.idx (.v 0) (.c (.int 1))) (.c (.str "least"))) [(.ret (.cmp .le (.idx (.idx (.v 0) (.c (.int 2))) (.c (.int 0))) (.v 3)))] []), (.ret (.cmp .le (.v 3) (.idx (.idx (.v 0) (.c (.int 2))) (.c (.int 0)))))]
noncomputable def d33 : Fn := { np := 2, G := { N := ["_law_cond_here", "_law_marks_here", "_law_there", "_law_thing_here", "_law_alike"], kd := [.cell, .local, .local, .cell, .local], gl := [14, 11], df := true }, body := b33 }
noncomputable def b34 : List IS :=
 [(.asg (.nm 3) (.call 26 [(.v 0), (.c (.int 30))])), (.asg (.nm 4) (.lst [])), (.for_ (.nm 5) (.rng1 (.bi .len [(.v 2)])) [(.asg (.nm 6) (.lst [])), (.for_ (.nm 7) (.rng1 (.bin .mod (.idx (.v 3) (.v 5)) (.c (.int 4)))) [(.asg (.nm 8) (.bin .mod (.idx (.v 3) (.bin .add (.bin .add (.c (.int 4)) (.bin .mul (.c (.int 3)) (.v 5))) (.v 7))) (.c (.int 4)))), (.app 6 (.comp { N := ["_law_xs", "_law_cell", "_law_k", "_law_j", "_law_names_here", "_law_i"], kd := [.cell, .cell, .cell, .cell, .cell, .local], gl := [31], df := false } [3, 0, 5, 7, 1] (.nm 5) (.rng1 (.v 8)) [] (.call 31 [(.bin .add (.idx (.v 0) (.bin .add (.c (.int 15)) (.v 5))) (.bin .fdiv (.v 1) (.bin .add (.bin .add (.c (.int 1)) (.v 2)) (.bin .mul (.c (.int 4)) (.v 3))))), (.v 4), (.lst [])])))]), (.app 4 (.tup [(.idx (.v 2) (.v 5)), (.v 6)]))]), (.ret (.v 4))]
noncomputable def d34 : Fn := { np := 3, G := { N := ["_law_cell", "_law_names_here", "_law_of", "_law_xs", "_law_groups_here", "_law_k", "_law_rows", "_law_j", "_law_many"], kd := [.cell, .cell, .local, .cell, .local, .cell, .local, .cell, .local], gl := [26, 15, 0], df := true }, body := b34 }
noncomputable def b35 : List IS :=
 [(.for_ (.tp [(.nm 3), (.nm 4)]) (.val (.v 0)) [(.if_ (.cmp .eq (.v 3) (.v 1)) [(.ret (.cmp .ne (.comp { N := ["_law_marks_here", "_law_row"], kd := [.cell, .local], gl := [], df := false } [2] (.nm 1) (.val (.v 4)) [(.cmp .eq (.comp { N := ["_law_marks_here", "_law_cond_here"], kd := [.cell, .local], gl := [33], df := false } [0] (.nm 1) (.val (.v 1)) [(.not_ (.call 33 [(.v 1), (.v 0)]))] (.v 1)) (.lst []))] (.v 1)) (.lst [])))] [])]), (.ret (.c (.bl false)))]
noncomputable def d35 : Fn := { np := 3, G := { N := ["_law_groups_here", "_law_name", "_law_marks_here", "_law_own", "_law_rows"], kd := [.local, .local, .cell, .local, .local], gl := [], df := true }, body := b35 }
noncomputable def b36 : List IS :=
 [(.if_ (.or_ (.cmp .eq (.idx (.v 1) (.c (.int 1))) (.c (.str "in"))) (.cmp .eq (.idx (.v 1) (.c (.int 1))) (.c (.str "out")))) [(.ret (.cmp .eq (.call 35 [(.v 0), (.idx (.v 1) (.c (.int 0))), (.v 2)]) (.cmp .eq (.idx (.v 1) (.c (.int 1))) (.c (.str "in")))))] []), (.ret (.call 33 [(.v 1), (.v 2)]))]
noncomputable def d36 : Fn := { np := 3, G := { N := ["_law_groups_here", "_law_cond_here", "_law_marks_here"], kd := [.local, .local, .local], gl := [35, 33], df := true }, body := b36 }
noncomputable def b37 : List IS :=
 [(.asg (.nm 3) (.lst [])), (.for_ (.nm 4) (.rng1 (.bi .len [(.v 2)])) [(.if_ (.cmp .gt (.bin .mod (.bin .fdiv (.v 0) (.bin .add (.c (.int 3)) (.bin .mul (.c (.int 2)) (.v 4)))) (.c (.int 4))) (.c (.int 0))) [(.app 3 (.tup [(.idx (.v 2) (.v 4)), (.call 32 [(.bin .add (.v 0) (.bin .mul (.c (.int 101)) (.v 4))), (.v 1), (.idx (.v 2) (.v 4))])]))] [])]), (.ret (.v 3))]
noncomputable def d37 : Fn := { np := 3, G := { N := ["_law_cell", "_law_conds", "_law_names_here", "_law_marks_here", "_law_j"], kd := [.local, .local, .local, .local, .local], gl := [15, 0, 32], df := true }, body := b37 }
noncomputable def b38 : List IS :=
 [(.for_ (.tp [(.nm 4), (.nm 5)]) (.val (.v 1)) [(.if_ (.not_ (.call 27 [(.call 24 [(.v 0), (.v 4), (.bi .list [(.v 3)])]), (.call 35 [(.v 1), (.v 4), (.v 3)])])) [(.ret (.c (.bl false)))] [])]), (.for_ (.nm 6) (.val (.v 2)) [(.if_ (.not_ (.call 27 [(.call 21 [(.v 0), (.v 6), (.bi .list [(.v 3)])]), (.call 36 [(.v 1), (.v 6), (.v 3)])])) [(.ret (.c (.bl false)))] [])]), (.asg (.nm 7) (.cmp .eq (.comp { N := ["_law_groups_here", "_law_marks_here", "_law_cond_here"], kd := [.cell, .cell, .local], gl := [36], df := false } [1, 3] (.nm 2) (.val (.v 2)) [(.not_ (.call 36 [(.v 0), (.v 2), (.v 1)]))] (.v 2)) (.lst []))), (.ret (.call 27 [(.call 22 [(.v 0), (.bi .list [(.v 2)]), (.bi .list [(.v 3)])]), (.v 7)]))]
noncomputable def d38 : Fn := { np := 4, G := { N := ["_law_handed", "_law_groups_here", "_law_conds", "_law_marks_here", "_law_own", "_law_rows", "_law_cond_here", "_law_due"], kd := [.local, .cell, .local, .cell, .local, .local, .local, .local], gl := [27, 24, 5, 35, 21, 36, 22], df := true }, body := b38 }
noncomputable def b39 : List IS :=
 [(.asg (.nm 1) (.call 25 [(.v 0), (.c (.int 0))])), (.asg (.nm 2) (.call 28 [(.bin .fdiv (.v 1) (.c (.int 5))), (.c (.int 6))])), (.asg (.nm 3) (.sl (.v 2) none (some (.c (.int 3))))), (.asg (.nm 4) (.sl (.sl (.v 2) (some (.idx (.lst [(.c (.int 0)), (.c (.int 3))]) (.bin .mod (.v 1) (.c (.int 2))))) none) none (some (.bin .mod (.call 25 [(.v 0), (.c (.int 1))]) (.c (.int 4)))))), (.asg (.nm 5) (.call 34 [(.call 25 [(.v 0), (.c (.int 2))]), (.v 3), (.v 4)])), (.asg (.nm 6) (.call 34 [(.call 25 [(.v 0), (.c (.int 2))]), (.v 3), (.v 4)])), (.asg (.nm 7) (.lst [])), (.for_ (.tp [(.nm 8), (.nm 9)]) (.val (.v 5)) [(.for_ (.nm 10) (.val (.v 9)) [(.asg (.nm 7) (.bin .add (.v 7) (.v 10)))])]), (.for_ (.nm 11) (.rng2 (.c (.int 3)) (.c (.int 9))) [(.asg (.nm 12) (.bin .add (.call 25 [(.v 0), (.v 11)]) (.bin .mul (.c (.int 13)) (.v 11)))), (.asg (.nm 13) (.comp { N := ["_law_cell", "_law_names_here", "_law_of", "_law_j"], kd := [.cell, .cell, .cell, .local], gl := [31], df := false } [12, 3, 4] (.nm 3) (.rng1 (.bin .mod (.bin .fdiv (.v 12) (.c (.int 7))) (.c (.int 5)))) [] (.call 31 [(.bin .add (.v 0) (.bin .mul (.c (.int 17)) (.v 3))), (.v 1), (.v 2)]))), (.asg (.nm 14) (.call 37 [(.v 12), (.bin .add (.v 7) (.v 13)), (.v 3)])), (.if_ (.not_ (.call 38 [(.v 6), (.v 5), (.v 13), (.v 14)])) [(.ret (.c (.bl false)))] [])]), (.ret (.cmp .eq (.v 6) (.v 5)))]
noncomputable def d39 : Fn := { np := 1, G := { N := ["_law_script", "_law_number", "_law_many", "_law_names_here", "_law_of", "_law_groups_here", "_law_handed", "_law_all_conds", "_law_own", "_law_rows", "_law_row", "_law_k", "_law_cell", "_law_conds", "_law_marks_here"], kd := [.local, .local, .local, .cell, .cell, .local, .local, .local, .local, .local, .local, .local, .cell, .local, .local], gl := [25, 28, 34, 15, 37, 38], df := true }, body := b39 }
noncomputable def T : Tb := fun n => match n with
 | 18 => some d18
 | 19 => some d19
 | 20 => some d20
 | 21 => some d21
 | 22 => some d22
 | 23 => some d23
 | 24 => some d24
 | 25 => some d25
 | 26 => some d26
 | 27 => some d27
 | 28 => some d28
 | 29 => some d29
 | 30 => some d30
 | 31 => some d31
 | 32 => some d32
 | 33 => some d33
 | 34 => some d34
 | 35 => some d35
 | 36 => some d36
 | 37 => some d37
 | 38 => some d38
 | 39 => some d39
 | _ => none
theorem c18 : chkDef Z d18 ["thing"] (top 1) = true := by decide +kernel
theorem c19 : chkDef Z d19 ["marks", "name"] (top 3) = true := by decide +kernel
theorem c20 : chkDef Z d20 ["word", "things", "mark"] (top 5) = true := by decide +kernel
theorem c21 : chkDef Z d21 ["groups", "cond", "marks"] (top 6) = true := by decide +kernel
theorem c22 : chkDef Z d22 ["groups", "conds", "marks"] (top 7) = true := by decide +kernel
theorem c23 : chkDef Z d23 ["groups", "rows", "marks"] (top 8) = true := by decide +kernel
theorem c24 : chkDef Z d24 ["groups", "name", "marks"] (top 9) = true := by decide +kernel
theorem c25 : chkDef Z d25 ["_law_script", "_law_k"] (top 11) = true := by decide +kernel
theorem c26 : chkDef Z d26 ["_law_cell", "_law_many"] (top 12) = true := by decide +kernel
theorem c27 : chkDef Z d27 ["_law_found", "_law_due"] (top 13) = true := by decide +kernel
theorem c28 : chkDef Z d28 ["_law_cell", "_law_many"] (top 14) = true := by decide +kernel
theorem c29 : chkDef Z d29 ["_law_cell"] (top 15) = true := by decide +kernel
theorem c30 : chkDef Z d30 ["_law_cell", "_law_kind"] (top 16) = true := by decide +kernel
theorem c31 : chkDef Z d31 ["_law_cell", "_law_names_here", "_law_groups_here"] (top 17) = true := by decide +kernel
theorem c32 : chkDef Z d32 ["_law_cell", "_law_conds", "_law_name"] (top 18) = true := by decide +kernel
theorem c33 : chkDef Z d33 ["_law_cond_here", "_law_marks_here"] (top 19) = true := by decide +kernel
theorem c34 : chkDef Z d34 ["_law_cell", "_law_names_here", "_law_of"] (top 20) = true := by decide +kernel
theorem c35 : chkDef Z d35 ["_law_groups_here", "_law_name", "_law_marks_here"] (top 21) = true := by decide +kernel
theorem c36 : chkDef Z d36 ["_law_groups_here", "_law_cond_here", "_law_marks_here"] (top 22) = true := by decide +kernel
theorem c37 : chkDef Z d37 ["_law_cell", "_law_conds", "_law_names_here"] (top 23) = true := by decide +kernel
theorem c38 : chkDef Z d38 ["_law_handed", "_law_groups_here", "_law_conds", "_law_marks_here"] (top 24) = true := by decide +kernel
theorem c39 : chkDef Z d39 ["_law_script"] (top 25) = true := by decide +kernel
theorem nam_ok : ∀ n x, Z.name n = some x → x ≠ "__name__" ∧ (x == ("__debug__" : Str)) = false := by
 have h : (bnames ++ Z.nm).all (fun x => !(x == "__name__") && !(x == "__debug__")) = true := by decide +kernel
 intro n x hx
 have := List.all_eq_true.mp h x (List.mem_of_getElem? hx)
 simpa using this
theorem ln1 {fd : FuncData} {ps : List Str} (h : ∀ x0 : Value, bindArgs fd ⟨[x0], []⟩ = pure (ps.zip [x0])) (us : List Value) (e : us.length = 1) : bindArgs fd ⟨us, []⟩ = pure (ps.zip us) := by
 match us, e with
 | [x0], _ => exact h x0
theorem ln2 {fd : FuncData} {ps : List Str} (h : ∀ x0 x1 : Value, bindArgs fd ⟨[x0, x1], []⟩ = pure (ps.zip [x0, x1])) (us : List Value) (e : us.length = 2) : bindArgs fd ⟨us, []⟩ = pure (ps.zip us) := by
 match us, e with
 | [x0, x1], _ => exact h x0 x1
theorem ln3 {fd : FuncData} {ps : List Str} (h : ∀ x0 x1 x2 : Value, bindArgs fd ⟨[x0, x1, x2], []⟩ = pure (ps.zip [x0, x1, x2])) (us : List Value) (e : us.length = 3) : bindArgs fd ⟨us, []⟩ = pure (ps.zip us) := by
 match us, e with
 | [x0, x1, x2], _ => exact h x0 x1 x2
theorem ln4 {fd : FuncData} {ps : List Str} (h : ∀ x0 x1 x2 x3 : Value, bindArgs fd ⟨[x0, x1, x2, x3], []⟩ = pure (ps.zip [x0, x1, x2, x3])) (us : List Value) (e : us.length = 4) : bindArgs fd ⟨us, []⟩ = pure (ps.zip us) := by
 match us, e with
 | [x0, x1, x2, x3], _ => exact h x0 x1 x2 x3
theorem top_mk {K : W.Frag} {h : Heap} {mg : Str → Option Value} {f18 f19 f20 f21 f22 f23 f24 f25 f26 f27 f28 f29 f30 f31 f32 f33 f34 f35 f36 f37 f38 f39 : Addr} {od18 an18 od19 an19 od20 an20 od21 an21 od22 an22 od23 an23 od24 an24 od25 an25 od26 an26 od27 an27 od28 an28 od29 an29 od30 an30 od31 an31 od32 an32 od33 an33 od34 an34 od35 an35 od36 an36 od37 an37 od38 an38 od39 an39 : Option Addr} {sl18 sl19 sl20 sl21 sl22 sl23 sl24 sl25 sl26 sl27 sl28 sl29 sl30 sl31 sl32 sl33 sl34 sl35 sl36 sl37 sl38 sl39 : Array (Option Value)} {oc18 kV18 dc18 pm18 cd18 ct18 oc19 kV19 dc19 pm19 cd19 ct19 oc20 kV20 dc20 pm20 cd20 ct20 oc21 kV21 dc21 pm21 cd21 ct21 oc22 kV22 dc22 pm22 cd22 ct22 oc23 kV23 dc23 pm23 cd23 ct23 oc24 kV24 dc24 pm24 cd24 ct24 oc25 kV25 dc25 pm25 cd25 ct25 oc26 kV26 dc26 pm26 cd26 ct26 oc27 kV27 dc27 pm27 cd27 ct27 oc28 kV28 dc28 pm28 cd28 ct28 oc29 kV29 dc29 pm29 cd29 ct29 oc30 kV30 dc30 pm30 cd30 ct30 oc31 kV31 dc31 pm31 cd31 ct31 oc32 kV32 dc32 pm32 cd32 ct32 oc33 kV33 dc33 pm33 cd33 ct33 oc34 kV34 dc34 pm34 cd34 ct34 oc35 kV35 dc35 pm35 cd35 ct35 oc36 kV36 dc36 pm36 cd36 ct36 oc37 kV37 dc37 pm37 cd37 ct37 oc38 kV38 dc38 pm38 cd38 ct38 oc39 kV39 dc39 pm39 cd39 ct39 : Value} (X : K.In h) (G : h.Ns mainGlobals mg)
  (a18 : W.nsIn K mainGlobals "is_whole" = some (some (.ref f18))) (l18 : K.lookup f18 = some ⟨oc18, od18, .func (W.fnOf "is_whole" "is_whole" (defArgs (top 1)) (defBody (top 1)) (defScope (top 1)) .none kV18 dc18 pm18 an18 cd18 ct18), sl18⟩) (e18 : W.codeIn K cd18 "is_whole" = true) (k18 : W.keepIn K (.ref f18) = true)
  (a19 : W.nsIn K mainGlobals "mark_of" = some (some (.ref f19))) (l19 : K.lookup f19 = some ⟨oc19, od19, .func (W.fnOf "mark_of" "mark_of" (defArgs (top 3)) (defBody (top 3)) (defScope (top 3)) .none kV19 dc19 pm19 an19 cd19 ct19), sl19⟩) (e19 : W.codeIn K cd19 "mark_of" = true) (k19 : W.keepIn K (.ref f19) = true)
  (a20 : W.nsIn K mainGlobals "mark_holds" = some (some (.ref f20))) (l20 : K.lookup f20 = some ⟨oc20, od20, .func (W.fnOf "mark_holds" "mark_holds" (defArgs (top 5)) (defBody (top 5)) (defScope (top 5)) .none kV20 dc20 pm20 an20 cd20 ct20), sl20⟩) (e20 : W.codeIn K cd20 "mark_holds" = true) (k20 : W.keepIn K (.ref f20) = true)
  (a21 : W.nsIn K mainGlobals "cond_holds" = some (some (.ref f21))) (l21 : K.lookup f21 = some ⟨oc21, od21, .func (W.fnOf "cond_holds" "cond_holds" (defArgs (top 6)) (defBody (top 6)) (defScope (top 6)) .none kV21 dc21 pm21 an21 cd21 ct21), sl21⟩) (e21 : W.codeIn K cd21 "cond_holds" = true) (k21 : W.keepIn K (.ref f21) = true)
  (a22 : W.nsIn K mainGlobals "conds_hold" = some (some (.ref f22))) (l22 : K.lookup f22 = some ⟨oc22, od22, .func (W.fnOf "conds_hold" "conds_hold" (defArgs (top 7)) (defBody (top 7)) (defScope (top 7)) .none kV22 dc22 pm22 an22 cd22 ct22), sl22⟩) (e22 : W.codeIn K cd22 "conds_hold" = true) (k22 : W.keepIn K (.ref f22) = true)
  (a23 : W.nsIn K mainGlobals "in_rows" = some (some (.ref f23))) (l23 : K.lookup f23 = some ⟨oc23, od23, .func (W.fnOf "in_rows" "in_rows" (defArgs (top 8)) (defBody (top 8)) (defScope (top 8)) .none kV23 dc23 pm23 an23 cd23 ct23), sl23⟩) (e23 : W.codeIn K cd23 "in_rows" = true) (k23 : W.keepIn K (.ref f23) = true)
  (a24 : W.nsIn K mainGlobals "in_group" = some (some (.ref f24))) (l24 : K.lookup f24 = some ⟨oc24, od24, .func (W.fnOf "in_group" "in_group" (defArgs (top 9)) (defBody (top 9)) (defScope (top 9)) .none kV24 dc24 pm24 an24 cd24 ct24), sl24⟩) (e24 : W.codeIn K cd24 "in_group" = true) (k24 : W.keepIn K (.ref f24) = true)
  (a25 : W.nsIn K mainGlobals "_law_cell_at" = some (some (.ref f25))) (l25 : K.lookup f25 = some ⟨oc25, od25, .func (W.fnOf "_law_cell_at" "_law_cell_at" (defArgs (top 11)) (defBody (top 11)) (defScope (top 11)) .none kV25 dc25 pm25 an25 cd25 ct25), sl25⟩) (e25 : W.codeIn K cd25 "_law_cell_at" = true) (k25 : W.keepIn K (.ref f25) = true)
  (a26 : W.nsIn K mainGlobals "_law_stream" = some (some (.ref f26))) (l26 : K.lookup f26 = some ⟨oc26, od26, .func (W.fnOf "_law_stream" "_law_stream" (defArgs (top 12)) (defBody (top 12)) (defScope (top 12)) .none kV26 dc26 pm26 an26 cd26 ct26), sl26⟩) (e26 : W.codeIn K cd26 "_law_stream" = true) (k26 : W.keepIn K (.ref f26) = true)
  (a27 : W.nsIn K mainGlobals "_law_truth" = some (some (.ref f27))) (l27 : K.lookup f27 = some ⟨oc27, od27, .func (W.fnOf "_law_truth" "_law_truth" (defArgs (top 13)) (defBody (top 13)) (defScope (top 13)) .none kV27 dc27 pm27 an27 cd27 ct27), sl27⟩) (e27 : W.codeIn K cd27 "_law_truth" = true) (k27 : W.keepIn K (.ref f27) = true)
  (a28 : W.nsIn K mainGlobals "_law_names" = some (some (.ref f28))) (l28 : K.lookup f28 = some ⟨oc28, od28, .func (W.fnOf "_law_names" "_law_names" (defArgs (top 14)) (defBody (top 14)) (defScope (top 14)) .none kV28 dc28 pm28 an28 cd28 ct28), sl28⟩) (e28 : W.codeIn K cd28 "_law_names" = true) (k28 : W.keepIn K (.ref f28) = true)
  (a29 : W.nsIn K mainGlobals "_law_thing" = some (some (.ref f29))) (l29 : K.lookup f29 = some ⟨oc29, od29, .func (W.fnOf "_law_thing" "_law_thing" (defArgs (top 15)) (defBody (top 15)) (defScope (top 15)) .none kV29 dc29 pm29 an29 cd29 ct29), sl29⟩) (e29 : W.codeIn K cd29 "_law_thing" = true) (k29 : W.keepIn K (.ref f29) = true)
  (a30 : W.nsIn K mainGlobals "_law_told" = some (some (.ref f30))) (l30 : K.lookup f30 = some ⟨oc30, od30, .func (W.fnOf "_law_told" "_law_told" (defArgs (top 16)) (defBody (top 16)) (defScope (top 16)) .none kV30 dc30 pm30 an30 cd30 ct30), sl30⟩) (e30 : W.codeIn K cd30 "_law_told" = true) (k30 : W.keepIn K (.ref f30) = true)
  (a31 : W.nsIn K mainGlobals "_law_cond" = some (some (.ref f31))) (l31 : K.lookup f31 = some ⟨oc31, od31, .func (W.fnOf "_law_cond" "_law_cond" (defArgs (top 17)) (defBody (top 17)) (defScope (top 17)) .none kV31 dc31 pm31 an31 cd31 ct31), sl31⟩) (e31 : W.codeIn K cd31 "_law_cond" = true) (k31 : W.keepIn K (.ref f31) = true)
  (a32 : W.nsIn K mainGlobals "_law_mark" = some (some (.ref f32))) (l32 : K.lookup f32 = some ⟨oc32, od32, .func (W.fnOf "_law_mark" "_law_mark" (defArgs (top 18)) (defBody (top 18)) (defScope (top 18)) .none kV32 dc32 pm32 an32 cd32 ct32), sl32⟩) (e32 : W.codeIn K cd32 "_law_mark" = true) (k32 : W.keepIn K (.ref f32) = true)
  (a33 : W.nsIn K mainGlobals "_law_plain" = some (some (.ref f33))) (l33 : K.lookup f33 = some ⟨oc33, od33, .func (W.fnOf "_law_plain" "_law_plain" (defArgs (top 19)) (defBody (top 19)) (defScope (top 19)) .none kV33 dc33 pm33 an33 cd33 ct33), sl33⟩) (e33 : W.codeIn K cd33 "_law_plain" = true) (k33 : W.keepIn K (.ref f33) = true)
  (a34 : W.nsIn K mainGlobals "_law_groups" = some (some (.ref f34))) (l34 : K.lookup f34 = some ⟨oc34, od34, .func (W.fnOf "_law_groups" "_law_groups" (defArgs (top 20)) (defBody (top 20)) (defScope (top 20)) .none kV34 dc34 pm34 an34 cd34 ct34), sl34⟩) (e34 : W.codeIn K cd34 "_law_groups" = true) (k34 : W.keepIn K (.ref f34) = true)
  (a35 : W.nsIn K mainGlobals "_law_in_group" = some (some (.ref f35))) (l35 : K.lookup f35 = some ⟨oc35, od35, .func (W.fnOf "_law_in_group" "_law_in_group" (defArgs (top 21)) (defBody (top 21)) (defScope (top 21)) .none kV35 dc35 pm35 an35 cd35 ct35), sl35⟩) (e35 : W.codeIn K cd35 "_law_in_group" = true) (k35 : W.keepIn K (.ref f35) = true)
  (a36 : W.nsIn K mainGlobals "_law_holds" = some (some (.ref f36))) (l36 : K.lookup f36 = some ⟨oc36, od36, .func (W.fnOf "_law_holds" "_law_holds" (defArgs (top 22)) (defBody (top 22)) (defScope (top 22)) .none kV36 dc36 pm36 an36 cd36 ct36), sl36⟩) (e36 : W.codeIn K cd36 "_law_holds" = true) (k36 : W.keepIn K (.ref f36) = true)
  (a37 : W.nsIn K mainGlobals "_law_marks" = some (some (.ref f37))) (l37 : K.lookup f37 = some ⟨oc37, od37, .func (W.fnOf "_law_marks" "_law_marks" (defArgs (top 23)) (defBody (top 23)) (defScope (top 23)) .none kV37 dc37 pm37 an37 cd37 ct37), sl37⟩) (e37 : W.codeIn K cd37 "_law_marks" = true) (k37 : W.keepIn K (.ref f37) = true)
  (a38 : W.nsIn K mainGlobals "_law_asked" = some (some (.ref f38))) (l38 : K.lookup f38 = some ⟨oc38, od38, .func (W.fnOf "_law_asked" "_law_asked" (defArgs (top 24)) (defBody (top 24)) (defScope (top 24)) .none kV38 dc38 pm38 an38 cd38 ct38), sl38⟩) (e38 : W.codeIn K cd38 "_law_asked" = true) (k38 : W.keepIn K (.ref f38) = true)
  (a39 : W.nsIn K mainGlobals "law" = some (some (.ref f39))) (l39 : K.lookup f39 = some ⟨oc39, od39, .func (W.fnOf "law" "law" (defArgs (top 25)) (defBody (top 25)) (defScope (top 25)) .none kV39 dc39 pm39 an39 cd39 ct39), sl39⟩) (e39 : W.codeIn K cd39 "law" = true) (k39 : W.keepIn K (.ref f39) = true)
  (z0 : W.nsIn K mainGlobals "len" = some none)
  (z1 : W.nsIn K mainGlobals "sum" = some none)
  (z2 : W.nsIn K mainGlobals "min" = some none)
  (z3 : W.nsIn K mainGlobals "max" = some none)
  (z4 : W.nsIn K mainGlobals "sorted" = some none)
  (z5 : W.nsIn K mainGlobals "list" = some none)
  (z6 : W.nsIn K mainGlobals "tuple" = some none)
  (z7 : W.nsIn K mainGlobals "ord" = some none)
  (z8 : W.nsIn K mainGlobals "int" = some none)
  (z9 : W.nsIn K mainGlobals "all" = some none)
  (z10 : W.nsIn K mainGlobals "any" = some none)
  (z11 : W.nsIn K mainGlobals "str" = some none)
  (z12 : W.nsIn K mainGlobals "set" = some none)
  (z13 : W.nsIn K mainGlobals "abs" = some none)
  (z14 : W.nsIn K mainGlobals "isinstance" = some none)
  (z15 : W.nsIn K mainGlobals "range" = some none)
  (z16 : W.nsIn K mainGlobals "bool" = some none)
  (z17 : W.nsIn K mainGlobals "reversed" = some none) : TopOk K mg Z T where
 nam := nam_ok
 blt := fun n x hx => by
  have key : ∀ y ∈ bnames, mg y = none := by
   intro y hy
   simp only [bnames, List.mem_cons, List.not_mem_nil, or_false] at hy
   rcases hy with rfl | rfl | rfl | rfl | rfl | rfl | rfl | rfl | rfl | rfl | rfl | rfl | rfl | rfl | rfl | rfl | rfl | rfl
   ·exact W.mg_none_of X G z0
   ·exact W.mg_none_of X G z1
   ·exact W.mg_none_of X G z2
   ·exact W.mg_none_of X G z3
   ·exact W.mg_none_of X G z4
   ·exact W.mg_none_of X G z5
   ·exact W.mg_none_of X G z6
   ·exact W.mg_none_of X G z7
   ·exact W.mg_none_of X G z8
   ·exact W.mg_none_of X G z9
   ·exact W.mg_none_of X G z10
   ·exact W.mg_none_of X G z11
   ·exact W.mg_none_of X G z12
   ·exact W.mg_none_of X G z13
   ·exact W.mg_none_of X G z14
   ·exact W.mg_none_of X G z15
   ·exact W.mg_none_of X G z16
   ·exact W.mg_none_of X G z17
  exact key x (List.mem_of_getElem? hx)
 cst := fun n d x hm hx => by
  have hm' : (n, d) ∈ ([] : List (Nat × D)) := hm
  simp at hm'
 fns := fun f hf x hx => by
  have hf' : f ∈ ([18, 19, 20, 21, 22, 23, 24, 25, 26, 27, 28, 29, 30, 31, 32, 33, 34, 35, 36, 37, 38, 39] : List Nat) := hf
  simp only [List.mem_cons, List.not_mem_nil, or_false] at hf'
  rcases hf' with rfl | rfl | rfl | rfl | rfl | rfl | rfl | rfl | rfl | rfl | rfl | rfl | rfl | rfl | rfl | rfl | rfl | rfl | rfl | rfl | rfl | rfl
  ·cases hx; exact ⟨d18, top 1, f18, _, ["thing"], rfl, fun_mk (st := top 1) l18 e18 k18, PySem.W.mg_of X G a18, (fun_mk (st := top 1) l18 e18 k18).binds (fun _ _ _ _ _ _ us hl => ln1 (fun _ => rfl) us hl), defSc_of c18⟩
  ·cases hx; exact ⟨d19, top 3, f19, _, ["marks", "name"], rfl, fun_mk (st := top 3) l19 e19 k19, PySem.W.mg_of X G a19, (fun_mk (st := top 3) l19 e19 k19).binds (fun _ _ _ _ _ _ us hl => ln2 (fun _ _ => rfl) us hl), defSc_of c19⟩
  ·cases hx; exact ⟨d20, top 5, f20, _, ["word", "things", "mark"], rfl, fun_mk (st := top 5) l20 e20 k20, PySem.W.mg_of X G a20, (fun_mk (st := top 5) l20 e20 k20).binds (fun _ _ _ _ _ _ us hl => ln3 (fun _ _ _ => rfl) us hl), defSc_of c20⟩
  ·cases hx; exact ⟨d21, top 6, f21, _, ["groups", "cond", "marks"], rfl, fun_mk (st := top 6) l21 e21 k21, PySem.W.mg_of X G a21, (fun_mk (st := top 6) l21 e21 k21).binds (fun _ _ _ _ _ _ us hl => ln3 (fun _ _ _ => rfl) us hl), defSc_of c21⟩
  ·cases hx; exact ⟨d22, top 7, f22, _, ["groups", "conds", "marks"], rfl, fun_mk (st := top 7) l22 e22 k22, PySem.W.mg_of X G a22, (fun_mk (st := top 7) l22 e22 k22).binds (fun _ _ _ _ _ _ us hl => ln3 (fun _ _ _ => rfl) us hl), defSc_of c22⟩
  ·cases hx; exact ⟨d23, top 8, f23, _, ["groups", "rows", "marks"], rfl, fun_mk (st := top 8) l23 e23 k23, PySem.W.mg_of X G a23, (fun_mk (st := top 8) l23 e23 k23).binds (fun _ _ _ _ _ _ us hl => ln3 (fun _ _ _ => rfl) us hl), defSc_of c23⟩
  ·cases hx; exact ⟨d24, top 9, f24, _, ["groups", "name", "marks"], rfl, fun_mk (st := top 9) l24 e24 k24, PySem.W.mg_of X G a24, (fun_mk (st := top 9) l24 e24 k24).binds (fun _ _ _ _ _ _ us hl => ln3 (fun _ _ _ => rfl) us hl), defSc_of c24⟩
  ·cases hx; exact ⟨d25, top 11, f25, _, ["_law_script", "_law_k"], rfl, fun_mk (st := top 11) l25 e25 k25, PySem.W.mg_of X G a25, (fun_mk (st := top 11) l25 e25 k25).binds (fun _ _ _ _ _ _ us hl => ln2 (fun _ _ => rfl) us hl), defSc_of c25⟩
  ·cases hx; exact ⟨d26, top 12, f26, _, ["_law_cell", "_law_many"], rfl, fun_mk (st := top 12) l26 e26 k26, PySem.W.mg_of X G a26, (fun_mk (st := top 12) l26 e26 k26).binds (fun _ _ _ _ _ _ us hl => ln2 (fun _ _ => rfl) us hl), defSc_of c26⟩
  ·cases hx; exact ⟨d27, top 13, f27, _, ["_law_found", "_law_due"], rfl, fun_mk (st := top 13) l27 e27 k27, PySem.W.mg_of X G a27, (fun_mk (st := top 13) l27 e27 k27).binds (fun _ _ _ _ _ _ us hl => ln2 (fun _ _ => rfl) us hl), defSc_of c27⟩
  ·cases hx; exact ⟨d28, top 14, f28, _, ["_law_cell", "_law_many"], rfl, fun_mk (st := top 14) l28 e28 k28, PySem.W.mg_of X G a28, (fun_mk (st := top 14) l28 e28 k28).binds (fun _ _ _ _ _ _ us hl => ln2 (fun _ _ => rfl) us hl), defSc_of c28⟩
  ·cases hx; exact ⟨d29, top 15, f29, _, ["_law_cell"], rfl, fun_mk (st := top 15) l29 e29 k29, PySem.W.mg_of X G a29, (fun_mk (st := top 15) l29 e29 k29).binds (fun _ _ _ _ _ _ us hl => ln1 (fun _ => rfl) us hl), defSc_of c29⟩
  ·cases hx; exact ⟨d30, top 16, f30, _, ["_law_cell", "_law_kind"], rfl, fun_mk (st := top 16) l30 e30 k30, PySem.W.mg_of X G a30, (fun_mk (st := top 16) l30 e30 k30).binds (fun _ _ _ _ _ _ us hl => ln2 (fun _ _ => rfl) us hl), defSc_of c30⟩
  ·cases hx; exact ⟨d31, top 17, f31, _, ["_law_cell", "_law_names_here", "_law_groups_here"], rfl, fun_mk (st := top 17) l31 e31 k31, PySem.W.mg_of X G a31, (fun_mk (st := top 17) l31 e31 k31).binds (fun _ _ _ _ _ _ us hl => ln3 (fun _ _ _ => rfl) us hl), defSc_of c31⟩
  ·cases hx; exact ⟨d32, top 18, f32, _, ["_law_cell", "_law_conds", "_law_name"], rfl, fun_mk (st := top 18) l32 e32 k32, PySem.W.mg_of X G a32, (fun_mk (st := top 18) l32 e32 k32).binds (fun _ _ _ _ _ _ us hl => ln3 (fun _ _ _ => rfl) us hl), defSc_of c32⟩
  ·cases hx; exact ⟨d33, top 19, f33, _, ["_law_cond_here", "_law_marks_here"], rfl, fun_mk (st := top 19) l33 e33 k33, PySem.W.mg_of X G a33, (fun_mk (st := top 19) l33 e33 k33).binds (fun _ _ _ _ _ _ us hl => ln2 (fun _ _ => rfl) us hl), defSc_of c33⟩
  ·cases hx; exact ⟨d34, top 20, f34, _, ["_law_cell", "_law_names_here", "_law_of"], rfl, fun_mk (st := top 20) l34 e34 k34, PySem.W.mg_of X G a34, (fun_mk (st := top 20) l34 e34 k34).binds (fun _ _ _ _ _ _ us hl => ln3 (fun _ _ _ => rfl) us hl), defSc_of c34⟩
  ·cases hx; exact ⟨d35, top 21, f35, _, ["_law_groups_here", "_law_name", "_law_marks_here"], rfl, fun_mk (st := top 21) l35 e35 k35, PySem.W.mg_of X G a35, (fun_mk (st := top 21) l35 e35 k35).binds (fun _ _ _ _ _ _ us hl => ln3 (fun _ _ _ => rfl) us hl), defSc_of c35⟩
  ·cases hx; exact ⟨d36, top 22, f36, _, ["_law_groups_here", "_law_cond_here", "_law_marks_here"], rfl, fun_mk (st := top 22) l36 e36 k36, PySem.W.mg_of X G a36, (fun_mk (st := top 22) l36 e36 k36).binds (fun _ _ _ _ _ _ us hl => ln3 (fun _ _ _ => rfl) us hl), defSc_of c36⟩
  ·cases hx; exact ⟨d37, top 23, f37, _, ["_law_cell", "_law_conds", "_law_names_here"], rfl, fun_mk (st := top 23) l37 e37 k37, PySem.W.mg_of X G a37, (fun_mk (st := top 23) l37 e37 k37).binds (fun _ _ _ _ _ _ us hl => ln3 (fun _ _ _ => rfl) us hl), defSc_of c37⟩
  ·cases hx; exact ⟨d38, top 24, f38, _, ["_law_handed", "_law_groups_here", "_law_conds", "_law_marks_here"], rfl, fun_mk (st := top 24) l38 e38 k38, PySem.W.mg_of X G a38, (fun_mk (st := top 24) l38 e38 k38).binds (fun _ _ _ _ _ _ us hl => ln4 (fun _ _ _ _ => rfl) us hl), defSc_of c38⟩
  ·cases hx; exact ⟨d39, top 25, f39, _, ["_law_script"], rfl, fun_mk (st := top 25) l39 e39 k39, PySem.W.mg_of X G a39, (fun_mk (st := top 25) l39 e39 k39).binds (fun _ _ _ _ _ _ us hl => ln1 (fun _ => rfl) us hl), defSc_of c39⟩
noncomputable def lawN : Nat := 39
noncomputable def lawX : Str := "_law_script"
theorem all_mk {l : PySem.W.OpenLaw} {w : World} {fa : Addr} {K : W.Frag} {h : Heap} {mg : Str → Option Value} {f18 f19 f20 f21 f22 f23 f24 f25 f26 f27 f28 f29 f30 f31 f32 f33 f34 f35 f36 f37 f38 f39 : Addr} {od18 an18 od19 an19 od20 an20 od21 an21 od22 an22 od23 an23 od24 an24 od25 an25 od26 an26 od27 an27 od28 an28 od29 an29 od30 an30 od31 an31 od32 an32 od33 an33 od34 an34 od35 an35 od36 an36 od37 an37 od38 an38 od39 an39 : Option Addr} {sl18 sl19 sl20 sl21 sl22 sl23 sl24 sl25 sl26 sl27 sl28 sl29 sl30 sl31 sl32 sl33 sl34 sl35 sl36 sl37 sl38 sl39 : Array (Option Value)} {oc18 kV18 dc18 pm18 cd18 ct18 oc19 kV19 dc19 pm19 cd19 ct19 oc20 kV20 dc20 pm20 cd20 ct20 oc21 kV21 dc21 pm21 cd21 ct21 oc22 kV22 dc22 pm22 cd22 ct22 oc23 kV23 dc23 pm23 cd23 ct23 oc24 kV24 dc24 pm24 cd24 ct24 oc25 kV25 dc25 pm25 cd25 ct25 oc26 kV26 dc26 pm26 cd26 ct26 oc27 kV27 dc27 pm27 cd27 ct27 oc28 kV28 dc28 pm28 cd28 ct28 oc29 kV29 dc29 pm29 cd29 ct29 oc30 kV30 dc30 pm30 cd30 ct30 oc31 kV31 dc31 pm31 cd31 ct31 oc32 kV32 dc32 pm32 cd32 ct32 oc33 kV33 dc33 pm33 cd33 ct33 oc34 kV34 dc34 pm34 cd34 ct34 oc35 kV35 dc35 pm35 cd35 ct35 oc36 kV36 dc36 pm36 cd36 ct36 oc37 kV37 dc37 pm37 cd37 ct37 oc38 kV38 dc38 pm38 cd38 ct38 oc39 kV39 dc39 pm39 cd39 ct39 : Value} (X : K.In h) (G : h.Ns mainGlobals mg) (hfa : mg "law" = some (.ref fa))
  (a18 : W.nsIn K mainGlobals "is_whole" = some (some (.ref f18))) (l18 : K.lookup f18 = some ⟨oc18, od18, .func (W.fnOf "is_whole" "is_whole" (defArgs (top 1)) (defBody (top 1)) (defScope (top 1)) .none kV18 dc18 pm18 an18 cd18 ct18), sl18⟩) (e18 : W.codeIn K cd18 "is_whole" = true) (k18 : W.keepIn K (.ref f18) = true)
  (a19 : W.nsIn K mainGlobals "mark_of" = some (some (.ref f19))) (l19 : K.lookup f19 = some ⟨oc19, od19, .func (W.fnOf "mark_of" "mark_of" (defArgs (top 3)) (defBody (top 3)) (defScope (top 3)) .none kV19 dc19 pm19 an19 cd19 ct19), sl19⟩) (e19 : W.codeIn K cd19 "mark_of" = true) (k19 : W.keepIn K (.ref f19) = true)
  (a20 : W.nsIn K mainGlobals "mark_holds" = some (some (.ref f20))) (l20 : K.lookup f20 = some ⟨oc20, od20, .func (W.fnOf "mark_holds" "mark_holds" (defArgs (top 5)) (defBody (top 5)) (defScope (top 5)) .none kV20 dc20 pm20 an20 cd20 ct20), sl20⟩) (e20 : W.codeIn K cd20 "mark_holds" = true) (k20 : W.keepIn K (.ref f20) = true)
  (a21 : W.nsIn K mainGlobals "cond_holds" = some (some (.ref f21))) (l21 : K.lookup f21 = some ⟨oc21, od21, .func (W.fnOf "cond_holds" "cond_holds" (defArgs (top 6)) (defBody (top 6)) (defScope (top 6)) .none kV21 dc21 pm21 an21 cd21 ct21), sl21⟩) (e21 : W.codeIn K cd21 "cond_holds" = true) (k21 : W.keepIn K (.ref f21) = true)
  (a22 : W.nsIn K mainGlobals "conds_hold" = some (some (.ref f22))) (l22 : K.lookup f22 = some ⟨oc22, od22, .func (W.fnOf "conds_hold" "conds_hold" (defArgs (top 7)) (defBody (top 7)) (defScope (top 7)) .none kV22 dc22 pm22 an22 cd22 ct22), sl22⟩) (e22 : W.codeIn K cd22 "conds_hold" = true) (k22 : W.keepIn K (.ref f22) = true)
  (a23 : W.nsIn K mainGlobals "in_rows" = some (some (.ref f23))) (l23 : K.lookup f23 = some ⟨oc23, od23, .func (W.fnOf "in_rows" "in_rows" (defArgs (top 8)) (defBody (top 8)) (defScope (top 8)) .none kV23 dc23 pm23 an23 cd23 ct23), sl23⟩) (e23 : W.codeIn K cd23 "in_rows" = true) (k23 : W.keepIn K (.ref f23) = true)
  (a24 : W.nsIn K mainGlobals "in_group" = some (some (.ref f24))) (l24 : K.lookup f24 = some ⟨oc24, od24, .func (W.fnOf "in_group" "in_group" (defArgs (top 9)) (defBody (top 9)) (defScope (top 9)) .none kV24 dc24 pm24 an24 cd24 ct24), sl24⟩) (e24 : W.codeIn K cd24 "in_group" = true) (k24 : W.keepIn K (.ref f24) = true)
  (a25 : W.nsIn K mainGlobals "_law_cell_at" = some (some (.ref f25))) (l25 : K.lookup f25 = some ⟨oc25, od25, .func (W.fnOf "_law_cell_at" "_law_cell_at" (defArgs (top 11)) (defBody (top 11)) (defScope (top 11)) .none kV25 dc25 pm25 an25 cd25 ct25), sl25⟩) (e25 : W.codeIn K cd25 "_law_cell_at" = true) (k25 : W.keepIn K (.ref f25) = true)
  (a26 : W.nsIn K mainGlobals "_law_stream" = some (some (.ref f26))) (l26 : K.lookup f26 = some ⟨oc26, od26, .func (W.fnOf "_law_stream" "_law_stream" (defArgs (top 12)) (defBody (top 12)) (defScope (top 12)) .none kV26 dc26 pm26 an26 cd26 ct26), sl26⟩) (e26 : W.codeIn K cd26 "_law_stream" = true) (k26 : W.keepIn K (.ref f26) = true)
  (a27 : W.nsIn K mainGlobals "_law_truth" = some (some (.ref f27))) (l27 : K.lookup f27 = some ⟨oc27, od27, .func (W.fnOf "_law_truth" "_law_truth" (defArgs (top 13)) (defBody (top 13)) (defScope (top 13)) .none kV27 dc27 pm27 an27 cd27 ct27), sl27⟩) (e27 : W.codeIn K cd27 "_law_truth" = true) (k27 : W.keepIn K (.ref f27) = true)
  (a28 : W.nsIn K mainGlobals "_law_names" = some (some (.ref f28))) (l28 : K.lookup f28 = some ⟨oc28, od28, .func (W.fnOf "_law_names" "_law_names" (defArgs (top 14)) (defBody (top 14)) (defScope (top 14)) .none kV28 dc28 pm28 an28 cd28 ct28), sl28⟩) (e28 : W.codeIn K cd28 "_law_names" = true) (k28 : W.keepIn K (.ref f28) = true)
  (a29 : W.nsIn K mainGlobals "_law_thing" = some (some (.ref f29))) (l29 : K.lookup f29 = some ⟨oc29, od29, .func (W.fnOf "_law_thing" "_law_thing" (defArgs (top 15)) (defBody (top 15)) (defScope (top 15)) .none kV29 dc29 pm29 an29 cd29 ct29), sl29⟩) (e29 : W.codeIn K cd29 "_law_thing" = true) (k29 : W.keepIn K (.ref f29) = true)
  (a30 : W.nsIn K mainGlobals "_law_told" = some (some (.ref f30))) (l30 : K.lookup f30 = some ⟨oc30, od30, .func (W.fnOf "_law_told" "_law_told" (defArgs (top 16)) (defBody (top 16)) (defScope (top 16)) .none kV30 dc30 pm30 an30 cd30 ct30), sl30⟩) (e30 : W.codeIn K cd30 "_law_told" = true) (k30 : W.keepIn K (.ref f30) = true)
  (a31 : W.nsIn K mainGlobals "_law_cond" = some (some (.ref f31))) (l31 : K.lookup f31 = some ⟨oc31, od31, .func (W.fnOf "_law_cond" "_law_cond" (defArgs (top 17)) (defBody (top 17)) (defScope (top 17)) .none kV31 dc31 pm31 an31 cd31 ct31), sl31⟩) (e31 : W.codeIn K cd31 "_law_cond" = true) (k31 : W.keepIn K (.ref f31) = true)
  (a32 : W.nsIn K mainGlobals "_law_mark" = some (some (.ref f32))) (l32 : K.lookup f32 = some ⟨oc32, od32, .func (W.fnOf "_law_mark" "_law_mark" (defArgs (top 18)) (defBody (top 18)) (defScope (top 18)) .none kV32 dc32 pm32 an32 cd32 ct32), sl32⟩) (e32 : W.codeIn K cd32 "_law_mark" = true) (k32 : W.keepIn K (.ref f32) = true)
  (a33 : W.nsIn K mainGlobals "_law_plain" = some (some (.ref f33))) (l33 : K.lookup f33 = some ⟨oc33, od33, .func (W.fnOf "_law_plain" "_law_plain" (defArgs (top 19)) (defBody (top 19)) (defScope (top 19)) .none kV33 dc33 pm33 an33 cd33 ct33), sl33⟩) (e33 : W.codeIn K cd33 "_law_plain" = true) (k33 : W.keepIn K (.ref f33) = true)
  (a34 : W.nsIn K mainGlobals "_law_groups" = some (some (.ref f34))) (l34 : K.lookup f34 = some ⟨oc34, od34, .func (W.fnOf "_law_groups" "_law_groups" (defArgs (top 20)) (defBody (top 20)) (defScope (top 20)) .none kV34 dc34 pm34 an34 cd34 ct34), sl34⟩) (e34 : W.codeIn K cd34 "_law_groups" = true) (k34 : W.keepIn K (.ref f34) = true)
  (a35 : W.nsIn K mainGlobals "_law_in_group" = some (some (.ref f35))) (l35 : K.lookup f35 = some ⟨oc35, od35, .func (W.fnOf "_law_in_group" "_law_in_group" (defArgs (top 21)) (defBody (top 21)) (defScope (top 21)) .none kV35 dc35 pm35 an35 cd35 ct35), sl35⟩) (e35 : W.codeIn K cd35 "_law_in_group" = true) (k35 : W.keepIn K (.ref f35) = true)
  (a36 : W.nsIn K mainGlobals "_law_holds" = some (some (.ref f36))) (l36 : K.lookup f36 = some ⟨oc36, od36, .func (W.fnOf "_law_holds" "_law_holds" (defArgs (top 22)) (defBody (top 22)) (defScope (top 22)) .none kV36 dc36 pm36 an36 cd36 ct36), sl36⟩) (e36 : W.codeIn K cd36 "_law_holds" = true) (k36 : W.keepIn K (.ref f36) = true)
  (a37 : W.nsIn K mainGlobals "_law_marks" = some (some (.ref f37))) (l37 : K.lookup f37 = some ⟨oc37, od37, .func (W.fnOf "_law_marks" "_law_marks" (defArgs (top 23)) (defBody (top 23)) (defScope (top 23)) .none kV37 dc37 pm37 an37 cd37 ct37), sl37⟩) (e37 : W.codeIn K cd37 "_law_marks" = true) (k37 : W.keepIn K (.ref f37) = true)
  (a38 : W.nsIn K mainGlobals "_law_asked" = some (some (.ref f38))) (l38 : K.lookup f38 = some ⟨oc38, od38, .func (W.fnOf "_law_asked" "_law_asked" (defArgs (top 24)) (defBody (top 24)) (defScope (top 24)) .none kV38 dc38 pm38 an38 cd38 ct38), sl38⟩) (e38 : W.codeIn K cd38 "_law_asked" = true) (k38 : W.keepIn K (.ref f38) = true)
  (a39 : W.nsIn K mainGlobals "law" = some (some (.ref f39))) (l39 : K.lookup f39 = some ⟨oc39, od39, .func (W.fnOf "law" "law" (defArgs (top 25)) (defBody (top 25)) (defScope (top 25)) .none kV39 dc39 pm39 an39 cd39 ct39), sl39⟩) (e39 : W.codeIn K cd39 "law" = true) (k39 : W.keepIn K (.ref f39) = true)
  (z0 : W.nsIn K mainGlobals "len" = some none)
  (z1 : W.nsIn K mainGlobals "sum" = some none)
  (z2 : W.nsIn K mainGlobals "min" = some none)
  (z3 : W.nsIn K mainGlobals "max" = some none)
  (z4 : W.nsIn K mainGlobals "sorted" = some none)
  (z5 : W.nsIn K mainGlobals "list" = some none)
  (z6 : W.nsIn K mainGlobals "tuple" = some none)
  (z7 : W.nsIn K mainGlobals "ord" = some none)
  (z8 : W.nsIn K mainGlobals "int" = some none)
  (z9 : W.nsIn K mainGlobals "all" = some none)
  (z10 : W.nsIn K mainGlobals "any" = some none)
  (z11 : W.nsIn K mainGlobals "str" = some none)
  (z12 : W.nsIn K mainGlobals "set" = some none)
  (z13 : W.nsIn K mainGlobals "abs" = some none)
  (z14 : W.nsIn K mainGlobals "isinstance" = some none)
  (z15 : W.nsIn K mainGlobals "range" = some none)
  (z16 : W.nsIn K mainGlobals "bool" = some none)
  (z17 : W.nsIn K mainGlobals "reversed" = some none) :
  ∃ fd : FuncData, (∀ (s : Shared) (v : Value), BindsTo s fd ⟨[v], []⟩ [(lawX, v)]) ∧ ∀ base : Heap, K.In base → base.Ns mainGlobals mg → FnOk l.prog w K mg base CX0 (12 + 1) fa fd [lawX] (spF K (callF T (12 + 1)) xp0 lawN [lawX]) := by
 have e := hfa.symm.trans (PySem.W.mg_of X G a39)
 cases e
 have t := top_mk X G a18 l18 e18 k18 a19 l19 e19 k19 a20 l20 e20 k20 a21 l21 e21 k21 a22 l22 e22 k22 a23 l23 e23 k23 a24 l24 e24 k24 a25 l25 e25 k25 a26 l26 e26 k26 a27 l27 e27 k27 a28 l28 e28 k28 a29 l29 e29 k29 a30 l30 e30 k30 a31 l31 e31 k31 a32 l32 e32 k32 a33 l33 e33 k33 a34 l34 e34 k34 a35 l35 e35 k35 a36 l36 e36 k36 a37 l37 e37 k37 a38 l38 e38 k38 a39 l39 e39 k39 z0 z1 z2 z3 z4 z5 z6 z7 z8 z9 z10 z11 z12 z13 z14 z15 z16 z17
 exact ⟨PySem.W.fnOf "law" "law" (defArgs (top 25)) (defBody (top 25)) (defScope (top 25)) .none kV39 dc39 pm39 an39 cd39 ct39, fun s v => .of_eq rfl, fun base _ _ => def_fn t 12 (f := 39) (fn := d39) rfl (fun_mk (st := top 25) l39 e39 k39) (defSc_of c39)⟩
end Law
namespace Law
open PySem PySem.Spec PyProof.Rows PySem.SeqAt L2 L2.Ab
section
variable {gs : List Gp} (hg : ∀ g ∈ gs, GOk' g) {ps : List (Str × D)} (hp : ∀ p ∈ ps, Th p.2) (hps : ps.length ≤ 100)
include hp in
theorem md_er : er (.lst false (ps.map pr)) = .lst false (ps.map pr) := by
 rw [er, ers_lfrees (pr_lf fun p h => th_lf (hp p h))]
include hg in
theorem gd_er : er (.lst false (gs.map emG)) = .lst false (gs.map emG) := by rw [er, gs_er hg]
include hp in
theorem ch (k : Nat) (gd : D) {c : Cn} (hc : COk c) : callF T (k + 3) 21 [gd, emC c, .lst false (ps.map pr)] = .ok (.bl (hB c.2.1 c.2.2 (thr ps c.1))) :=
 cond_holds (show T 21 = some d21 from rfl) rfl rfl rfl (show T 20 = some d20 from rfl) rfl rfl rfl (show T 19 = some d19 from rfl) rfl rfl rfl (show T 18 = some d18 from rfl) rfl rfl rfl k gd false false hc.1 (by have := hc.2; omega) hp
include hp hg in
theorem rows (k : Nat) {r : List Cn} (hl : r.length ≤ 1000) (hr : ∀ c ∈ r, COk c) : callF T (k + 4) 22 [.lst false (gs.map emG), emR r, .lst false (ps.map pr)] = .ok (.bl (rowB ps r)) :=
 conds_hold (show T 22 = some d22 from rfl) rfl rfl rfl (m := k + 3) (gd_er hg) (md_er hp) (fun c hc => .inl (hr c hc)) hl fun c hc => ch hp k _ (hr c hc)
include hp hg in
theorem grp (k : Nat) (x : Str) : callF T (k + 6) 24 [.lst false (gs.map emG), .str x, .lst false (ps.map pr)] = .ok (.bl (grpB ps gs x)) :=
 in_group (show T 24 = some d24 from rfl) rfl rfl rfl (m := k + 5) (md_er hp) hg (fun g hgm => in_rows (show T 23 = some d23 from rfl) rfl rfl rfl (m := k + 4) (gd_er hg) (md_er hp) (hg g hgm).2 fun r hl hr => rows hg hp k hl hr) x
include hp hg in
theorem cb (k : Nat) {c : Cn} (hc : CIO c) : callF T (k + 7) 21 [.lst false (gs.map emG), emC c, .lst false (ps.map pr)] = .ok (.bl (cB ps gs c)) := by
 rcases hc with hc | hc
 ·have e := ch hp (k + 4) (.lst false (gs.map emG)) hc
  obtain ⟨n1, n2⟩ := hc.1.ne
  unfold cB
  rw [n1, n2]
  exact e
 ·have e := cond_io (show T 21 = some d21 from rfl) rfl rfl rfl (m := k + 6) (gd_er hg) (md_er hp) (b := grpB ps gs) (fun x => grp hg hp k x) hc
  refine e.trans ?_
  unfold cB
  rcases hc.1 with h | h <;> rw [h] <;> rfl
include hp hg in
theorem alls (k : Nat) {r : List Cn} (hl : r.length ≤ 1000) (hr : ∀ c ∈ r, CIO c) : callF T (k + 8) 22 [.lst false (gs.map emG), .lst false (r.map emC), .lst false (ps.map pr)] = .ok (.bl (r.all (cB ps gs))) :=
 conds_hold (show T 22 = some d22 from rfl) rfl rfl rfl (m := k + 7) (gd_er hg) (md_er hp) hr hl fun c hc => cb hg hp k (hr c hc)
include hp hps in
theorem pl (k : Nat) {c : Cn} (hc : COk c) : callF T (k + 1) 33 [emC c, .lst false (ps.map pr)] = .ok (.bl (hB c.2.1 c.2.2 (thr ps c.1))) :=
 plain (show T 33 = some d33 from rfl) rfl rfl rfl k false false hc.1 (by have := hc.2; omega) hp (by omega)
include hp hps hg in
theorem lgrp (k : Nat) (x : Str) : callF T (k + 2) 35 [.lst false (gs.map emG), .str x, .lst false (ps.map pr)] = .ok (.bl (grpB ps gs x)) :=
 law_group (show T 35 = some d35 from rfl) rfl rfl rfl (m := k + 1) (md_er hp) hg (fun c hc => pl hp hps k hc) x
include hp hps hg in
theorem lh (k : Nat) {c : Cn} (hc : CIO c) : callF T (k + 3) 36 [.lst false (gs.map emG), emC c, .lst false (ps.map pr)] = .ok (.bl (cB ps gs c)) :=
 law_holds (show T 36 = some d36 from rfl) rfl rfl rfl (m := k + 2) (md_er hp) hg (fun c hc => pl hp hps (k + 1) hc) (fun x => lgrp hg hp hps k x) hc
theorem tt (k : Nat) (b : Bool) : callF T (k + 1) 27 [.bl b, .bl b] = .ok (.bl true) := by
 have := truth (show T 27 = some d27 from rfl) rfl rfl rfl k b b
 rwa [beq_self_eq_true] at this
noncomputable def k1 : List IS := [(.if_ (.not_ (.call 27 [(.call 24 [(.v 0), (.v 4), (.bi .list [(.v 3)])]), (.call 35 [(.v 1), (.v 4), (.v 3)])])) [(.ret (.c (.bl false)))] [])]
noncomputable def k2 : List IS := [(.if_ (.not_ (.call 27 [(.call 21 [(.v 0), (.v 6), (.bi .list [(.v 3)])]), (.call 36 [(.v 1), (.v 6), (.v 3)])])) [(.ret (.c (.bl false)))] [])]
include hp hps hg in
theorem asked {cs : List Cn} (hc : ∀ c ∈ cs, CIO c) (hl : cs.length ≤ 1000) : callF T 12 38 [.lst false (gs.map emG), .lst false (gs.map emG), .lst false (cs.map emC), .lst false (ps.map pr)] = .ok (.bl true) := by
 rw [Ev.go (n := 11) (show T 38 = some d38 from rfl) (show d38.np = 4 from rfl) (show d38.G.N.length = 8 from rfl) (show d38.body = b38 from rfl) rfl]
 have he := gs_er hg
 have h1 := ers_lfrees (pr_lf (ps := ps) fun p h => th_lf (hp p h))
 have h2 : ers (cs.map emC) = cs.map emC := map_er fun c h => emC_er (hc c h)
 have lc : (cs.map emC).length = cs.length := List.length_map ..
 obtain ⟨τ1, e1, a4, a5, rfl⟩ := Ev.for_all (its := gs.map emG) (τ := [some (.lst false (gs.map emG)), some (.lst false (gs.map emG)), some (.lst false (cs.map emC)), some (.lst false (ps.map pr)), none, none, none, none]) (body := Ev.turn (callF T 11) (.tp [.nm 4, .nm 5]) k1)
  (fun _ τ => ∃ a b, τ = [some (.lst false (gs.map emG)), some (.lst false (gs.map emG)), some (.lst false (cs.map emC)), some (.lst false (ps.map pr)), a, b, none, none]) ⟨_, _, rfl⟩ (by
   rintro i d τ hd ⟨a, b, rfl⟩
   obtain ⟨g, hgm, rfl⟩ := List.mem_map.mp (List.mem_of_getElem? hd)
   have f1 := grp hg hp 5 g.1
   have f2 := lgrp hg hp hps 9 g.1
   have f3 := tt 10 (grpB ps gs g.1)
   refine ⟨_, ?_, some (.str g.1), some (.lst false (g.2.map emR)), rfl⟩
   unfold k1 emG at *
   simp -implicitDefEqProofs (disch := omega) only [ev0, Nat.reduceBEq, Nat.reduceSub, Nat.reduceAdd, reduceIte, Ev.turn_eq, he, h1, f1, f2, f3])
 obtain ⟨τ2, e2, a6, rfl⟩ := Ev.for_all (its := cs.map emC) (τ := [some (.lst false (gs.map emG)), some (.lst false (gs.map emG)), some (.lst false (cs.map emC)), some (.lst false (ps.map pr)), a4, a5, none, none]) (body := Ev.turn (callF T 11) (.nm 6) k2)
  (fun _ τ => ∃ a, τ = [some (.lst false (gs.map emG)), some (.lst false (gs.map emG)), some (.lst false (cs.map emC)), some (.lst false (ps.map pr)), a4, a5, a, none]) ⟨_, rfl⟩ (by
   rintro i d τ hd ⟨a, rfl⟩
   obtain ⟨c, hcm, rfl⟩ := List.mem_map.mp (List.mem_of_getElem? hd)
   have f1 := cb hg hp 4 (hc c hcm)
   have f2 := lh hg hp hps 8 (hc c hcm)
   have f3 := tt 10 (cB ps gs c)
   have f4 := emC_er (hc c hcm)
   refine ⟨_, ?_, some (emC c), rfl⟩
   unfold k2
   simp -implicitDefEqProofs (disch := omega) only [ev0, Nat.reduceBEq, Nat.reduceSub, Nat.reduceAdd, reduceIte, Ev.turn_eq, he, h1, f1, f2, f3, f4])
 have e3 : fmapM (bodyM (callF T 11) (.nm 2) [(.not_ (.call 36 [(.v 0), (.v 2), (.v 1)]))] (.v 2) [some (.lst false (gs.map emG)), some (.lst false (ps.map pr)), none]) (cs.map emC) = .ok ((cs.filter fun c => !cB ps gs c).map emC) := by
  refine fmap_filter emC (fun c => !cB ps gs c) emC _ fun c hcm => ?_
  have f2 := lh hg hp hps 8 (hc c hcm)
  have f4 := emC_er (hc c hcm)
  cases hx : cB ps gs c <;> (rw [hx] at f2; simp -implicitDefEqProofs (disch := omega) only [ev0, Nat.reduceBEq, Nat.reduceSub, Nat.reduceAdd, reduceIte, he, h1, f2, f4])
 have e4 := emp_filter (n := 39) emC (fun c : Cn => !cB ps gs c) cs
 rw [all_any (cB ps gs) cs] at e4
 have e5 := alls hg hp 3 hl hc
 have e6 := tt 10 (cs.all (cB ps gs))
 unfold b38
 unfold k1 at e1
 unfold k2 at e2
 simp -implicitDefEqProofs (disch := omega) only [ev0, Nat.reduceBEq, Nat.reduceSub, Nat.reduceAdd, reduceIte, he, h1, h2, lc, e1, e2, e3, e4, e5, e6]
end
noncomputable def ov := cellOv 25
theorem ov_ok : OvOk T ov := cell_ov (fn := d25) rfl rfl rfl rfl
noncomputable def M : Nat := 2 ^ 128 - 1
noncomputable def sT : A := .lst false [.int none none] 0 63
noncomputable def nT : A := .lst false [.str 0 30 M] 3 3
noncomputable def oT (a b : Nat) : A := .lst false [.str 0 30 M] a b
noncomputable def Ut : U := [.int none none, .str 0 30 M]
noncomputable def Um : U := [.int none none, .str 0 40 M]
noncomputable def c1 : A := .tup [[.str 0 30 M], [.cs "is", .cs "not"], [.lst false Ut 0 10]]
noncomputable def c2 : A := .tup [[.str 0 30 M], [.cs "begins"], [.lst false [.str 0 30 M] 0 10]]
noncomputable def c3 : A := .tup [[.str 0 30 M], [.cs "least", .cs "most"], [.ls false [[.int none none]]]]
noncomputable def c4 : A := .tup [[.str 0 30 M], [.cs "has", .cs "lacks"], [.ls false []]]
noncomputable def c5 : A := .tup [[.str 0 30 M], [.cs "in", .cs "out"], [.ls false []]]
noncomputable def C4 : U := [c1, c2, c3, c4]
noncomputable def C5 : U := [c1, c2, c3, c4, c5]
noncomputable def gT : A := .lst false [.tup [[.str 0 30 M], [.lst false [.lst false C4 0 3] 0 3]]] 0 3
noncomputable def mT : A := .lst false [.tup [[.str 0 30 M], Um]] 0 3
theorem t_c11 : chk (aCall T ov 11 31 [.int none none, nT, .ls false []]) C4 = true := by decide +kernel
noncomputable def ov1 := ovAt (ovAt (ovAt ov 10 31 [.int none none, nT, .ls false []] C4) 11 31 [.int none none, nT, oT 0 3] C5) 10 32 [.int none none, .lst false C5 0 31, .str 0 30 M] Um
theorem t_c12' : chk (aCall T (ovAt ov 10 31 [.int none none, nT, .ls false []] C4) 12 31 [.int none none, nT, oT 0 3]) C5 = true := by decide +kernel
theorem t_m11' : chk (aCall T (ovAt (ovAt ov 10 31 [.int none none, nT, .ls false []] C4) 11 31 [.int none none, nT, oT 0 3] C5) 11 32 [.int none none, .lst false C5 0 31, .str 0 30 M]) Um = true := by decide +kernel
theorem ov1_ok : OvOk T ov1 := ovAt_ok (ovAt_ok (ovAt_ok ov_ok t_c11) t_c12') t_m11'
theorem t_g0 : chk (aCall T ov1 12 34 [.int none none, nT, oT 0 0]) [gT] = true := by decide +kernel
theorem t_g1 : chk (aCall T ov1 12 34 [.int none none, nT, oT 1 1]) [gT] = true := by decide +kernel
theorem t_g2 : chk (aCall T ov1 12 34 [.int none none, nT, oT 2 2]) [gT] = true := by decide +kernel
theorem t_g3 : chk (aCall T ov1 12 34 [.int none none, nT, oT 3 3]) [gT] = true := by decide +kernel
noncomputable def p1 : List IS := b39.take 4
noncomputable def p2 : List IS := (b39.drop 4).take 2
noncomputable def p3 : List IS := (b39.drop 6).take 2
noncomputable def q1 : List IS := [(.asg (.nm 12) (.bin .add (.call 25 [(.v 0), (.v 11)]) (.bin .mul (.c (.int 13)) (.v 11)))), (.asg (.nm 13) (.comp { N := ["_law_cell", "_law_names_here", "_law_of", "_law_j"], kd := [.cell, .cell, .cell, .local], gl := [31], df := false } [12, 3, 4] (.nm 3) (.rng1 (.bin .mod (.bin .fdiv (.v 12) (.c (.int 7))) (.c (.int 5)))) [] (.call 31 [(.bin .add (.v 0) (.bin .mul (.c (.int 17)) (.v 3))), (.v 1), (.v 2)]))), (.asg (.nm 14) (.call 37 [(.v 12), (.bin .add (.v 7) (.v 13)), (.v 3)]))]
noncomputable def q2 : List IS := [(.if_ (.not_ (.call 38 [(.v 6), (.v 5), (.v 13), (.v 14)])) [(.ret (.c (.bl false)))] [])]
noncomputable def E1 : AE := [some sT, none, none, none, none, none, none, none, none, none, none, none, none, none, none]
noncomputable def E2 : AE := [some sT, none, none, some nT, some (oT 0 3), none, none, none, none, none, none, none, none, none, none]
noncomputable def E3 : AE := [some sT, none, none, some nT, some (oT 0 3), some gT, some gT, none, none, none, none, none, none, none, none]
noncomputable def E4 : AE := [some sT, none, none, some nT, some (oT 0 3), some gT, some gT, some (.lst false C4 0 27), none, none, none, none, none, none, none]
noncomputable def E5 : AE := [some sT, none, none, some nT, some (oT 0 3), some gT, some gT, some (.lst false C4 0 27), none, none, none, some (.int (some 3) (some 8)), none, none, none]
noncomputable def E6 : AE := [some sT, none, none, some nT, some (oT 0 3), some gT, some gT, some (.lst false C4 0 27), none, none, none, none, none, some (.lst false C5 0 4), some mT]
theorem t_p1 : chkF (aSs (aCall T ov 12) p1 E1) E2 = true := by decide +kernel
theorem t_p3 : chkF (aSs (aCall T ov1 12) p3 E3) E4 = true := by decide +kernel
theorem t_q1 : chkF (aSs (aCall T ov1 12) q1 E5) E6 = true := by decide +kernel
theorem ut_th {d : D} (h : InU d Ut) : Th d := by
 unfold Ut at h
 simp only [u_c, u_n, i_i, i_s, or_false] at h
 rcases h with ⟨i, rfl, _⟩ | ⟨x, rfl, _, h, _⟩
 ·exact .inl ⟨_, rfl⟩
 ·exact .inr ⟨_, rfl, by omega⟩
theorem um_th {d : D} (h : InU d Um) : Th d := by
 unfold Um at h
 simp only [u_c, u_n, i_i, i_s, or_false] at h
 rcases h with ⟨i, rfl, _⟩ | ⟨x, rfl, _, h, _⟩
 ·exact .inl ⟨_, rfl⟩
 ·exact .inr ⟨_, rfl, by omega⟩
theorem er_c {name w : Str} {o : Bool} {ts : List D} (h : ∀ d ∈ ts, Th d) : er (.tup [.str name, .str w, .lst o ts]) = emC (name, w, ts) := by
 unfold emC
 rw [er, ers, ers, ers, ers, er, er, er, ers_lfrees (ths_lf h)]
theorem cond_er {d : D} (h : InU d C4) : ∃ c : Cn, er d = emC c ∧ COk c := by
 unfold C4 at h
 simp only [u_c, u_n, or_false] at h
 rcases h with h | h | h | h
 ·unfold c1 at h
  simp only [i_t, z_c, z_n, u_c, u_n, or_false, i_s, i_cs, i_l] at h
  obtain ⟨ds, rfl, d1, _, rfl, ⟨nm, rfl, _⟩, d2, _, rfl, hw, d3, _, rfl, ⟨o, ts, rfl, _, _, hl, hts⟩, rfl⟩ := h
  have ht : ∀ d ∈ ts, Th d := fun d hd => ut_th (inA_iff.mp hts d hd)
  rcases hw with rfl | rfl
  ·exact ⟨(nm, _, ts), er_c ht, .is ht, hl⟩
  ·exact ⟨(nm, _, ts), er_c ht, .not ht, hl⟩
 ·unfold c2 at h
  simp only [i_t, z_c, z_n, u_c, u_n, or_false, i_s, i_cs, i_l] at h
  obtain ⟨ds, rfl, d1, _, rfl, ⟨nm, rfl, _⟩, d2, _, rfl, rfl, d3, _, rfl, ⟨o, ts, rfl, _, _, hl, hts⟩, rfl⟩ := h
  obtain ⟨xs, rfl, hx⟩ := inA_map (emb := D.str) (Q := fun x => x.length ≤ 1000) (fun d hd => by
   obtain ⟨x, rfl, _, h, _⟩ := i_s.mp (inU_1.mp hd)
   exact ⟨x, rfl, by omega⟩) hts
  exact ⟨(nm, _, _), er_c (Wd.begins hx).th, .begins hx, hl⟩
 ·unfold c3 at h
  simp only [i_t, z_c, z_n, u_c, u_n, or_false, i_s, i_cs, i_ls, i_i] at h
  obtain ⟨ds, rfl, d1, _, rfl, ⟨nm, rfl, _⟩, d2, _, rfl, hw, d3, _, rfl, ⟨o, ts, rfl, _, d4, _, rfl, ⟨i, rfl, _⟩, rfl⟩, rfl⟩ := h
  rcases hw with rfl | rfl
  ·exact ⟨(nm, _, _), er_c (Wd.least).th, .least, by simp⟩
  ·exact ⟨(nm, _, _), er_c (Wd.most).th, .most, by simp⟩
 ·unfold c4 at h
  simp only [i_t, z_c, z_n, u_c, u_n, or_false, i_s, i_cs, i_ls] at h
  obtain ⟨ds, rfl, d1, _, rfl, ⟨nm, rfl, _⟩, d2, _, rfl, hw, d3, _, rfl, ⟨o, ts, rfl, _, rfl⟩, rfl⟩ := h
  rcases hw with rfl | rfl
  ·exact ⟨(nm, _, _), er_c (Wd.has).th, .has, by simp⟩
  ·exact ⟨(nm, _, _), er_c (Wd.lacks).th, .lacks, by simp⟩
theorem cond_er5 {d : D} (h : InU d C5) : ∃ c : Cn, er d = emC c ∧ CIO c := by
 have h : InU d C4 ∨ In d c5 := by
  unfold C5 at h
  unfold C4
  simp only [u_c, u_n, or_false] at h ⊢
  rcases h with h | h | h | h | h
  ·exact .inl (.inl h)
  ·exact .inl (.inr (.inl h))
  ·exact .inl (.inr (.inr (.inl h)))
  ·exact .inl (.inr (.inr (.inr h)))
  ·exact .inr h
 rcases h with h | h
 ·obtain ⟨c, e, hc⟩ := cond_er h
  exact ⟨c, e, .inl hc⟩
 ·unfold c5 at h
  simp only [i_t, z_c, z_n, u_c, u_n, or_false, i_s, i_cs, i_ls] at h
  obtain ⟨ds, rfl, d1, _, rfl, ⟨nm, rfl, _⟩, d2, _, rfl, hw, d3, _, rfl, ⟨o, ts, rfl, _, rfl⟩, rfl⟩ := h
  rcases hw with rfl | rfl
  ·exact ⟨(nm, _, _), er_c (fun _ z => by cases z), .inr ⟨.inl rfl, rfl⟩⟩
  ·exact ⟨(nm, _, _), er_c (fun _ z => by cases z), .inr ⟨.inr rfl, rfl⟩⟩
theorem groups_of {d : D} (h : In d gT) : ∃ gs : List Gp, er d = .lst false (gs.map emG) ∧ ∀ g ∈ gs, GOk' g := by
 unfold gT at h
 obtain ⟨o, ds, rfl, _, _, _, h⟩ := i_l.mp h
 obtain ⟨gs, e, hg⟩ := inA_er (emb := emG) (Q := GOk') (fun d hd => by
  have hd := inU_1.mp hd
  simp only [i_t, z_c, z_n, u_c, u_n, or_false, i_s, i_l] at hd
  obtain ⟨ds, rfl, d1, _, rfl, ⟨nm, rfl, _⟩, d2, _, rfl, ⟨o2, rs, rfl, _, _, hl, hrs⟩, rfl⟩ := hd
  obtain ⟨rows, er2, hr⟩ := inA_er (emb := emR) (Q := fun r : List Cn => r.length ≤ 1000 ∧ ∀ c ∈ r, COk c) (fun d hd => by
   obtain ⟨o3, cs, rfl, _, _, hl3, hcs⟩ := i_l.mp (inU_1.mp hd)
   obtain ⟨cs', er3, hc⟩ := inA_er (emb := emC) (Q := COk) (fun d hd => cond_er hd) hcs
   refine ⟨cs', by unfold emR; rw [er, er3], ?_, hc⟩
   have := congrArg List.length er3
   rw [ers_length, List.length_map] at this
   omega) hrs
  refine ⟨(nm, rows), by unfold emG; rw [er, ers, ers, ers, er, er, er2], ?_, hr⟩
  have := congrArg List.length er2
  rw [ers_length, List.length_map] at this
  show rows.length ≤ 1000
  omega) h
 exact ⟨gs, by rw [er, e], hg⟩
theorem conds_of {d : D} (h : In d (.lst false C5 0 4)) : ∃ cs : List Cn, er d = .lst false (cs.map emC) ∧ (∀ c ∈ cs, CIO c) ∧ cs.length ≤ 1000 := by
 obtain ⟨o, ds, rfl, _, _, hl, h⟩ := i_l.mp h
 obtain ⟨cs, e, hc⟩ := inA_er (emb := emC) (Q := CIO) (fun d hd => cond_er5 hd) h
 refine ⟨cs, by rw [er, e], hc, ?_⟩
 have := congrArg List.length e
 rw [ers_length, List.length_map] at this
 omega
theorem marks_of {d : D} (h : In d mT) : ∃ ps : List (Str × D), er d = .lst false (ps.map pr) ∧ (∀ p ∈ ps, Th p.2) ∧ ps.length ≤ 100 := by
 unfold mT at h
 obtain ⟨o, ds, rfl, _, _, hl, h⟩ := i_l.mp h
 obtain ⟨ps, e, hp⟩ := inA_er (emb := pr) (Q := fun p : Str × D => Th p.2) (fun d hd => by
  obtain ⟨ds, rfl, hs⟩ := i_t.mp (inU_1.mp hd)
  simp only [z_c, z_n] at hs
  obtain ⟨d1, _, rfl, h1, d2, _, rfl, h2, rfl⟩ := hs
  obtain ⟨x, rfl, _⟩ := i_s.mp (inU_1.mp h1)
  have ht := um_th h2
  exact ⟨(x, d2), by unfold pr; rw [er, ers, ers, ers, er, th_er ht], ht⟩) h
 refine ⟨ps, by rw [er, e], hp, ?_⟩
 have := congrArg List.length e
 rw [ers_length, List.length_map] at this
 omega
theorem strs_of {d : D} {a b : Nat} (h : In d (oT a b)) : ∃ (o : Bool) (xs : List Str), d = .lst o (xs.map .str) ∧ a ≤ xs.length ∧ xs.length ≤ b ∧ In (.lst false (xs.map .str)) (oT xs.length xs.length) ∧ In (.lst false (xs.map .str)) (oT a b) := by
 unfold oT at h
 obtain ⟨o, ds, rfl, _, h1, h2, h⟩ := i_l.mp h
 obtain ⟨xs, rfl, _⟩ := inA_map (emb := D.str) (Q := fun _ => True) (fun d hd => by
  obtain ⟨x, rfl, _⟩ := i_s.mp (inU_1.mp hd)
  exact ⟨x, rfl, trivial⟩) h
 rw [List.length_map] at h1 h2
 refine ⟨o, xs, rfl, h1, h2, .lst nofalse ?_ ?_ h, .lst nofalse ?_ ?_ h⟩ <;> rw [List.length_map] <;> first | exact Nat.le_refl _ | assumption
theorem make (c : Int) {v3 : D} (h3 : In v3 nT) {xs : List Str} (hl : xs.length ≤ 3) (h4 : In (.lst false (xs.map .str)) (oT xs.length xs.length)) : ∃ d, callF T 12 34 [.int c, v3, .lst false (xs.map .str)] = .ok d ∧ In d gT := by
 have key : ∀ n, n = xs.length → chk (aCall T ov1 12 34 [.int none none, nT, oT n n]) [gT] = true → ∃ d, callF T 12 34 [.int c, v3, .lst false (xs.map .str)] = .ok d ∧ In d gT := by
  rintro n rfl e
  obtain ⟨d, h, hd⟩ := chk_ok ov1_ok e (ds := [.int c, v3, .lst false (xs.map .str)]) (.cons (.int trivial trivial) (.cons h3 (.cons h4 .nil)))
  exact ⟨d, h, inU_1.mp hd⟩
 rcases Nat.lt_or_ge xs.length 1 with h | h
 ·exact key 0 (by omega) t_g0
 ·rcases Nat.lt_or_ge xs.length 2 with h | h
  ·exact key 1 (by omega) t_g1
  ·rcases Nat.lt_or_ge xs.length 3 with h | h
   ·exact key 2 (by omega) t_g2
   ·exact key 3 (by omega) t_g3
theorem sE_at {τ : Ev} {i : Nat} {d : D} (h : slotD τ i = some d) : sE τ i = some (er d) := by unfold sE; rw [h]; rfl
theorem turn_ok {gs : List Gp} (hg : ∀ g ∈ gs, GOk' g) (k : Int) (h3 : 3 ≤ k) (h8 : k ≤ 8) {τ : Ev} (g : Gam τ E4) (s5 : sE τ 5 = some (.lst false (gs.map emG))) (s6 : sE τ 6 = some (.lst false (gs.map emG))) :
  ∃ τ', Ev.turn (callF T 12) (.nm 11) (q1 ++ q2) (.int k) τ = .ok (.nx τ') ∧ Gam τ' E4 ∧ sE τ' 5 = some (.lst false (gs.map emG)) ∧ sE τ' 6 = some (.lst false (gs.map emG)) := by
 have g1 : Gam (τ.set 11 (some (.int k))) E5 := g.set 11 (slOk_s (.int (lo := some 3) (hi := some 8) h3 h8))
 obtain ⟨τ2, e2, g2⟩ := seg ov1_ok t_q1 g1
 have f5 : sE τ2 5 = some (.lst false (gs.map emG)) := by
  have : sE τ2 5 = sE (τ.set 11 (some (.int k))) 5 := evSs_fr (i := 5) q1 (by decide) e2
  rw [this, sE_set (by decide), s5]
 have f6 : sE τ2 6 = some (.lst false (gs.map emG)) := by
  have : sE τ2 6 = sE (τ.set 11 (some (.int k))) 6 := evSs_fr (i := 6) q1 (by decide) e2
  rw [this, sE_set (by decide), s6]
 have g4 : Gam τ2 E4 := leE_ok (E := E6) (by decide +kernel) g2
 have g2' := g2
 unfold E6 at g2'
 simp only [g_c, g_o, g_n] at g2'
 obtain ⟨q0, _, rfl, hq0, o1, _, rfl, o2, _, rfl, q3, _, rfl, hq3, q4, _, rfl, hq4, v5, _, rfl, h5, v6, _, rfl, h6, q7, _, rfl, hq7, o8, _, rfl, o9, _, rfl, oa, _, rfl, ob, _, rfl, oc, _, rfl, v13, _, rfl, h13, v14, _, rfl, h14, rfl⟩ := g2'
 have r5 : er v5 = .lst false (gs.map emG) := Option.some.inj f5
 have r6 : er v6 = .lst false (gs.map emG) := Option.some.inj f6
 obtain ⟨cs, r13, hc, hcl⟩ := conds_of h13
 obtain ⟨ps, r14, hp, hps⟩ := marks_of h14
 have e3 := asked hg hp hps hc hcl
 refine ⟨_, ?_, g4, f5, f6⟩
 rw [Ev.turn_eq, Ev.t_nm, Ev.bnd_k, ss_app, e2, Ev.bnd_k, Ev.sq_nx]
 unfold q2
 simp -implicitDefEqProofs (disch := omega) only [ev0, Nat.reduceBEq, Nat.reduceSub, Nat.reduceAdd, reduceIte, r5, r6, r13, r14, e3]
theorem holds (ns : List Int) (h : ns.length ≤ 63) : callF T (12 + 1) lawN [.lst false (ns.map .int)] = .ok (.bl true) := by
 rw [Ev.go (show T lawN = some d39 from rfl) (show d39.np = 1 from rfl) (show d39.G.N.length = 15 from rfl) (show d39.body = p1 ++ (p2 ++ (p3 ++ [(.for_ (.nm 11) (.rng2 (.c (.int 3)) (.c (.int 9))) (q1 ++ q2)), (.ret (.cmp .eq (.v 6) (.v 5)))])) from rfl) rfl]
 have hs : In (.lst false (ns.map .int)) sT := .lst nofalse (Nat.zero_le _) (by rw [List.length_map]; exact h) (inA_iff.mpr fun d hd => by
  obtain ⟨i, _, rfl⟩ := List.mem_map.mp hd
  exact .hd (.int trivial trivial))
 have g1 : Gam [some (.lst false (ns.map .int)), none, none, none, none, none, none, none, none, none, none, none, none, none, none] E1 := .cons (slOk_s hs) (Gam.non 14)
 obtain ⟨τ2, e1, g2⟩ := seg ov_ok t_p1 g1
 unfold E2 at g2
 simp only [g_c, g_o, g_n] at g2
 obtain ⟨q0, _, rfl, hq0, o1, _, rfl, o2, _, rfl, q3, _, rfl, hq3, q4, _, rfl, hq4, o5, _, rfl, o6, _, rfl, o7, _, rfl, o8, _, rfl, o9, _, rfl, oa, _, rfl, ob, _, rfl, oc, _, rfl, od, _, rfl, oe, _, rfl, rfl⟩ := g2
 obtain ⟨os, ds0, rfl, _, _, hl0, hi0⟩ := i_l.mp hq0
 obtain ⟨ms, rfl⟩ := ints_of hi0
 obtain ⟨o3, x3, rfl, _, _, _, h3'⟩ := strs_of (a := 3) (b := 3) hq3
 obtain ⟨o4, x4, rfl, _, hl4, h4', h4''⟩ := strs_of hq4
 have ec := cellO (show T 25 = some d25 from rfl) rfl rfl rfl 11 false ms 2 (by decide)
 obtain ⟨d, e33, hd⟩ := make (ms.getD 2 0) h3' hl4 h4'
 have hdd := hd
 unfold gT at hdd
 obtain ⟨og, dg, rfl, _⟩ := i_l.mp hdd
 obtain ⟨gs, rg, hg⟩ := groups_of hd
 have hq0' : In (.lst false (ms.map .int)) sT := .lst nofalse (Nat.zero_le _) hl0 hi0
 have e2 : evSs (callF T 12) p2 [some (.lst os (ms.map .int)), o1, o2, some (.lst o3 (x3.map .str)), some (.lst o4 (x4.map .str)), o5, o6, o7, o8, o9, oa, ob, oc, od, oe] = .ok (.nx [some (.lst false (ms.map .int)), o1, o2, some (.lst false (x3.map .str)), some (.lst false (x4.map .str)), some (.lst og dg), some (.lst og dg), o7, o8, o9, oa, ob, oc, od, oe]) := by
  show evSs (callF T 12) [(.asg (.nm 5) (.call 34 [(.call 25 [(.v 0), (.c (.int 2))]), (.v 3), (.v 4)])), (.asg (.nm 6) (.call 34 [(.call 25 [(.v 0), (.c (.int 2))]), (.v 3), (.v 4)]))] _ = _
  rw [show (2 : Int).toNat = 2 from rfl] at ec
  simp -implicitDefEqProofs (disch := omega) only [ev0, Nat.reduceBEq, Nat.reduceSub, Nat.reduceAdd, reduceIte, ec, e33]
 have g3 : Gam [some (.lst false (ms.map .int)), o1, o2, some (.lst false (x3.map .str)), some (.lst false (x4.map .str)), some (.lst og dg), some (.lst og dg), o7, o8, o9, oa, ob, oc, od, oe] E3 :=
  .cons (slOk_s hq0') (.cons slOk_n (.cons slOk_n (.cons (slOk_s h3') (.cons (slOk_s h4'') (.cons (slOk_s hd) (.cons (slOk_s hd) (.cons slOk_n (.cons slOk_n (.cons slOk_n (.cons slOk_n (.cons slOk_n (.cons slOk_n (.cons slOk_n (.cons slOk_n .nil))))))))))))))
 obtain ⟨τ4, e3, g4⟩ := seg ov1_ok t_p3 g3
 have f5 : sE τ4 5 = some (.lst false (gs.map emG)) := (evSs_fr (i := 5) p3 (by decide) e3).trans (by rw [sE_at (d := .lst og dg) rfl, rg])
 have f6 : sE τ4 6 = some (.lst false (gs.map emG)) := (evSs_fr (i := 6) p3 (by decide) e3).trans (by rw [sE_at (d := .lst og dg) rfl, rg])
 obtain ⟨τ5, e5, g5, f5, f6⟩ := Ev.for_all (its := rngD 3 9) (τ := τ4) (body := Ev.turn (callF T 12) (.nm 11) (q1 ++ q2))
  (fun _ τ => Gam τ E4 ∧ sE τ 5 = some (.lst false (gs.map emG)) ∧ sE τ 6 = some (.lst false (gs.map emG))) ⟨g4, f5, f6⟩ (by
   rintro i x τ hx ⟨g, s5, s6⟩
   unfold rngD at hx
   obtain ⟨k, hk, rfl⟩ := List.mem_map.mp (List.mem_of_getElem? hx)
   have hk := List.mem_range.mp hk
   exact turn_ok hg _ (by omega) (by omega) g s5 s6)
 unfold E4 at g5
 simp only [g_c, g_o, g_n] at g5
 obtain ⟨q0, _, rfl, _, o1, _, rfl, o2, _, rfl, q3, _, rfl, _, q4, _, rfl, _, v5, _, rfl, h5, v6, _, rfl, h6, q7, _, rfl, _, o8, _, rfl, o9, _, rfl, oa, _, rfl, ob, _, rfl, oc, _, rfl, od, _, rfl, oe, _, rfl, rfl⟩ := g5
 have r5 : er v5 = .lst false (gs.map emG) := Option.some.inj f5
 have r6 : er v6 = .lst false (gs.map emG) := Option.some.inj f6
 have fin : eqN 40 v6 v5 = .ok true := eq_er v6 v5 40 (by rw [r5, r6]) (Nat.lt_of_le_of_lt (dp_in h6) (by decide))
 show bnd (evSs (callF T 12) (p1 ++ (p2 ++ (p3 ++ [(.for_ (.nm 11) (.rng2 (.c (.int 3)) (.c (.int 9))) (q1 ++ q2)), (.ret (.cmp .eq (.v 6) (.v 5)))]))) [some (.lst false (ns.map .int)), none, none, none, none, none, none, none, none, none, none, none, none, none, none]) Ev.retF = _
 rw [ss_app, e1, Ev.bnd_k, Ev.sq_nx, ss_app, e2, Ev.bnd_k, Ev.sq_nx, ss_app, e3, Ev.bnd_k, Ev.sq_nx]
 simp -implicitDefEqProofs (disch := omega) only [ev0, Nat.reduceBEq, Nat.reduceSub, Nat.reduceAdd, reduceIte, e5, fin]
end Law
open PySem PySem.W PyProof.Rows
set_option maxRecDepth 100000 in
set_option maxHeartbeats 0 in
theorem PySem.Challenge.cw_flagroll_k15_groups_holds : PySem.Challenge.rw_flagroll_k15_groups.Holds := by
 w_on; o_law; k_head; (case hw => w_witness2)
 k_fill
 refine L2.law_walk (l := PySem.Challenge.rw_flagroll_k15_groups) (T := Law.T) (n := 12) (f := Law.lawN) (x := Law.lawX) rfl rfl ⟨rfl, by decide, by decide⟩ (fun w h Y => PySem.W.kIn_of Y) ?F Law.holds
 case F =>
  intro w mg fa h KX G hmg
  refine' Law.all_mk KX G hmg ?a18 ?l18 ?e18 ?k18 ?a19 ?l19 ?e19 ?k19 ?a20 ?l20 ?e20 ?k20 ?a21 ?l21 ?e21 ?k21 ?a22 ?l22 ?e22 ?k22 ?a23 ?l23 ?e23 ?k23 ?a24 ?l24 ?e24 ?k24 ?a25 ?l25 ?e25 ?k25 ?a26 ?l26 ?e26 ?k26 ?a27 ?l27 ?e27 ?k27 ?a28 ?l28 ?e28 ?k28 ?a29 ?l29 ?e29 ?k29 ?a30 ?l30 ?e30 ?k30 ?a31 ?l31 ?e31 ?k31 ?a32 ?l32 ?e32 ?k32 ?a33 ?l33 ?e33 ?k33 ?a34 ?l34 ?e34 ?k34 ?a35 ?l35 ?e35 ?k35 ?a36 ?l36 ?e36 ?k36 ?a37 ?l37 ?e37 ?k37 ?a38 ?l38 ?e38 ?k38 ?a39 ?l39 ?e39 ?k39 ?z0 ?z1 ?z2 ?z3 ?z4 ?z5 ?z6 ?z7 ?z8 ?z9 ?z10 ?z11 ?z12 ?z13 ?z14 ?z15 ?z16 ?z17
  (case a18 => k_is)
  (case l18 => k_is)
  (case e18 => k_is)
  (case k18 => k_is)
  (case a19 => k_is)
  (case l19 => k_is)
  (case e19 => k_is)
  (case k19 => k_is)
  (case a20 => k_is)
  (case l20 => k_is)
  (case e20 => k_is)
  (case k20 => k_is)
  (case a21 => k_is)
  (case l21 => k_is)
  (case e21 => k_is)
  (case k21 => k_is)
  (case a22 => k_is)
  (case l22 => k_is)
  (case e22 => k_is)
  (case k22 => k_is)
  (case a23 => k_is)
  (case l23 => k_is)
  (case e23 => k_is)
  (case k23 => k_is)
  (case a24 => k_is)
  (case l24 => k_is)
  (case e24 => k_is)
  (case k24 => k_is)
  (case a25 => k_is)
  (case l25 => k_is)
  (case e25 => k_is)
  (case k25 => k_is)
  (case a26 => k_is)
  (case l26 => k_is)
  (case e26 => k_is)
  (case k26 => k_is)
  (case a27 => k_is)
  (case l27 => k_is)
  (case e27 => k_is)
  (case k27 => k_is)
  (case a28 => k_is)
  (case l28 => k_is)
  (case e28 => k_is)
  (case k28 => k_is)
  (case a29 => k_is)
  (case l29 => k_is)
  (case e29 => k_is)
  (case k29 => k_is)
  (case a30 => k_is)
  (case l30 => k_is)
  (case e30 => k_is)
  (case k30 => k_is)
  (case a31 => k_is)
  (case l31 => k_is)
  (case e31 => k_is)
  (case k31 => k_is)
  (case a32 => k_is)
  (case l32 => k_is)
  (case e32 => k_is)
  (case k32 => k_is)
  (case a33 => k_is)
  (case l33 => k_is)
  (case e33 => k_is)
  (case k33 => k_is)
  (case a34 => k_is)
  (case l34 => k_is)
  (case e34 => k_is)
  (case k34 => k_is)
  (case a35 => k_is)
  (case l35 => k_is)
  (case e35 => k_is)
  (case k35 => k_is)
  (case a36 => k_is)
  (case l36 => k_is)
  (case e36 => k_is)
  (case k36 => k_is)
  (case a37 => k_is)
  (case l37 => k_is)
  (case e37 => k_is)
  (case k37 => k_is)
  (case a38 => k_is)
  (case l38 => k_is)
  (case e38 => k_is)
  (case k38 => k_is)
  (case a39 => k_is)
  (case l39 => k_is)
  (case e39 => k_is)
  (case k39 => k_is)
  (case z0 => k_is)
  (case z1 => k_is)
  (case z2 => k_is)
  (case z3 => k_is)
  (case z4 => k_is)
  (case z5 => k_is)
  (case z6 => k_is)
  (case z7 => k_is)
  (case z8 => k_is)
  (case z9 => k_is)
  (case z10 => k_is)
  (case z11 => k_is)
  (case z12 => k_is)
  (case z13 => k_is)
  (case z14 => k_is)
  (case z15 => k_is)
  (case z16 => k_is)
  (case z17 => k_is)
#print axioms PySem.Challenge.cw_flagroll_k15_groups_holds
