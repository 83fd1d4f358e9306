import PyProof.Rows.All
import Wide.All
import OpenK.AllK
import Wide.FinOn
import Lean
import PyProof.EqAt
import PyProof.EqKinds
import PyProof.TupleCall
import PyProof.NeKinds
import KE.KRevIter
import KE.KSortTup
import Wide.Txt2
import PyProof.Rows.SetFrom
import KE.KIsAll
import PyProof.ExcArgsOwn
import PyProof.ExcAttrAll.ValueError
import OpenK.KDescr
import OpenK.KOwn
import KE.KTryMore
import PyProof.StationsW
import OpenK.KRaise
import PyProof.RulesDel
import PyProof.RulesAs
import PyProof.Rows.Catch
import PyProof.NsCount
import PySem.Challenge.RW_flagroll_k07_allotments_begun
set_option maxHeartbeats 8000000
set_option Elab.async false
set_option linter.all false
set_option maxRecDepth 100000
namespace L2
open PySem PySem.Spec PyProof.Rows
noncomputable abbrev Key := Sum Int Str
noncomputable def keyIs : Key → Value → Bool
  | .inl k, v => Value.isInt k v
  | .inr x, v => Value.isStrOf x v
noncomputable def keyH (w : World) : Key → Int
  | .inl k => hashInt k
  | .inr x => hashStr w x
theorem keyIs_shape : ∀ {k : Key} {v : Value}, keyIs k v = true → (∃ i t, k = Sum.inl i ∧ v = Value.int i t) ∨ (∃ x t, k = Sum.inr x ∧ v = Value.str x t)
  | .inl i, v, h => by
    obtain ⟨t, e⟩ := Value.isInt_shape (k := i) (v := v) h
    exact .inl ⟨i, t, rfl, e⟩
  | .inr x, v, h => by
    obtain ⟨t, e⟩ := Value.isStrOf_shape (x := x) (v := v) h
    exact .inr ⟨x, t, rfl, e⟩
theorem key_ll (a b : Int) : decide ((Sum.inl a : Key) = Sum.inl b) = (a == b) := by
  by_cases e : a = b
  · subst e; simp
  · have h : ¬ (Sum.inl a : Key) = Sum.inl b := fun q => e (Sum.inl.inj q)
    rw [decide_eq_false h]
    exact (beq_eq_false_iff_ne.mpr e).symm
theorem key_rr (a b : Str) : decide ((Sum.inr a : Key) = Sum.inr b) = decide (a = b) := by
  by_cases e : a = b
  · subst e; simp
  · have h : ¬ (Sum.inr a : Key) = Sum.inr b := fun q => e (Sum.inr.inj q)
    rw [decide_eq_false h, decide_eq_false e]
theorem key_lr (a : Int) (b : Str) : decide ((Sum.inl a : Key) = Sum.inr b) = false := decide_eq_false (fun q => nomatch q)
theorem key_rl (a : Str) (b : Int) : decide ((Sum.inr a : Key) = Sum.inl b) = false := decide_eq_false (fun q => nomatch q)
noncomputable def mixKind (prog : Program) (w : World) : PySem.KeyKind prog w Key where
  is := keyIs
  hash := keyH w
  inj := fun v a b ha hb => by
    rcases keyIs_shape ha with ⟨i, t, rfl, rfl⟩ | ⟨x, t, rfl, rfl⟩
    · rcases keyIs_shape hb with ⟨j, u, rfl, e⟩ | ⟨y, u, rfl, e⟩
      · injection e with e1 _; rw [e1]
      · exact nomatch e
    · rcases keyIs_shape hb with ⟨j, u, rfl, e⟩ | ⟨y, u, rfl, e⟩
      · exact nomatch e
      · injection e with e1 _; rw [e1]
  byValue := fun k v h => by
    rcases keyIs_shape h with ⟨i, t, rfl, rfl⟩ | ⟨x, t, rfl, rfl⟩ <;> rfl
  pyHash := fun hv h => by
    rcases keyIs_shape hv with ⟨i, t, rfl, rfl⟩ | ⟨x, t, rfl, rfl⟩
    · exact wpAny_pyHash_int h
    · exact wpAny_pyHash_str h
  eqBool := fun hu hv h => by
    rcases keyIs_shape hu with ⟨i, t, rfl, rfl⟩ | ⟨x, t, rfl, rfl⟩
    · rcases keyIs_shape hv with ⟨j, u, rfl, rfl⟩ | ⟨y, u, rfl, rfl⟩
      · rw [key_ll] at h; exact wpAny_eqBool_int h
      · rw [key_lr] at h; exact SeqAt.EqAt.int_str i t y u _ _ _ _ h
    · rcases keyIs_shape hv with ⟨j, u, rfl, rfl⟩ | ⟨y, u, rfl, rfl⟩
      · rw [key_rl] at h; exact SeqAt.EqAt.str_int x t j u _ _ _ _ h
      · rw [key_rr] at h; exact wpAny_eqBool_str h
  «strs» := fun k x t v h => by
    rcases keyIs_shape h with ⟨i, u, rfl, e⟩ | ⟨y, u, rfl, e⟩
    · exact nomatch e
    · injection e with e1 _
      subst e1
      cases v <;> rfl
end L2
namespace L2
open PySem PySem.Spec PyProof.Rows
inductive V where
  | non | bl (b : Bool) | int (i : Int) | str (x : Str) | byt (b : Array UInt8) | flt (b : UInt64) | ref (a : Addr) | ty (n : String)
  deriving DecidableEq
noncomputable def RelV : V → Value → Prop
  | .non, u => u = Value.none
  | .bl b, u => u = Value.bool b
  | .int i, u => ∃ t, u = Value.int i t
  | .str x, u => ∃ t, u = Value.str x t
  | .byt b, u => ∃ t, u = Value.bytes b t
  | .flt b, u => ∃ t, u = Value.float b t
  | .ref a, u => u = Value.ref a
  | .ty n, u => u = Value.type n
noncomputable abbrev Vals : List V → List Value → Prop := Paired RelV
theorem Vals.length {xs : List V} {us : List Value} (r : Vals xs us) : xs.length = us.length := Paired.length r
theorem Vals.get : ∀ {xs : List V} {us : List Value} {i : Nat} {x : V}, Vals xs us → xs[i]? = some x → ∃ u, us[i]? = some u ∧ RelV x u
  | _, _, _, _, .nil, e => by simp at e
  | _, _, 0, _, .cons r _, e => by simp at e; subst e; exact ⟨_, rfl, r⟩
  | _, _, i + 1, x, .cons _ t, e => by
    obtain ⟨u, h1, h2⟩ := Vals.get (i := i) (x := x) t (by simpa using e)
    exact ⟨u, by simpa using h1, h2⟩
theorem Vals.set {x : V} {u : Value} (r : RelV x u) : ∀ {xs : List V} {us : List Value} (i : Nat), Vals xs us → Vals (xs.set i x) (us.set i u)
  | _, _, _, .nil => .nil
  | _, _, 0, .cons _ t => .cons r t
  | _, _, i + 1, .cons q t => .cons q (Vals.set r i t)
theorem Vals.append : ∀ {xs ys : List V} {us ws : List Value}, Vals xs us → Vals ys ws → Vals (xs ++ ys) (us ++ ws)
  | _, _, _, _, .nil, s => s
  | _, _, _, _, .cons r t, s => .cons r (Vals.append t s)
theorem Vals.take : ∀ {xs : List V} {us : List Value} (n : Nat), Vals xs us → Vals (xs.take n) (us.take n)
  | _, _, 0, _ => .nil
  | _, _, _ + 1, .nil => .nil
  | _, _, n + 1, .cons r t => .cons r (Vals.take n t)
theorem Vals.drop : ∀ {xs : List V} {us : List Value} (n : Nat), Vals xs us → Vals (xs.drop n) (us.drop n)
  | _, _, 0, r => r
  | _, _, _ + 1, .nil => .nil
  | _, _, n + 1, .cons _ t => Vals.drop n t
noncomputable def RelO : Option V → Option Value → Prop
  | some v, some u => RelV v u
  | none, none => True
  | _, _ => False
noncomputable def KV {κ : Type} : List (κ × V) → List (κ × Value) → Prop := Paired fun (p : κ × V) (q : κ × Value) => p.1 = q.1 ∧ RelV p.2 q.2
noncomputable def kV : Key → V
  | .inl i => .int i
  | .inr x => .str x
inductive HO where
  | lst (xs : List V)
  | tup (xs : List V)
  | dK (kvs : List (Key × V)) | dT (kvs : List (List Key × V))
  | set (S : Int → Bool) (n : Nat)
  | ins (C dx : Addr) (fs : List (Str × V))
  | own (x : Addr)
  | xd (fs : List (Str × V))
  | met (f x : Addr)
  | rng (lo hi : Int)
  | frz (o : Obj) (u : HO)
  | tbl (ps : Array Value)
  | ext (φ : Heap → Prop)
noncomputable abbrev Hp := Addr → Option HO
noncomputable def upd (H : Hp) (a : Addr) (o : HO) : Hp := fun b => if b = a then some o else H b
theorem upd_same {H : Hp} {a : Addr} {o : HO} : upd H a o a = some o := by unfold upd; rw [if_pos rfl]
theorem upd_ne {H : Hp} {a b : Addr} {o : HO} (h : b ≠ a) : upd H a o b = H b := by unfold upd; rw [if_neg h]
theorem ne_of_none {H : Hp} {a b : Addr} {o : HO} (h : H a = some o) (h' : H b = none) : a ≠ b := by
  intro e; subst e; rw [h] at h'; cases h'
section
variable (P : Program) (w : World)
noncomputable def ObjOk (H : Hp) (h : Heap) (a : Addr) : HO → Prop
  | .lst xs => xs.length ≤ sizeLine ∧ ∃ (its : List Value) (n : Nat), Vals xs its ∧ h.get? a = some { cls := .type "list", data := .seq its.toArray n }
  | .tup xs => xs.length ≤ sizeLine ∧ ∃ its : List Value, Vals xs its ∧ IsTup h a its.toArray
  | .dK kvs => kvs.length ≤ sizeLine ∧ (a == sysModules) = false ∧ ∃ vs, KV kvs vs ∧ h.DictOf (mixKind P w) a vs
  | .dT kvs => kvs.length ≤ sizeLine ∧ (a == sysModules) = false ∧ ∃ xs : List (List Key × Addr × Value),
      Paired (fun (p : List Key × V) (q : List Key × Addr × Value) => p.1 = q.1 ∧ H q.2.1 = some (.tup (p.1.map kV)) ∧ RelV p.2 q.2.2) kvs xs ∧
      ∃ o es ep, h.get? a = some o ∧ o.ExactDict ∧ o.data = .dict es ep ∧ es.toList = xs.map (entryOfKey (tupleKind (mixKind P w))) ∧ (xs.map (·.1)).Nodup
  | .set S n => h.SetOf (intKind P w) a S n
  | .ins C dx fs => H dx = some (.own a) ∧ fs.length ≤ 1000 ∧ dx ≠ a ∧ h.get? a = some (PySem.W.instObj C dx) ∧
      ∃ mA, h.Ns1 dx mA ∧ (∀ f, RelO (fs.lookup f) (mA f)) ∧ PySem.Within mA (fs.map (·.1))
  | .own _ => ∃ o, h.get? a = some o
  | .xd fs => ∃ mA, h.Ns1 a mA ∧ ∀ f, RelO (fs.lookup f) (mA f)
  | .rng lo hi => ∃ t u v, h.get? a = some { cls := .type "range", data := .fields #[.int lo t, .int hi u, .int 1 v] }
  | .frz o u => h.get? a = some o ∧ ObjOk H h a u
  | .tbl ps => h.get? a = some { cls := .none, data := .fields ps }
  | .met f x => h.get? a = some (PySem.W.methodObj (.ref f) (.ref x))
  | .ext φ => φ h ∧ (∃ o, h.get? a = some o) ∧ ∀ h1 h2 : Heap, φ h1 → (∀ o, h1.get? a = some o → h2.get? a = some o) → φ h2
noncomputable def HOk (H : Hp) (h : Heap) : Prop := ∀ a o, H a = some o → ObjOk P w H h a o
end
section
variable {P : Program} {w : World} {H H' : Hp} {h h' : Heap} {a : Addr} {o : HO}
theorem ObjOk.lt (x : ObjOk P w H h a o) : a < h.objs.size := by
  cases o with
  | lst xs => obtain ⟨_, _, _, _, e⟩ := x; exact Heap.lt_size e
  | tup xs => obtain ⟨_, _, _, p⟩ := x; exact p.lt
  | dK kvs => obtain ⟨_, _, _, _, o, _, _, e, _⟩ := x; exact Heap.lt_size e
  | dT kvs => obtain ⟨_, _, _, _, o, _, _, e, _⟩ := x; exact Heap.lt_size e
  | set S n => obtain ⟨o, _, _, _, e, _⟩ := x; exact Heap.lt_size e
  | ins C dx fs => obtain ⟨_, _, _, e, _⟩ := x; exact Heap.lt_size e
  | own y => obtain ⟨_, e⟩ := x; exact Heap.lt_size e
  | xd fs => obtain ⟨_, ⟨_, _, _, e, _⟩, _⟩ := x; exact Heap.lt_size e
  | rng lo hi => obtain ⟨_, _, _, e⟩ := x; exact Heap.lt_size e
  | frz ob u => obtain ⟨e, _⟩ := x; exact Heap.lt_size e
  | tbl ps => exact Heap.lt_size (show h.get? a = some _ from x)
  | met f y => exact Heap.lt_size (show h.get? a = some _ from x)
  | ext φ => obtain ⟨_, ⟨_, e⟩, _⟩ := x; exact Heap.lt_size e
theorem Paired.mapP {α β : Type} {F G : α → β → Prop} : ∀ {l₁ : List α} {l₂ : List β}, Paired F l₁ l₂ → (∀ a b, F a b → G a b) → Paired G l₁ l₂
  | _, _, .nil, _ => .nil
  | _, _, .cons r t, f => .cons (f _ _ r) (Paired.mapP t f)
theorem ObjOk.stay (x : ObjOk P w H h a o) (k : ∀ b u, (b = a ∨ H b = some (.own a)) → h.get? b = some u → h'.get? b = some u)
    (ho : ∀ b, H b = some (.own a) → H' b = some (.own a)) (ht : ∀ b xs, H b = some (.tup xs) → H' b = some (.tup xs)) : ObjOk P w H' h' a o := by
  induction o with
  | lst xs => obtain ⟨z, its, n, r, e⟩ := x; exact ⟨z, its, n, r, k _ _ (.inl rfl) e⟩
  | tup xs => obtain ⟨z, its, r, ob, e, c⟩ := x; exact ⟨z, its, r, ob, k _ _ (.inl rfl) e, c⟩
  | dK kvs => obtain ⟨z, y, vs, r, ob, es, ep, e, c⟩ := x; exact ⟨z, y, vs, r, ob, es, ep, k _ _ (.inl rfl) e, c⟩
  | dT kvs =>
    obtain ⟨z, y, xs, r, ob, es, ep, e, c⟩ := x
    exact ⟨z, y, xs, Paired.mapP r fun p q z => ⟨z.1, ht _ _ z.2.1, z.2.2⟩, ob, es, ep, k _ _ (.inl rfl) e, c⟩
  | set S n => obtain ⟨ob, es, ep, t, e, c⟩ := x; exact ⟨ob, es, ep, t, k _ _ (.inl rfl) e, c⟩
  | ins C dx fs =>
    obtain ⟨d, z, ne, e, mA, ⟨od, es, ep, e2, c⟩, r⟩ := x
    exact ⟨ho _ d, z, ne, k _ _ (.inl rfl) e, mA, ⟨od, es, ep, k _ _ (.inr d) e2, c⟩, r⟩
  | own y => obtain ⟨ob, e⟩ := x; exact ⟨ob, k _ _ (.inl rfl) e⟩
  | xd fs => obtain ⟨mA, ⟨od, es, ep, e, c⟩, r⟩ := x; exact ⟨mA, ⟨od, es, ep, k _ _ (.inl rfl) e, c⟩, r⟩
  | rng lo hi => obtain ⟨t, u, v, e⟩ := x; exact ⟨t, u, v, k _ _ (.inl rfl) e⟩
  | frz ob u ih => obtain ⟨e, q⟩ := x; exact ⟨k _ _ (.inl rfl) e, ih q⟩
  | tbl ps =>
    have e : h.get? a = some { cls := .none, data := .fields ps } := x
    show h'.get? a = some { cls := .none, data := .fields ps }
    exact k a _ (.inl rfl) e
  | met f y =>
    have e : h.get? a = some (PySem.W.methodObj (.ref f) (.ref y)) := x
    show h'.get? a = some (PySem.W.methodObj (.ref f) (.ref y))
    exact k a _ (.inl rfl) e
  | ext φ => obtain ⟨p, ⟨o, e⟩, st⟩ := x; exact ⟨st _ _ p fun o q => k _ _ (.inl rfl) q, ⟨o, k _ _ (.inl rfl) e⟩, st⟩
theorem HOk.lt (x : HOk P w H h) (e : H a = some o) : a < h.objs.size := (x a o e).lt
theorem HOk.fresh (x : HOk P w H h) (e : h.objs.size ≤ a) : H a = none := by
  cases q : H a with
  | none => rfl
  | some u => exact absurd (Nat.lt_of_lt_of_le (x.lt q) e) (Nat.lt_irrefl _)
theorem HOk.kept (x : HOk P w H h) (k : ∀ b u, h.get? b = some u → h'.get? b = some u) : HOk P w H h' := fun a o e =>
  (x a o e).stay (fun b u _ q => k b u q) (fun _ q => q) fun _ _ q => q
theorem HOk.laid (x : HOk P w H h) (k : ∀ b u, h.get? b = some u → h'.get? b = some u) (hp : h.objs.size ≤ a) (new : ObjOk P w (upd H a o) h' a o) : HOk P w (upd H a o) h' := fun b u e => by
  have hn := x.fresh hp
  by_cases hb : b = a
  · subst hb; rw [upd_same] at e; cases e; exact new
  · rw [upd_ne hb] at e
    exact (x b u e).stay (fun c v _ q => k c v q) (fun c q => by rw [upd_ne (ne_of_none q hn)]; exact q) fun c xs q => by rw [upd_ne (ne_of_none q hn)]; exact q
end
noncomputable def Rd (H : Hp) (a : Addr) (u : HO) : Prop := H a = some u ∨ ∃ o, H a = some (.frz o u)
theorem Rd.of {H : Hp} {a : Addr} {u : HO} (h : H a = some u) : Rd H a u := .inl h
theorem Rd.ok {P : Program} {w : World} {H : Hp} {h : Heap} {a : Addr} {u : HO} (r : Rd H a u) (x : HOk P w H h) : ObjOk P w H h a u := by
  rcases r with r | ⟨o, r⟩
  · exact x a u r
  · obtain ⟨_, q⟩ := x a _ r
    exact q
noncomputable def Mut : Option HO → Prop
  | some (.lst _) => True
  | some (.dK _) => True
  | some (.dT _) => True
  | some (.set _ _) => True
  | some (.ins _ _ _) => True
  | some (.ext _) => True
  | _ => False
section
variable {P : Program} {w : World} {H : Hp} {h h' : Heap} {x e : Addr} {o' : HO}
theorem HOk.write (ok : HOk P w H h) (mu : Mut (H x)) (he : e = x ∨ H e = some (.own x)) (k : ∀ b u, b ≠ e → h.get? b = some u → h'.get? b = some u) (heo : ∃ u, h'.get? e = some u)
    (new : ObjOk P w (upd H x o') h' x o') : HOk P w (upd H x o') h' := fun b u q => by
  have nown : ∀ c y, H c = some (.own y) → c ≠ x := fun c y r z => by subst z; rw [r] at mu; exact mu
  have ntup : ∀ c xs, H c = some (.tup xs) → c ≠ x := fun c xs r z => by subst z; rw [r] at mu; exact mu
  by_cases hb : b = x
  · subst hb; rw [upd_same] at q; cases q; exact new
  · rw [upd_ne hb] at q
    by_cases hbe : b = e
    · have q' : H b = some (.own x) := by
        rcases he with z | z
        · exact absurd (hbe.trans z) hb
        · rw [hbe]; exact z
      rw [q] at q'; cases q'
      obtain ⟨v, hv⟩ := heo
      exact ⟨v, by rw [hbe]; exact hv⟩
    · refine (ok b u q).stay (fun c v hc r => k c v ?_ r) (fun c r => by rw [upd_ne (nown c b r)]; exact r) fun c xs r => by rw [upd_ne (ntup c xs r)]; exact r
      rcases hc with rfl | hc
      · exact hbe
      · rintro rfl
        rcases he with z | z
        · exact nown c b hc z
        · rw [hc] at z; cases z; exact hb rfl
end
structure Un (fs ex : List Addr) (H H' : Hp) (h h' : Heap) : Prop where
  keep : ∀ b o, h.get? b = some o → H b = none → b ∉ fs → b ∉ ex → h'.get? b = some o
  slot : ∀ b o, h.get? b = some o → H b = none → b ∈ fs → b ∉ ex → ∃ sl, h'.get? b = some { o with slots := sl }
  free : ∀ b o, h.get? b = some o → H b = none → b ∉ ex → H' b = none
  there : ∀ b o, h.get? b = some o → b ∉ ex → ∃ o', h'.get? b = some o'
  tups : ∀ b xs, H b = some (.tup xs) → H' b = some (.tup xs)
  frzs : ∀ b o u, H b = some (.frz o u) → H' b = some (.frz o u)
  tbls : ∀ b ps, H b = some (.tbl ps) → ∃ more, H' b = some (.tbl (ps ++ more))
section
variable {fs fs' ex ex' : List Addr} {H H1 H2 : Hp} {h h1 h2 h' : Heap} {a x e : Addr} {o : HO}
theorem Un.any (u : Un fs ex H H1 h h1) {b : Addr} {ob : Obj} (q : h.get? b = some ob) (n : H b = none) (hx : b ∉ ex) : ∃ sl, h1.get? b = some { ob with slots := sl } := by
  by_cases hb : b ∈ fs
  · exact u.slot b ob q n hb hx
  · exact ⟨ob.slots, u.keep b ob q n hb hx⟩
theorem Un.trans (a : Un fs ex H H1 h h1) (b : Un fs ex H1 H2 h1 h2) : Un fs ex H H2 h h2 where
  keep := fun c ob q n hc hx => b.keep c ob (a.keep c ob q n hc hx) (a.free c ob q n hx) hc hx
  slot := fun c ob q n hc hx => by
    obtain ⟨sl, e1⟩ := a.slot c ob q n hc hx
    obtain ⟨sl', e2⟩ := b.slot c _ e1 (a.free c ob q n hx) hc hx
    exact ⟨sl', e2⟩
  free := fun c ob q n hx => by
    obtain ⟨o', e1⟩ := a.there c ob q hx
    exact b.free c o' e1 (a.free c ob q n hx) hx
  there := fun c ob q hx => by
    obtain ⟨o', e1⟩ := a.there c ob q hx
    exact b.there c o' e1 hx
  tups := fun c xs q => b.tups c xs (a.tups c xs q)
  frzs := fun c ob xs q => b.frzs c ob xs (a.frzs c ob xs q)
  tbls := fun c ps q => by
    obtain ⟨m1, e1⟩ := a.tbls c ps q
    obtain ⟨m2, e2⟩ := b.tbls c _ e1
    exact ⟨m1 ++ m2, by rw [e2, Array.append_assoc]⟩
theorem Un.kept (k : ∀ b u, h.get? b = some u → h'.get? b = some u) : Un fs ex H H h h' :=
  ⟨fun b ob q _ _ _ => k b ob q, fun b ob q _ _ _ => ⟨ob.slots, k b ob q⟩, fun _ _ _ n _ => n, fun b ob q _ => ⟨ob, k b ob q⟩, fun _ _ q => q, fun _ _ _ q => q, fun _ ps q => ⟨#[], by rw [q]; simp⟩⟩
theorem Un.refl : Un fs ex H H h h := Un.kept fun _ _ q => q
theorem Un.laid (k : ∀ b u, h.get? b = some u → h'.get? b = some u) (hp : h.objs.size ≤ a) (hn : H a = none) : Un fs ex H (upd H a o) h h' where
  keep := fun b u q _ _ _ => k b u q
  slot := fun b u q _ _ _ => ⟨u.slots, k b u q⟩
  free := fun b u q n _ => by rw [upd_ne (Nat.ne_of_lt (Nat.lt_of_lt_of_le (Heap.lt_size q) hp))]; exact n
  there := fun b u q _ => ⟨u, k b u q⟩
  tups := fun b xs q => by rw [upd_ne (ne_of_none q hn)]; exact q
  frzs := fun b u xs q => by rw [upd_ne (ne_of_none q hn)]; exact q
  tbls := fun b ps q => ⟨#[], by rw [upd_ne (ne_of_none q hn), q]; simp⟩
theorem Un.write (mu : Mut (H x)) (he : e = x ∨ H e = some (.own x)) (k : ∀ b u, b ≠ e → h.get? b = some u → h'.get? b = some u) (heo : ∃ u, h'.get? e = some u) : Un fs ex H (upd H x o) h h' := by
  have hx : ∀ b, H b = none → b ≠ x := fun b n z => by subst z; rw [n] at mu; exact mu
  have hb : ∀ b, H b = none → b ≠ e := fun b n z => by
    subst z
    rcases he with r | r
    · exact hx b n r
    · rw [n] at r; cases r
  have hm : ∀ b u, H b = some u → ¬ Mut (some u) → b ≠ x := fun b u q nm z => by subst z; rw [q] at mu; exact nm mu
  refine ⟨fun b u q n _ _ => k b u (hb b n) q, fun b u q n _ _ => ⟨u.slots, k b u (hb b n) q⟩, fun b u q n _ => by rw [upd_ne (hx b n)]; exact n, fun b u q _ => ?_,
    fun b xs q => by rw [upd_ne (hm b _ q fun z => z)]; exact q, fun b u xs q => by rw [upd_ne (hm b _ q fun z => z)]; exact q, fun b ps q => ⟨#[], by rw [upd_ne (hm b _ q fun z => z), q]; simp⟩⟩
  by_cases hbe : b = e
  · subst hbe; exact heo
  · exact ⟨u, k b u hbe q⟩
theorem Un.mono (u : Un fs ex H H1 h h1) (hs : ∀ b ∈ fs, b ∈ fs') (hx : ∀ b ∈ ex, b ∈ ex') : Un fs' ex' H H1 h h1 :=
  ⟨fun b ob q n hb he => u.keep b ob q n (fun z => hb (hs b z)) fun z => he (hx b z), fun _ _ q n _ he => u.any q n fun z => he (hx _ z), fun b ob q n he => u.free b ob q n fun z => he (hx b z), fun b ob q he => u.there b ob q fun z => he (hx b z), u.tups, u.frzs, u.tbls⟩
end
noncomputable def trk (h : Heap) (H : Hp) : List Addr := (List.range h.objs.size).filter fun a => (H a).isSome
noncomputable def hidT (h : Heap) (H : Hp) : Heap := PySem.W.hideAll h (trk h H)
theorem hidT_size (h : Heap) (H : Hp) : (hidT h H).objs.size = h.objs.size := PySem.W.hideAll_size _ _
theorem hidT_get {h : Heap} {H : Hp} {b : Addr} {o : Obj} (e : h.get? b = some o) (n : H b = none) : (hidT h H).get? b = some o :=
  PySem.W.hideAll_get _ e fun hm => by
    have q : (H b).isSome = true := (List.mem_filter.mp hm).2
    rw [n] at q; simp at q
theorem of_hidT {h : Heap} {H : Hp} {b : Addr} {o : Obj} (e : (hidT h H).get? b = some o) : h.get? b = some o ∧ H b = none := by
  have e' : h.get? b = some o := PySem.W.of_hideAll (trk h H) e
  refine ⟨e', ?_⟩
  cases q : H b with
  | none => rfl
  | some x =>
    have hm : b ∈ trk h H := List.mem_filter.mpr ⟨List.mem_range.mpr (Heap.lt_size e'), by simp [q]⟩
    have z : (hidT h H).get? b = none := PySem.W.hideAll_none (trk h H) hm
    rw [z] at e; cases e
noncomputable def allNews (g h : Heap) (L : Addr) : List (Addr × Obj) := (List.range h.objs.size).filterMap fun a => if a = L ∨ (g.get? a).isSome = true then none else (h.get? a).map fun o => (a, o)
noncomputable def rest (g h : Heap) (L d : Addr) : List (Addr × Obj) := (allNews g h L).filter fun p => decide (p.1 ≠ d)
end L2
namespace L2
open PySem PySem.Spec PyProof.Rows
structure Mod (K : PySem.W.Frag) (mg : Str → Option Value) (base : Heap) : Prop where
  kin : K.In base
  glob : base.Ns mainGlobals mg
  blt : ∃ mb, base.Ns builtinsNs mb ∧ ∀ x : Str, x ≠ "__name__" → mb x = bootBuiltins x
  nolimit : base.NoLimit
structure Cx where
  prog : Program
  w : World
  K : PySem.W.Frag
  mg : Str → Option Value
  base : Heap
  A : Around
  N : List Str
  s₀ : Shared
  H₀ : Hp
  env : Env
  outer : List Env
  stack : List Env
  ex : List Addr
  fn : Str → Bool
  calm : Bool
  pn : List (Addr × Obj)
  xe : Value → Shared → Prop
noncomputable def frs (l : List Env) : List Addr := l.filterMap (·.frame)
noncomputable abbrev Cx.fs (X : Cx) : List Addr := frs X.outer
noncomputable def Vis (sc : Scope) (x : Str) : Prop := sc.names.lookup x = some .local ∨ sc.names.lookup x = some .cell ∨ sc.names.lookup x = some .free
noncomputable def Loc (sc : Scope) (x : Str) : Prop := sc.names.lookup x = some .local ∨ sc.names.lookup x = some .cell
noncomputable def Look (env : Env) (h : Heap) (m : Str → Option Value) (x : Str) (u : Value) : Prop :=
  (env.kindOf x = some .local ∧ m x = some u) ∨ ((env.kindOf x = some .cell ∨ env.kindOf x = some .free) ∧ ∃ c, env.cells.lookup x = some c ∧ h.IsCell c (some u))
structure Cx.Ok (X : Cx) : Prop where
  mod : Mod X.K X.mg X.base
  kind : X.env.scope.kind = .function
  glob : X.env.globals = mainGlobals
  blt : X.env.builtins = builtinsNs
  above : X.s₀.heap.objs.size ≤ X.env.locals
  inj : ∀ x y c, X.env.cells.lookup x = some c → X.env.cells.lookup y = some c → x = y
  has : ∀ x, (X.env.kindOf x = some .cell ∨ X.env.kindOf x = some .free) → ∃ c, X.env.cells.lookup x = some c
  cab : ∀ x c, X.fn x = true → X.env.cells.lookup x = some c → X.s₀.heap.objs.size ≤ c
  hd : X.calm = true → X.A.handled = none
  frames : X.A.frames = some X.stack
  stk : X.stack = X.outer ∨ (X.stack = X.env :: X.outer ∧ X.env.frame = some X.env.locals)
  exf : ∀ b ∈ X.ex, b ≠ X.env.locals ∧ ∀ x c, X.env.cells.lookup x = some c → c ≠ b
  bs : ∀ b o, X.base.get? b = some o → X.s₀.heap.get? b = some o ∧ X.H₀ b = none
  bsz : X.base.objs.size ≤ X.s₀.heap.objs.size
  noex : ∀ b o, X.base.get? b = some o → b ∉ X.ex
  exfs : ∀ b ∈ X.ex, b ∉ X.fs
  funs : X.s₀.heap.FunFrames X.base X.outer
  frf : ∀ b ∈ X.fs, X.H₀ b = none
structure Inv (X : Cx) (pins : List (Addr × Obj)) (σ : List (Option V)) (H : Hp) (s : Shared) : Prop where
  ok : X.Ok
  os : s.os = X.s₀.os
  bare : AllBare s.gens
  base : Un X.fs X.ex X.H₀ H X.s₀.heap s.heap
  loc : ∃ m, s.heap.Ns X.env.locals m ∧ ∀ (i : Nat) (x : Str) (v : V), X.N[i]? = some x → σ[i]? = some (some v) → Vis X.env.scope x → ∃ u, RelV v u ∧ Look X.env s.heap m x u
  cell : ∀ x c, X.env.cells.lookup x = some c → ∃ v, s.heap.IsCell c v
  free : H X.env.locals = none
  freeC : ∀ x c, X.env.cells.lookup x = some c → H c = none
  pin : ∀ p ∈ X.pn ++ pins, s.heap.get? p.1 = some p.2 ∧ H p.1 = none ∧ p.1 ≠ X.env.locals ∧ p.1 ∉ X.fs ∧ ∀ v, p.2.data ≠ .cell v
  hok : HOk X.prog X.w H s.heap
  len : σ.length = X.N.length
section
variable {X : Cx} {pins : List (Addr × Obj)} {σ : List (Option V)} {H H' : Hp} {s : Shared} {h' : Heap}
theorem Cx.Ok.nofr (ok : X.Ok) {b : Addr} {o : Obj} (e : X.base.get? b = some o) : b ∉ X.fs := fun hb => by
  have := (ok.funs.mem hb).1
  rw [e] at this; cases this
theorem Inv.bs (I : Inv X pins σ H s) : ∀ b o, X.base.get? b = some o → s.heap.get? b = some o ∧ H b = none := fun b o e =>
  ⟨I.base.keep b o (I.ok.bs b o e).1 (I.ok.bs b o e).2 (I.ok.nofr e) (I.ok.noex b o e), I.base.free b o (I.ok.bs b o e).1 (I.ok.bs b o e).2 (I.ok.noex b o e)⟩
theorem Inv.bk (I : Inv X pins σ H s) : ∀ b o, X.base.get? b = some o → s.heap.get? b = some o := fun b o e => (I.bs b o e).1
theorem Inv.mod (I : Inv X pins σ H s) : Mod X.K X.mg X.base := I.ok.mod
theorem Inv.kIn (I : Inv X pins σ H s) : X.K.In s.heap := I.ok.mod.kin.keeps I.bk
theorem Inv.nolimit (I : Inv X pins σ H s) : s.heap.NoLimit := I.ok.mod.nolimit.keeps I.bk
theorem Inv.fr (I : Inv X pins σ H s) : ∃ m, Fr X.base X.env.locals s.heap m :=
  let ⟨m, hn, _⟩ := I.loc
  ⟨m, hn, I.bk, Nat.le_trans I.ok.bsz I.ok.above⟩
theorem Inv.lt (I : Inv X pins σ H s) : X.env.locals < s.heap.objs.size := let ⟨_, hn, _⟩ := I.loc; hn.lt
theorem Inv.sz (I : Inv X pins σ H s) : X.s₀.heap.objs.size ≤ s.heap.objs.size := Nat.le_trans I.ok.above (Nat.le_of_lt I.lt)
theorem Inv.nofs (I : Inv X pins σ H s) {a : Addr} (h : s.heap.objs.size ≤ a) : a ∉ X.fs := fun hb => by
  obtain ⟨_, o, ho, _⟩ := I.ok.funs.mem hb
  exact absurd (Nat.lt_of_lt_of_le (Heap.lt_size ho) (Nat.le_trans I.sz h)) (Nat.lt_irrefl _)
theorem Inv.cne (I : Inv X pins σ H s) : ∀ x c, X.env.cells.lookup x = some c → c ≠ X.env.locals := fun x c e z => by
  obtain ⟨v, o, ho, hd⟩ := I.cell x c e
  obtain ⟨m, ⟨o', es, ep, ho', hd', _⟩, _⟩ := I.loc
  rw [z, ho'] at ho; cases ho; rw [hd'] at hd; cases hd
theorem Inv.funs (I : Inv X pins σ H s) : s.heap.FunFrames X.base X.outer := by
  have all : ∀ (l : List Env), (∀ b ∈ frs l, b ∈ X.fs) → X.s₀.heap.FunFrames X.base l → s.heap.FunFrames X.base l := by
    intro l
    induction l with
    | nil => intro _ _; trivial
    | cons env r ih =>
      intro hs hl
      obtain ⟨hk, ⟨L, o, hf, hn, ho, hd⟩, hr⟩ := hl
      have hL : L ∈ X.fs := hs L (by unfold frs; rw [List.filterMap_cons, hf]; exact List.mem_cons_self)
      obtain ⟨sl, e⟩ := I.base.slot L o ho (I.ok.frf L hL) hL fun z => I.ok.exfs L z hL
      exact ⟨hk, ⟨L, _, hf, hn, e, hd⟩, ih (fun b hb => hs b (by unfold frs; rw [List.filterMap_cons, hf]; exact List.mem_cons_of_mem _ hb)) hr⟩
  exact all X.outer (fun _ hb => hb) I.ok.funs
theorem Inv.stack (I : Inv X pins σ H s) : s.heap.FunFrames X.base X.stack := by
  rcases I.ok.stk with e | ⟨e, hf⟩
  · rw [e]; exact I.funs
  · rw [e]
    obtain ⟨m, hn, _⟩ := I.loc
    refine .cons (by rw [I.ok.kind]; decide) hf hn ?_ I.funs
    exact Heap.get?_none_of_le (Nat.le_trans I.ok.bsz I.ok.above)
theorem Inv.stkSub (I : Inv X pins σ H s) : ∀ b ∈ frs X.stack, b ∈ X.env.locals :: X.fs := fun b hb => by
  rcases I.ok.stk with e | ⟨e, hf⟩
  · rw [e] at hb; exact List.mem_cons_of_mem _ hb
  · rw [e] at hb
    unfold frs at hb
    rw [List.filterMap_cons, hf] at hb
    exact hb
theorem Inv.stkFree (I : Inv X pins σ H s) : ∀ b ∈ frs X.stack, H b = none := fun b hb => by
  rcases List.mem_cons.mp (I.stkSub b hb) with e | hb
  · rw [e]; exact I.free
  · obtain ⟨_, o, ho, _⟩ := I.ok.funs.mem hb
    exact I.base.free b o ho (I.ok.frf b hb) fun z => I.ok.exfs b z hb
theorem Inv.step {g' : Array GenState} {t' : Nat} {d' : Drawn} {ch : List Addr} (I : Inv X pins σ H s)
    (hch : ∀ b ∈ ch, (b ∈ X.ex ∨ X.s₀.heap.objs.size ≤ b) ∧ b ≠ X.env.locals ∧ (∀ x c, X.env.cells.lookup x = some c → c ≠ b) ∧ ∀ p ∈ X.pn ++ pins, p.1 ≠ b)
    (keep : ∀ b o, b ≠ X.env.locals → b ∉ X.fs → b ∉ ch → s.heap.get? b = some o → H b = none → h'.get? b = some o)
    (slot : ∀ b o, b ≠ X.env.locals → b ∈ X.fs → b ∉ ch → s.heap.get? b = some o → H b = none → ∃ sl, h'.get? b = some { o with slots := sl }) (free : ∀ b o, b ∉ ch → s.heap.get? b = some o → H b = none → H' b = none)
    (there : ∀ b o, b ∉ ch → s.heap.get? b = some o → ∃ o', h'.get? b = some o')
    (tups : ∀ b xs, H b = some (.tup xs) → H' b = some (.tup xs)) (frzs : ∀ b o u, H b = some (.frz o u) → H' b = some (.frz o u)) (tbls : ∀ b ps, H b = some (.tbl ps) → ∃ more, H' b = some (.tbl (ps ++ more)))
    (ns : ∀ m, s.heap.Ns X.env.locals m → h'.Ns X.env.locals m) (hok : HOk X.prog X.w H' h') (hg : AllBare g') :
    Inv X pins σ H' { s with heap := h', gens := g', drawn := d', toks := t' } := by
  have neL : ∀ b o, X.s₀.heap.get? b = some o → b ≠ X.env.locals := fun b o e => Nat.ne_of_lt (Nat.lt_of_lt_of_le (Heap.lt_size e) I.ok.above)
  have neC : ∀ b o, X.s₀.heap.get? b = some o → b ∉ X.ex → b ∉ ch := fun b o e hx hb => by
    rcases (hch b hb).1 with z | z
    · exact hx z
    · exact absurd (Nat.lt_of_lt_of_le (Heap.lt_size e) z) (Nat.lt_irrefl _)
  have cellK : ∀ x c, X.env.cells.lookup x = some c → ∀ v, s.heap.IsCell c v → h'.IsCell c v := fun x c e v ⟨o, ho, hd⟩ => by
    have nch : c ∉ ch := fun z => (hch c z).2.2.1 x c e rfl
    by_cases hc : c ∈ X.fs
    · obtain ⟨sl, q⟩ := slot c o (I.cne x c e) hc nch ho (I.freeC x c e)
      exact ⟨_, q, hd⟩
    · exact ⟨o, keep c o (I.cne x c e) hc nch ho (I.freeC x c e), hd⟩
  refine ⟨I.ok, I.os, hg, ⟨fun b o e n hb hx => ?_, fun b o e n hb hx => ?_, fun b o e n hx => ?_, fun b o e hx => ?_, fun b xs e => tups b xs (I.base.tups b xs e), fun b o xs e => frzs b o xs (I.base.frzs b o xs e), fun b ps e => ?_⟩, ?_, fun x c e => ?_, ?_, fun x c e => ?_, fun p hp => ?_, hok, I.len⟩
  · exact keep b o (neL b o e) hb (neC b o e hx) (I.base.keep b o e n hb hx) (I.base.free b o e n hx)
  · obtain ⟨sl, e1⟩ := I.base.slot b o e n hb hx
    obtain ⟨sl', e2⟩ := slot b _ (neL b o e) hb (neC b o e hx) e1 (I.base.free b o e n hx)
    exact ⟨sl', e2⟩
  · obtain ⟨o', e1⟩ := I.base.there b o e hx
    exact free b o' (neC b o e hx) e1 (I.base.free b o e n hx)
  · obtain ⟨o', e1⟩ := I.base.there b o e hx
    exact there b o' (neC b o e hx) e1
  · obtain ⟨m1, e1⟩ := I.base.tbls b ps e
    obtain ⟨m2, e2⟩ := tbls b _ e1
    exact ⟨m1 ++ m2, by rw [e2, Array.append_assoc]⟩
  · obtain ⟨m, hn, hl⟩ := I.loc
    refine ⟨m, ns m hn, fun i x v e1 e2 e3 => ?_⟩
    obtain ⟨u, r, l⟩ := hl i x v e1 e2 e3
    refine ⟨u, r, ?_⟩
    rcases l with l | ⟨k, c, e, z⟩
    · exact .inl l
    · exact .inr ⟨k, c, e, cellK x c e _ z⟩
  · obtain ⟨v, z⟩ := I.cell x c e
    exact ⟨v, cellK x c e v z⟩
  · obtain ⟨m, ⟨o, _, _, ho, _⟩, _⟩ := I.loc
    exact free _ o (fun z => (hch _ z).2.1 rfl) ho I.free
  · obtain ⟨v, o, ho, hd⟩ := I.cell x c e
    exact free c o (fun z => (hch c z).2.2.1 x c e rfl) ho (I.freeC x c e)
  · obtain ⟨e, n, ne, nf, d⟩ := I.pin p hp
    have nch : p.1 ∉ ch := fun z => (hch p.1 z).2.2.2 p hp rfl
    exact ⟨keep p.1 p.2 ne nf nch e n, free p.1 p.2 nch e n, ne, nf, d⟩
theorem Inv.un {t' : Nat} (I : Inv X pins σ H s) (u : Un X.fs [] H H' s.heap h') (hok : HOk X.prog X.w H' h') : Inv X pins σ H' { s with heap := h', toks := t' } := by
  obtain ⟨m, ⟨o, es, ep, ho, r⟩, _⟩ := id I.loc
  obtain ⟨sl, hL⟩ := u.any ho I.free (by simp)
  exact I.step (g' := s.gens) (d' := s.drawn) (ch := []) (fun _ z => nomatch z) (fun b o _ hb _ e n => u.keep b o e n hb (by simp)) (fun b o _ hb _ e n => u.slot b o e n hb (by simp)) (fun b o _ e n => u.free b o e n (by simp)) (fun b o _ e => u.there b o e (by simp)) u.tups u.frzs u.tbls (fun m' hm => by
    obtain ⟨o', es', ep', ho', r'⟩ := hm
    rw [ho] at ho'; cases ho'
    exact ⟨_, es', ep', hL, r'⟩) hok I.bare
theorem Inv.call {g' : Array GenState} {t' : Nat} {d' : Drawn} {ch : List Addr} (I : Inv X pins σ H s) (u : Un (frs X.stack) ch H H' s.heap h') (hok : HOk X.prog X.w H' h') (hg : AllBare g')
    (hch : ∀ b ∈ ch, (b ∈ X.ex ∨ X.s₀.heap.objs.size ≤ b) ∧ b ≠ X.env.locals ∧ (∀ x c, X.env.cells.lookup x = some c → c ≠ b) ∧ ∀ p ∈ X.pn ++ pins, p.1 ≠ b) :
    Inv X pins σ H' { s with heap := h', gens := g', drawn := d', toks := t' } := by
  obtain ⟨m, ⟨o, es, ep, ho, r⟩, _⟩ := id I.loc
  obtain ⟨sl, hL⟩ := u.any ho I.free fun z => (hch _ z).2.1 rfl
  exact I.step (ch := ch) hch (fun b o hL hb hc e n => u.keep b o e n (fun z => (List.mem_cons.mp (I.stkSub b z)).elim hL hb) hc) (fun b o _ _ hc e n => u.any e n hc) (fun b o hc e n => u.free b o e n hc) (fun b o hc e => u.there b o e hc) u.tups u.frzs u.tbls (fun m' hm => by
    obtain ⟨o', es', ep', ho', r'⟩ := hm
    rw [ho] at ho'; cases ho'
    exact ⟨_, es', ep', hL, r'⟩) hok hg
theorem Inv.turned {t' : Nat} {it : Addr} (I : Inv X pins σ H s) (k : ∀ b o, b ≠ it → s.heap.get? b = some o → h'.get? b = some o) (hn : H it = none) (hL : it ≠ X.env.locals)
    (h1 : it ∈ X.ex ∨ X.s₀.heap.objs.size ≤ it) (h2 : ∀ x c, X.env.cells.lookup x = some c → c ≠ it) (h3 : ∀ p ∈ X.pn ++ pins, p.1 ≠ it) : Inv X pins σ H { s with heap := h', toks := t' } := by
  have nit : ∀ b u, H b = some u → b ≠ it := fun b u e z => by rw [z, hn] at e; cases e
  refine I.step (g' := s.gens) (d' := s.drawn) (ch := [it]) (fun b hb => ?_) (fun b o _ _ hc e _ => k b o (fun z => hc (by simp [z])) e) (fun b o _ _ hc e _ => ⟨o.slots, k b o (fun z => hc (by simp [z])) e⟩) (fun _ _ _ _ n => n)
    (fun b o hc e => ⟨o, k b o (fun z => hc (by simp [z])) e⟩) (fun _ _ e => e) (fun _ _ _ e => e) (fun b ps e => ⟨#[], by rw [e]; simp⟩) (fun m hm => ?_) (fun b u e => ?_) I.bare
  · have e : b = it := by simpa using hb
    subst e
    exact ⟨h1, hL, h2, h3⟩
  · obtain ⟨o, es, ep, ho, r⟩ := hm
    exact ⟨o, es, ep, k _ o (Ne.symm hL) ho, r⟩
  · refine (I.hok b u e).stay (fun c v hc q => k c v ?_ q) (fun _ q => q) fun _ _ q => q
    rcases hc with z | z
    · rw [z]; exact nit b u e
    · exact nit c _ z
theorem Inv.tok (I : Inv X pins σ H s) (t : Nat) : Inv X pins σ H { s with toks := t } := I.un (h' := s.heap) (t' := t) Un.refl I.hok
theorem Inv.kept {t' : Nat} (I : Inv X pins σ H s) (k : ∀ b u, s.heap.get? b = some u → h'.get? b = some u) : Inv X pins σ H { s with heap := h', toks := t' } := I.un (Un.kept k) (I.hok.kept k)
theorem Inv.laid {a : Addr} {o : HO} {t' : Nat} (I : Inv X pins σ H s) (k : ∀ b u, s.heap.get? b = some u → h'.get? b = some u) (hp : s.heap.objs.size ≤ a) (new : ObjOk X.prog X.w (upd H a o) h' a o) :
    Inv X pins σ (upd H a o) { s with heap := h', toks := t' } := I.un (Un.laid k hp (I.hok.fresh hp)) (I.hok.laid k hp new)
theorem Inv.write {x e : Addr} {o : HO} {t' : Nat} (I : Inv X pins σ H s) (mu : Mut (H x)) (he : e = x ∨ H e = some (.own x)) (k : ∀ b u, b ≠ e → s.heap.get? b = some u → h'.get? b = some u) (heo : ∃ u, h'.get? e = some u)
    (new : ObjOk X.prog X.w (upd H x o) h' x o) : Inv X pins σ (upd H x o) { s with heap := h', toks := t' } := I.un (Un.write mu he k heo) (I.hok.write mu he k heo new)
theorem Inv.pins_of {pins' : List (Addr × Obj)} (I : Inv X pins σ H s) (h : ∀ p ∈ pins', s.heap.get? p.1 = some p.2 ∧ H p.1 = none ∧ p.1 ≠ X.env.locals ∧ p.1 ∉ X.fs ∧ ∀ v, p.2.data ≠ .cell v) : Inv X pins' σ H s :=
  ⟨I.ok, I.os, I.bare, I.base, I.loc, I.cell, I.free, I.freeC, fun p hp => (List.mem_append.mp hp).elim (fun z => I.pin p (List.mem_append_left _ z)) (h p), I.hok, I.len⟩
theorem nodup_ix {N : List Str} (hN : N.Nodup) {i j : Nat} {x : Str} (a : N[i]? = some x) (b : N[j]? = some x) : i = j := by
  obtain ⟨h1, e1⟩ := List.getElem?_eq_some_iff.mp a
  obtain ⟨h2, e2⟩ := List.getElem?_eq_some_iff.mp b
  exact (List.getElem_inj hN).mp (e1.trans e2.symm)
theorem store_ok2 {M : Model} {A : Around} {E : Value → Shared → Prop} {i : Nat} {x : Str} {v : V} {u : Value} {Q : Unit → Shared → Prop} (I : Inv X pins σ H s) (hN : X.N.Nodup) (hi : X.N[i]? = some x) (hx : Loc X.env.scope x) (r : RelV v u)
    (h : ∀ s', Inv X pins (σ.set i (some v)) H s' → (∃ a, Heap.SameBut a s.heap s'.heap ∧ (a = X.env.locals ∨ X.env.cells.lookup x = some a)) → Q () s') (hf : X.fn x = true ∨ X.env.scope.names.lookup x = some .local := by first | exact .inl rfl | exact .inr rfl | assumption) : wpAny M A (storeName X.env x u) Q E s := by
  obtain ⟨m, hn, hl⟩ := id I.loc
  have hcls : (X.env.scope.kind == .class || (X.env.scope.kind == .module && X.env.locals != X.env.globals)) = false := by rw [I.ok.kind]; rfl
  have hiσ : i < σ.length := by rw [I.len]; exact (List.getElem?_eq_some_iff.mp hi).1
  have cne := I.cne
  have tracked : ∀ {a : Addr} {h' : Heap}, (∃ o, s.heap.get? a = some o ∧ H a = none) → Heap.SameBut a s.heap h' → HOk X.prog X.w H h' := fun {a h'} ha hs b ob e => by
    obtain ⟨_, _, hfree⟩ := ha
    refine (I.hok b ob e).stay (fun c w' hc q => (hs.2 c ?_).trans q) (fun _ q => q) fun _ _ q => q
    rintro rfl
    rcases hc with rfl | hc
    · rw [hfree] at e; cases e
    · rw [hfree] at hc; cases hc
  rcases hx with hk | hk
  · refine wpAny_storeName_local hk hn (fun h' hn' hs => ?_) hcls
    obtain ⟨oL, _, _, hoL, _⟩ := id hn
    refine h _ ⟨I.ok, I.os, I.bare, ⟨fun b o e n hb hx => ?_, fun b o e n hb hx => ?_, I.base.free, fun b o e hx => ?_, I.base.tups, I.base.frzs, I.base.tbls⟩, ⟨_, hn', fun j y v' e1 e2 e3 => ?_⟩, fun y c e => ?_, I.free, I.freeC, fun p hp => ?_, tracked ⟨oL, hoL, I.free⟩ hs, by simpa using I.len⟩ ⟨_, hs, .inl rfl⟩
    · exact (hs.2 b (Nat.ne_of_lt (Nat.lt_of_lt_of_le (Heap.lt_size e) I.ok.above))).trans (I.base.keep b o e n hb hx)
    · obtain ⟨sl, e1⟩ := I.base.slot b o e n hb hx
      exact ⟨sl, (hs.2 b (Nat.ne_of_lt (Nat.lt_of_lt_of_le (Heap.lt_size e) I.ok.above))).trans e1⟩
    · obtain ⟨o', e1⟩ := I.base.there b o e hx
      exact ⟨o', (hs.2 b (Nat.ne_of_lt (Nat.lt_of_lt_of_le (Heap.lt_size e) I.ok.above))).trans e1⟩
    · by_cases hj : j = i
      · subst hj
        rw [hi] at e1; cases e1
        rw [List.getElem?_set_self hiσ] at e2
        cases e2
        exact ⟨u, r, .inl ⟨hk, by simp⟩⟩
      · rw [List.getElem?_set_ne (Ne.symm hj)] at e2
        obtain ⟨u', r', q⟩ := hl j y v' e1 e2 e3
        refine ⟨u', r', ?_⟩
        rcases q with ⟨k, e⟩ | ⟨k, c, e, z⟩
        · refine .inl ⟨k, ?_⟩
          have : y ≠ x := fun e => hj (nodup_ix hN e1 (e ▸ hi))
          simp [this, e]
        · exact .inr ⟨k, c, e, z.sameBut hs (cne y c e)⟩
    · obtain ⟨w', z⟩ := I.cell y c e
      exact ⟨w', z.sameBut hs (cne y c e)⟩
    · obtain ⟨e, n, ne, nf, d⟩ := I.pin p hp
      exact ⟨(hs.2 p.1 ne).trans e, n, ne, nf, d⟩
  · have hfn : X.fn x = true := by
      rcases hf with z | z
      · exact z
      · rw [z] at hk; cases hk
    obtain ⟨c, hc⟩ := I.ok.has x (.inl hk)
    obtain ⟨w', z⟩ := I.cell x c hc
    refine wpAny_storeName_cell I.ok.kind hk hc z (fun h' hc' hs => ?_)
    obtain ⟨oc, hoc, hocd⟩ := id z
    refine h { s with heap := h' } ⟨I.ok, I.os, I.bare, ⟨fun b o e n hb hx => ?_, fun b o e n hb hx => ?_, I.base.free, fun b o e hx => ?_, I.base.tups, I.base.frzs, I.base.tbls⟩, ⟨m, hn.sameBut hs (Ne.symm (cne x c hc)), fun j y v' e1 e2 e3 => ?_⟩, fun y c' e => ?_, I.free, I.freeC, fun p hp => ?_, tracked ⟨oc, hoc, I.freeC x c hc⟩ hs, by simpa using I.len⟩ ⟨c, hs, .inr hc⟩
    · exact (hs.2 b (Nat.ne_of_lt (Nat.lt_of_lt_of_le (Heap.lt_size e) (I.ok.cab x c hfn hc)))).trans (I.base.keep b o e n hb hx)
    · obtain ⟨sl, e1⟩ := I.base.slot b o e n hb hx
      exact ⟨sl, (hs.2 b (Nat.ne_of_lt (Nat.lt_of_lt_of_le (Heap.lt_size e) (I.ok.cab x c hfn hc)))).trans e1⟩
    · obtain ⟨o', e1⟩ := I.base.there b o e hx
      exact ⟨o', (hs.2 b (Nat.ne_of_lt (Nat.lt_of_lt_of_le (Heap.lt_size e) (I.ok.cab x c hfn hc)))).trans e1⟩
    · by_cases hj : j = i
      · subst hj
        rw [hi] at e1; cases e1
        rw [List.getElem?_set_self hiσ] at e2
        cases e2
        exact ⟨u, r, .inr ⟨.inl hk, c, hc, hc'⟩⟩
      · rw [List.getElem?_set_ne (Ne.symm hj)] at e2
        obtain ⟨u', r', q⟩ := hl j y v' e1 e2 e3
        refine ⟨u', r', ?_⟩
        rcases q with q | ⟨k, c', e, z'⟩
        · exact .inl q
        · refine .inr ⟨k, c', e, z'.sameBut hs ?_⟩
          rintro rfl
          exact hj (nodup_ix hN e1 (I.ok.inj _ _ _ e hc ▸ hi))
    · by_cases hcc : c' = c
      · subst hcc; exact ⟨_, hc'⟩
      · obtain ⟨w2, z2⟩ := I.cell y c' e
        exact ⟨w2, z2.sameBut hs hcc⟩
    · obtain ⟨e, n, ne, nf, d⟩ := I.pin p hp
      refine ⟨(hs.2 p.1 ?_).trans e, n, ne, nf, d⟩
      intro q
      rw [q, hoc] at e
      have q' : oc = p.2 := Option.some.inj e
      exact d w' (by rw [← q']; exact hocd)
theorem store_ok {M : Model} {A : Around} {E : Value → Shared → Prop} {i : Nat} {x : Str} {v : V} {u : Value} {Q : Unit → Shared → Prop} (I : Inv X pins σ H s) (hN : X.N.Nodup) (hi : X.N[i]? = some x) (hx : Loc X.env.scope x) (r : RelV v u)
    (h : ∀ s', Inv X pins (σ.set i (some v)) H s' → Q () s') (hf : X.fn x = true ∨ X.env.scope.names.lookup x = some .local := by first | exact .inl rfl | exact .inr rfl | assumption) : wpAny M A (storeName X.env x u) Q E s :=
  store_ok2 I hN hi hx r (fun s' I' _ => h s' I') hf
theorem Inv.call' {s' : Shared} {ch : List Addr} (I : Inv X pins σ H s) (ho : s'.os = s.os) (u : Un (frs X.stack) ch H H' s.heap s'.heap) (hok : HOk X.prog X.w H' s'.heap) (hg : AllBare s'.gens)
    (hch : ∀ b ∈ ch, (b ∈ X.ex ∨ X.s₀.heap.objs.size ≤ b) ∧ b ≠ X.env.locals ∧ (∀ x c, X.env.cells.lookup x = some c → c ≠ b) ∧ ∀ p ∈ X.pn ++ pins, p.1 ≠ b) : Inv X pins σ H' s' := by
  obtain ⟨h', g', d', t', o'⟩ := s'
  have e : o' = s.os := ho
  subst e
  exact I.call (g' := g') (t' := t') (d' := d') u hok hg hch
end
noncomputable abbrev XK := Value → Option Addr → Hp → Prop
noncomputable abbrev St := List (Option V)
noncomputable abbrev VK := V → Hp → Prop
noncomputable abbrev TE := St → Hp → VK → Prop
noncomputable abbrev TT := St → Hp → (Bool → Hp → Prop) → Prop
noncomputable abbrev TA := St → Hp → (List V → Hp → Prop) → Prop
structure Ends where
  nx : St → Hp → Prop
  rt : VK
  bk : St → Hp → Prop := fun _ _ => False
  ct : St → Hp → Prop := fun _ _ => False
noncomputable abbrev TS := Ends → St → Hp → Prop
noncomputable def EP (X : Cx) (pins : List (Addr × Obj)) (σ : St) (Q : VK) (u : Value) (s' : Shared) : Prop := ∃ v H', Inv X pins σ H' s' ∧ RelV v u ∧ Q v H'
noncomputable def TP (X : Cx) (pins : List (Addr × Obj)) (σ : St) (Q : Bool → Hp → Prop) (b : Bool) (s' : Shared) : Prop := ∃ H', Inv X pins σ H' s' ∧ Q b H'
noncomputable def AP (X : Cx) (pins : List (Addr × Obj)) (σ : St) (Q : List V → Hp → Prop) (us : List Value) (s' : Shared) : Prop := ∃ vs H', Inv X pins σ H' s' ∧ Vals vs us ∧ Q vs H'
noncomputable def SP (X : Cx) (pins : List (Addr × Obj)) (D : Ends) (f : Flow) (s' : Shared) : Prop :=
  match f with
  | .next => ∃ σ' H', Inv X pins σ' H' s' ∧ D.nx σ' H'
  | .brk => ∃ σ' H', Inv X pins σ' H' s' ∧ D.bk σ' H'
  | .cont => ∃ σ' H', Inv X pins σ' H' s' ∧ D.ct σ' H'
  | .ret u => ∃ v σ' H', Inv X pins σ' H' s' ∧ RelV v u ∧ D.rt v H'
noncomputable def PE (X : Cx) (e : Expr) (t : TE) : Prop :=
  ∀ (pins : List (Addr × Obj)) (s : Shared) (σ : St) (H : Hp) (Q : VK), Inv X pins σ H s → t σ H Q → wpAny (model X.prog X.w) X.A (eval e X.env) (EP X pins σ Q) X.xe s
noncomputable def PT (X : Cx) (e : Expr) (t : TT) : Prop :=
  ∀ (pins : List (Addr × Obj)) (s : Shared) (σ : St) (H : Hp) (Q : Bool → Hp → Prop), Inv X pins σ H s → t σ H Q → wpAny (model X.prog X.w) X.A (isTrue e X.env (eval e X.env)) (TP X pins σ Q) X.xe s
noncomputable def PW (X : Cx) (e : Expr) (t : TT) : Prop :=
  ∀ (whole : Sem Value) (pins : List (Addr × Obj)) (s : Shared) (σ : St) (H : Hp) (Q : Bool → Hp → Prop), Inv X pins σ H s → t σ H Q → wpAny (model X.prog X.w) X.A (isTrue e X.env whole) (TP X pins σ Q) X.xe s
theorem PW.pt {X : Cx} {e : Expr} {t : TT} (h : PW X e t) : PT X e t := h _
noncomputable def PA (X : Cx) (es : List Expr) (t : TA) : Prop :=
  ∀ (pos : Pos) (pins : List (Addr × Obj)) (s : Shared) (σ : St) (H : Hp) (Q : List V → Hp → Prop), Inv X pins σ H s → t σ H Q → wpAny (model X.prog X.w) X.A (spliced (backTo pos (starEach es X.env))) (AP X pins σ Q) X.xe s
noncomputable def PS (X : Cx) (st : Stmt) (t : TS) : Prop :=
  ∀ (pins : List (Addr × Obj)) (s : Shared) (σ : St) (H : Hp) (D : Ends), Inv X pins σ H s → t D σ H → wpAny (model X.prog X.w) X.A (exec st X.env) (SP X pins D) X.xe s
noncomputable def PSs (X : Cx) (st : List Stmt) (t : TS) : Prop :=
  ∀ (pins : List (Addr × Obj)) (s : Shared) (σ : St) (H : Hp) (D : Ends), Inv X pins σ H s → t D σ H → wpAny (model X.prog X.w) X.A (execs st X.env) (SP X pins D) X.xe s
theorem thn {α : Type} {t : Sem α} {Q Q' : α → Shared → Prop} {M : Model} {A : Around} {E : Value → Shared → Prop} {s : Shared} (h : wpAny M A t Q E s) (hQ : ∀ a s, Q a s → Q' a s) : wpAny M A t Q' E s := wpAny_mono h hQ fun _ _ x => x
end L2
namespace L2
open PySem PySem.Spec PyProof.Rows
section
variable {X : Cx}
theorem bin {a b : Expr} {ta tb : TE} (ha : PE X a ta) (hb : PE X b tb) {pins : List (Addr × Obj)} {s : Shared} {σ : St} {H : Hp} {R : V → V → Hp → Prop} (I : Inv X pins σ H s) (h : ta σ H fun x H1 => tb σ H1 fun y H2 => R x y H2)
    {α : Type} {Q : α → Shared → Prop} {f : Value → Value → Sem α}
    (hf : ∀ v u s2 x y H2, Inv X pins σ H2 s2 → RelV x v → RelV y u → R x y H2 → wpAny (model X.prog X.w) X.A (f v u) Q X.xe s2) :
    wpAny (model X.prog X.w) X.A (eval a X.env) (fun v s₁ => wpAny (model X.prog X.w) X.A (eval b X.env) (fun u s₂ => wpAny (model X.prog X.w) X.A (f v u) Q X.xe s₂) X.xe s₁) X.xe s := by
  refine thn (ha pins s σ H _ I h) fun v s1 ⟨x, H1, I1, r1, q1⟩ => ?_
  refine thn (hb pins s1 σ H1 _ I1 q1) fun u s2 ⟨y, H2, I2, r2, q2⟩ => ?_
  exact hf v u s2 x y H2 I2 r1 r2 q2
noncomputable def tVar (i : Nat) : TE := fun σ H Q => ∃ v, σ[i]? = some (some v) ∧ Q v H
noncomputable def tC (v : V) : TE := fun _ H Q => Q v H
theorem pe_var {i : Nat} {x : Str} {pos : Pos} (hN : X.N[i]? = some x) (hv : Vis X.env.scope x) (hd : (x == ("__debug__" : Str)) = false := by decide) (hcd : (x == ("__classdict__" : Str)) = false := by decide) : PE X (.Name x pos) (tVar i) := by
  intro pins s σ H Q I h
  obtain ⟨v, e, h⟩ := h
  obtain ⟨m, hn, hl⟩ := I.loc
  obtain ⟨u, r, l⟩ := hl i x v hN e hv
  have fin : EP X pins σ Q u s := ⟨v, H, I, r, h⟩
  rcases l with ⟨hk, hm⟩ | ⟨hk, c, hc, hcell⟩
  · exact wpAny_Name (wpAny_loadName_local I.ok.kind hk hn hm fin) hd
  · rcases hk with hk | hk
    · exact wpAny_Name (wpAny_loadName_cell I.ok.kind hk hc hcell fin) hd
    · exact wpAny_Name (wpAny_loadName_free I.ok.kind hk hc hcell fin hcd) hd
theorem pe_int {i j pos} : PE X (.Constant (.int i) j pos) (tC (.int i)) := fun _ _ _ H _ I h => wpAny_Constant_int ⟨.int i, H, I.tok _, ⟨_, rfl⟩, h⟩
theorem pe_bl {b j pos} : PE X (.Constant (.bool b) j pos) (tC (.bl b)) := fun _ _ _ H _ I h => Constant_bool ⟨.bl b, H, I, rfl, h⟩
theorem pe_non {j pos} : PE X (.Constant .none j pos) (tC .non) := fun _ _ _ H _ I h => Constant_none ⟨.non, H, I, rfl, h⟩
theorem pe_str {x j pos} : PE X (.Constant (.str x) j pos) (tC (.str x)) := fun _ _ _ H _ I h => Calls.Constant_str ⟨.str x, H, I.tok _, ⟨_, rfl⟩, h⟩
noncomputable def Gl (X : Cx) (x : Str) : Prop := X.env.kindOf x = some .globalImplicit
theorem ld_glob {E : Value → Shared → Prop} {pins : List (Addr × Obj)} {s : Shared} {σ : St} {H : Hp} {x : Str} {u : Value} {pos : Pos} {Q : Value → Shared → Prop} (I : Inv X pins σ H s) (hg : Gl X x) (hm : X.mg x = some u) (h : Q u s)
    (hd : (x == ("__debug__" : Str)) = false := by decide) : wpAny (model X.prog X.w) X.A (eval (.Name x pos) X.env) Q E s :=
  Calls.Name_function_global I.ok.kind hg (Calls.loadGlobal_global (by rw [I.ok.glob]; exact I.mod.glob.keeps I.bk) hm h) hd
theorem ld_blt {E : Value → Shared → Prop} {pins : List (Addr × Obj)} {s : Shared} {σ : St} {H : Hp} {x : Str} {u : Value} {pos : Pos} {Q : Value → Shared → Prop} (I : Inv X pins σ H s) (hg : Gl X x) (hm : X.mg x = none) (hv : bootBuiltins x = some u) (h : Q u s)
    (hn : x ≠ "__name__" := by decide) (hd : (x == ("__debug__" : Str)) = false := by decide) : wpAny (model X.prog X.w) X.A (eval (.Name x pos) X.env) Q E s := by
  obtain ⟨mb, h1, h2⟩ := I.mod.blt
  exact Calls.Name_function_global I.ok.kind hg (Calls.loadGlobal_builtin (by rw [I.ok.glob]; exact I.mod.glob.keeps I.bk) hm (by rw [I.ok.blt]; exact h1.keeps I.bk) ((h2 x hn).trans hv) h) hd
theorem pe_glob {x : Str} {v : V} {u : Value} {pos : Pos} (hg : Gl X x) (hm : X.mg x = some u) (r : RelV v u) (hd : (x == ("__debug__" : Str)) = false := by decide) : PE X (.Name x pos) (tC v) :=
  fun _ _ _ H _ I h => ld_glob I hg hm ⟨v, H, I, r, h⟩ hd
theorem pe_bltn {x : Str} {v : V} {u : Value} {pos : Pos} (hg : Gl X x) (hm : X.mg x = none) (hv : bootBuiltins x = some u) (r : RelV v u) (hn : x ≠ "__name__" := by decide) (hd : (x == ("__debug__" : Str)) = false := by decide) : PE X (.Name x pos) (tC v) :=
  fun _ _ _ H _ I h => ld_blt I hg hm hv ⟨v, H, I, r, h⟩ hn hd
variable {a b : Expr} {ta tb : TE} {pos : Pos}
variable {tA tB' : TT} {rest : List Expr}
noncomputable def tAnd (t u : TT) : TT := fun σ H Q => t σ H fun c H1 => if c = true then u σ H1 Q else Q false H1
noncomputable def tOr (t u : TT) : TT := fun σ H Q => t σ H fun c H1 => if c = true then Q true H1 else u σ H1 Q
noncomputable def tNot (t : TT) : TT := fun σ H Q => t σ H fun c H1 => Q (!c) H1
theorem pw_and1 (ha : PT X a tA) : PW X (.BoolOp .And [a] pos) tA := by
  intro wh pins s σ H Q I h
  refine isTrue_and (thn (ha pins s σ H Q I h) fun c s1 e => ?_)
  cases c with
  | true => exact isTrue_and_nil e
  | false => exact e
theorem pw_or1 (ha : PT X a tA) : PW X (.BoolOp .Or [a] pos) tA := by
  intro wh pins s σ H Q I h
  refine isTrue_or (thn (ha pins s σ H Q I h) fun c s1 e => ?_)
  cases c with
  | false => exact isTrue_or_nil e
  | true => exact e
theorem pw_and (ha : PT X a tA) (hb : PW X (.BoolOp .And (b :: rest) pos) tB') : PW X (.BoolOp .And (a :: b :: rest) pos) (tAnd tA tB') := by
  intro wh pins s σ H Q I h
  refine isTrue_and (thn (ha pins s σ H _ I h) fun c s1 ⟨H1, I1, q1⟩ => ?_)
  cases c with
  | true => exact hb wh pins s1 σ H1 Q I1 q1
  | false => exact ⟨H1, I1, q1⟩
theorem pw_or (ha : PT X a tA) (hb : PW X (.BoolOp .Or (b :: rest) pos) tB') : PW X (.BoolOp .Or (a :: b :: rest) pos) (tOr tA tB') := by
  intro wh pins s σ H Q I h
  refine isTrue_or (thn (ha pins s σ H _ I h) fun c s1 ⟨H1, I1, q1⟩ => ?_)
  cases c with
  | true => exact ⟨H1, I1, q1⟩
  | false => exact hb wh pins s1 σ H1 Q I1 q1
theorem pt_not (ha : PT X a tA) : PT X (.UnaryOp .Not a pos) (tNot tA) := by
  intro pins s σ H Q I h
  exact isTrue_not (ha pins s σ H (fun c H1 => Q (!c) H1) I h)
theorem pe_one {op} {t : TE} (h : PE X a t) : PE X (.BoolOp op [a] pos) t := fun pins s σ H Q I hw => BoolOp_one (h pins s σ H Q I hw)
end
end L2
namespace L2
open PySem PySem.Spec PyProof.Rows
noncomputable def SqL (K : PySem.W.Frag) (H : Hp) (a : Addr) (xs : List V) : Prop :=
  Rd H a (.lst xs) ∨
    ∃ (o : Obj) (its : Array Value) (n : Nat), K.lookup a = some o ∧ o.cls = .type "list" ∧ o.dict = none ∧ o.data = .seq its n ∧ its.size ≤ sizeLine ∧ Vals xs its.toList
noncomputable def SqT (K : PySem.W.Frag) (H : Hp) (a : Addr) (xs : List V) : Prop :=
  Rd H a (.tup xs) ∨
    ∃ (o : Obj) (its : Array Value) (n : Nat), K.lookup a = some o ∧ o.cls = .type "tuple" ∧ o.data = .seq its n ∧ its.size ≤ sizeLine ∧ Vals xs its.toList
noncomputable def absV : Value → Option V
  | .none => some .non
  | .bool b => some (.bl b)
  | .int i _ => some (.int i)
  | .str x _ => some (.str x)
  | .bytes b _ => some (.byt b)
  | .float b _ => some (.flt b)
  | .ref a => some (.ref a)
  | .type n => some (.ty n)
  | _ => none
theorem RelV.abs {x : V} {u : Value} (r : RelV x u) : absV u = some x := by
  cases x with
  | non => cases r; rfl
  | bl _ => cases r; rfl
  | int _ => obtain ⟨t, rfl⟩ := r; rfl
  | str _ => obtain ⟨t, rfl⟩ := r; rfl
  | byt _ => obtain ⟨t, rfl⟩ := r; rfl
  | flt _ => obtain ⟨t, rfl⟩ := r; rfl
  | ref _ => cases r; rfl
  | ty _ => cases r; rfl
theorem RelV.inj {x y : V} {u : Value} (r : RelV x u) (q : RelV y u) : x = y := Option.some.inj (r.abs.symm.trans q.abs)
theorem Vals.inj : ∀ {xs ys : List V} {us : List Value}, Vals xs us → Vals ys us → xs = ys
  | _, _, _, .nil, .nil => rfl
  | _, _, _, .cons r t, .cons r' t' => by rw [r.inj r', Vals.inj t t']
section
variable {X : Cx} {pins : List (Addr × Obj)} {σ : St} {H : Hp} {s : Shared} {a : Addr} {xs ys : List V}
theorem SqL.of {K : PySem.W.Frag} (h : H a = some (.lst xs)) : SqL K H a xs := .inl (.inl h)
theorem SqT.of {K : PySem.W.Frag} (h : H a = some (.tup xs)) : SqT K H a xs := .inl (.inl h)
theorem Inv.list (I : Inv X pins σ H s) (h : SqL X.K H a xs) : ∃ its : List Value, Vals xs its ∧ PlainL s.heap a its.toArray ∧ xs.length ≤ sizeLine := by
  rcases h with h | ⟨o, its, n, hk, hc, hd, hs, hz, r⟩
  · obtain ⟨z, its, n, r, e⟩ := h.ok I.hok
    exact ⟨its, r, ⟨_, n, e, rfl, rfl, rfl⟩, z⟩
  · refine ⟨its.toList, r, ⟨o, n, I.kIn a o hk, hc, hd, by simpa using hs⟩, ?_⟩
    have e := r.length
    simp only [Array.length_toList] at e
    omega
theorem Inv.tuple (I : Inv X pins σ H s) (h : SqT X.K H a xs) : ∃ its : List Value, Vals xs its ∧ IsTup s.heap a its.toArray ∧ xs.length ≤ sizeLine := by
  rcases h with h | ⟨o, its, n, hk, hc, hs, hz, r⟩
  · obtain ⟨z, its, r, p⟩ := h.ok I.hok
    exact ⟨its, r, p, z⟩
  · refine ⟨its.toList, r, ⟨o, I.kIn a o hk, hc, n, by simpa using hs⟩, ?_⟩
    have e := r.length
    simp only [Array.length_toList] at e
    omega
theorem Inv.list_inj (I : Inv X pins σ H s) (h : SqL X.K H a xs) (h' : SqL X.K H a ys) : xs = ys := by
  obtain ⟨its, r, ⟨o, n, e, _, _, d⟩, _⟩ := I.list h
  obtain ⟨its', r', ⟨o', n', e', _, _, d'⟩, _⟩ := I.list h'
  rw [e] at e'; cases e'
  rw [d] at d'
  injection d' with d1 _
  have : its = its' := by simpa using congrArg Array.toList d1
  subst this
  exact r.inj r'
theorem Inv.tuple_inj (I : Inv X pins σ H s) (h : SqT X.K H a xs) (h' : SqT X.K H a ys) : xs = ys := by
  obtain ⟨its, r, ⟨o, e, _, n, d⟩, _⟩ := I.tuple h
  obtain ⟨its', r', ⟨o', e', _, n', d'⟩, _⟩ := I.tuple h'
  rw [e] at e'; cases e'
  rw [d] at d'
  injection d' with d1 _
  have : its = its' := by simpa using congrArg Array.toList d1
  subst this
  exact r.inj r'
end
noncomputable abbrev Cx.wish (X : Cx) (E : Value → Shared → Prop) : Cx := { X with xe := E }
noncomputable abbrev Cx.nox (X : Cx) : Cx := X.wish fun _ _ => False
theorem Cx.Ok.wish {X : Cx} (ok : X.Ok) (E : Value → Shared → Prop) : (X.wish E).Ok :=
  ⟨ok.mod, ok.kind, ok.glob, ok.blt, ok.above, ok.inj, ok.has, ok.cab, ok.hd, ok.frames, ok.stk, ok.exf, ok.bs, ok.bsz, ok.noex, ok.exfs, ok.funs, ok.frf⟩
theorem Cx.Ok.unwish {X : Cx} {E : Value → Shared → Prop} (ok : (X.wish E).Ok) : X.Ok :=
  ⟨ok.mod, ok.kind, ok.glob, ok.blt, ok.above, ok.inj, ok.has, ok.cab, ok.hd, ok.frames, ok.stk, ok.exf, ok.bs, ok.bsz, ok.noex, ok.exfs, ok.funs, ok.frf⟩
section
variable {X : Cx} {pins : List (Addr × Obj)} {σ : St} {H : Hp} {s : Shared} {E : Value → Shared → Prop}
theorem Inv.wish (I : Inv X pins σ H s) (E : Value → Shared → Prop) : Inv (X.wish E) pins σ H s := ⟨I.ok.wish E, I.os, I.bare, I.base, I.loc, I.cell, I.free, I.freeC, I.pin, I.hok, I.len⟩
theorem Inv.unwish (I : Inv (X.wish E) pins σ H s) : Inv X pins σ H s := ⟨I.ok.unwish, I.os, I.bare, I.base, I.loc, I.cell, I.free, I.freeC, I.pin, I.hok, I.len⟩
theorem SP.unwish {D : Ends} {f : Flow} {s' : Shared} (h : SP (X.wish E) pins D f s') : SP X pins D f s' := by
  cases f with
  | next => obtain ⟨σ', H', I, q⟩ := h; exact ⟨σ', H', I.unwish, q⟩
  | brk => obtain ⟨σ', H', I, q⟩ := h; exact ⟨σ', H', I.unwish, q⟩
  | cont => obtain ⟨σ', H', I, q⟩ := h; exact ⟨σ', H', I.unwish, q⟩
  | ret u => obtain ⟨v, σ', H', I, r, q⟩ := h; exact ⟨v, σ', H', I.unwish, r, q⟩
theorem PE.nox {e : Expr} {t : TE} (h : PE X.nox e t) : PE X e t := fun pins s σ H Q I hw =>
  wpAny_mono (h pins s σ H Q (I.wish _) hw) (fun _ _ ⟨v, H', I', r, q⟩ => ⟨v, H', I'.unwish, r, q⟩) fun _ _ z => False.elim z
theorem PT.nox {e : Expr} {t : TT} (h : PT X.nox e t) : PT X e t := fun pins s σ H Q I hw =>
  wpAny_mono (h pins s σ H Q (I.wish _) hw) (fun _ _ ⟨H', I', q⟩ => ⟨H', I'.unwish, q⟩) fun _ _ z => False.elim z
theorem PSs.nox {st : List Stmt} {t : TS} (h : PSs X.nox st t) : PSs X st t := fun pins s σ H D I hw =>
  wpAny_mono (h pins s σ H D (I.wish _) hw) (fun _ _ q => q.unwish) fun _ _ z => False.elim z
end
section
variable {X : Cx} {st : Stmt} {rest : List Stmt} {t u : TS} {e : Expr} {te : TE} {pos : Pos}
noncomputable def tNext : TS := fun D σ H => D.nx σ H
noncomputable def tSeq (t u : TS) : TS := fun D σ H => t { D with nx := u D } σ H
theorem pss_nil : PSs X [] tNext := fun _ _ σ H _ I h => wpAny_execs_nil ⟨σ, H, I, h⟩
theorem pss_cons (h1 : PS X st t) (h2 : PSs X rest u) : PSs X (st :: rest) (tSeq t u) := by
  intro pins s σ H D I h
  refine wpAny_execs_cons (thn (h1 pins s σ H { D with nx := u D } I h) fun f s1 q => ?_)
  cases f with
  | next =>
    obtain ⟨σ', H', I', q⟩ := q
    exact h2 pins s1 σ' H' D I' q
  | ret v => exact q
  | brk => exact q
  | cont => exact q
theorem Inv.quiet {pins : List (Addr × Obj)} {σ : St} {H : Hp} {s : Shared} (I : Inv X pins σ H s) : interactive X.env = false := by simp [interactive, I.ok.kind]
noncomputable def tDrop (te : TE) : TS := fun D σ H => te σ H fun _ H1 => D.nx σ H1
theorem ps_expr (he : PE X e te) (hs : swapsWith e none pos.line X.env = pure false := by rfl) : PS X (.Expr e pos) (tDrop te) := by
  intro pins s σ H D I h
  exact wpAny_Expr_any (thn (he pins s σ H _ I h) fun v s1 ⟨x, H1, I1, r1, q1⟩ => ⟨σ, H1, I1, q1⟩) I.quiet hs
noncomputable def tRet (te : TE) : TS := fun D σ H => te σ H D.rt
theorem ps_ret (he : PE X e te) : PS X (.Return (some e) pos) (tRet te) := by
  intro pins s σ H D I h
  exact wpAny_Return_some (thn (he pins s σ H _ I h) fun v s1 ⟨x, H1, I1, r1, q1⟩ => ⟨x, σ, H1, I1, r1, q1⟩)
noncomputable def tIfS (c : TT) (t u : TS) : TS := fun D σ H => c σ H fun b H1 => if b = true then t D σ H1 else u D σ H1
theorem ps_if {c : Expr} {a b : List Stmt} {tc : TT} (hc : PT X c tc) (ha : PSs X a t) (hb : PSs X b u) : PS X (.If c a b pos) (tIfS tc t u) := by
  intro pins s σ H D I h
  refine wpAny_If (thn (hc pins s σ H _ I h) fun d s1 ⟨H1, I1, q1⟩ => ?_)
  cases d with
  | true => exact ha pins s1 σ H1 D I1 q1
  | false => exact hb pins s1 σ H1 D I1 q1
end
noncomputable abbrev TG := V → St → Hp → (St → Hp → Prop) → Prop
noncomputable abbrev TGs := List V → St → Hp → (St → Hp → Prop) → Prop
noncomputable def PG (X : Cx) (target : Expr) (t : TG) : Prop :=
  ∀ (pins : List (Addr × Obj)) (s : Shared) (σ : St) (H : Hp) (v : V) (u : Value) (Q : St → Hp → Prop), Inv X pins σ H s → RelV v u → t v σ H Q →
    wpAny (model X.prog X.w) X.A (assign target X.env u) (fun _ s' => ∃ σ' H', Inv X pins σ' H' s' ∧ Q σ' H') X.xe s
noncomputable def PGs (X : Cx) (ts : List Expr) (t : TGs) : Prop :=
  ∀ (pins : List (Addr × Obj)) (s : Shared) (σ : St) (H : Hp) (vs : List V) (us : List Value) (Q : St → Hp → Prop), Inv X pins σ H s → Vals vs us → t vs σ H Q →
    wpAny (model X.prog X.w) X.A (assignInOrder ((assignEach ts X.env).map (·.2)) us) (fun _ s' => ∃ σ' H', Inv X pins σ' H' s' ∧ Q σ' H') X.xe s
noncomputable abbrev TSet := V → V → V → Hp → (Hp → Prop) → Prop
noncomputable def PSet (X : Cx) (t : TSet) : Prop :=
  ∀ (pins : List (Addr × Obj)) (s : Shared) (σ : St) (H : Hp) (o i v : V) (ov iv u : Value) (Q : Hp → Prop), Inv X pins σ H s → RelV o ov → RelV i iv → RelV v u → t o i v H Q →
    wpAny (model X.prog X.w) X.A (setItem ov iv u) (fun _ s' => ∃ H', Inv X pins σ H' s' ∧ Q H') X.xe s
section
variable {X : Cx} {pos : Pos}
noncomputable def gName (i : Nat) : TG := fun v σ H Q => Q (σ.set i (some v)) H
theorem pg_name {i : Nat} {x : Str} (hN : X.N.Nodup) (hi : X.N[i]? = some x) (hx : Loc X.env.scope x) (hf : X.fn x = true ∨ X.env.scope.names.lookup x = some .local := by first | exact .inl rfl | exact .inr rfl | assumption) : PG X (.Name x pos) (gName i) := by
  intro pins s σ H v u Q I r h
  exact wpAny_assign_Name (store_ok I hN hi hx r (fun s' I' => ⟨_, H, I', h⟩) hf)
noncomputable def gNil : TGs := fun vs σ H Q => vs = [] ∧ Q σ H
noncomputable def gCons (t : TG) (u : TGs) : TGs := fun vs σ H Q => ∃ v r, vs = v :: r ∧ t v σ H fun σ' H' => u r σ' H' Q
theorem pgs_nil : PGs X [] gNil := by
  intro pins s σ H vs us Q I r h
  obtain ⟨e, h⟩ := h
  subst e
  cases r
  exact assignInOrder_nil ⟨σ, H, I, h⟩
theorem pgs_cons {e : Expr} {es : List Expr} {t : TG} {u : TGs} (h1 : PG X e t) (h2 : PGs X es u)
    (hs : (assignEach (e :: es) X.env).map (·.2) = assign e X.env :: (assignEach es X.env).map (·.2) := by rfl) : PGs X (e :: es) (gCons t u) := by
  intro pins s σ H vs us Q I r h
  obtain ⟨v, vr, e1, h⟩ := h
  subst e1
  cases r with
  | cons r rr =>
    rw [hs]
    refine assignInOrder_cons (thn (h1 pins s σ H _ _ _ I r h) fun _ s1 ⟨σ1, H1, I1, q1⟩ => ?_)
    exact h2 pins s1 σ1 H1 _ _ Q I1 rr q1
noncomputable def gTup (K : PySem.W.Frag) (n : Nat) (t : TGs) : TG := fun v σ H Q => ∃ a xs, v = .ref a ∧ SqT K H a xs ∧ xs.length = n ∧ t xs σ H Q
theorem pg_tup {es : List Expr} {k : Nat} {t : TGs} {n : Nat} (hc : X.calm = true) (h : PGs X es t)
    (hn : (assignEach es X.env).length = n := by rfl) (hst : (assignEach es X.env).findIdx? (·.1) = none := by rfl) : PG X (.Tuple es k pos) (gTup X.K n t) := by
  intro pins s σ H v u Q I r hw
  obtain ⟨a, xs, e1, hq, hl, hw⟩ := hw
  subst e1
  cases r
  obtain ⟨its, rv, ht, hz⟩ := I.tuple hq
  refine assign_Tuple_tuple (I.ok.hd hc) ht (by simp [hn, ← hl, rv.length]) hst fun h' hx => ?_
  have I1 : Inv X pins σ H { s with heap := h' } := I.kept (t' := s.toks) fun b o e => hx b o (Nat.ne_of_lt (Heap.lt_size e)) e
  exact h pins _ σ H xs _ Q I1 (by simpa using rv) hw
noncomputable def gSub (to ti : TE) (t : TSet) : TG := fun v σ H Q => to σ H fun o H1 => ti σ H1 fun i H2 => t o i v H2 fun H3 => Q σ H3
theorem pg_sub {o i : Expr} {to ti : TE} {t : TSet} (ho : PE X o to) (hi : PE X i ti) (hs : PSet X t)
    (ha : ∀ v, assign (.Subscript o i pos) X.env v = (do
      let ov ← holding [v] (eval o X.env)
      let iv ← holding [v, ov] (eval i X.env)
      standAt pos
      holding [v, ov, iv] (setItem ov iv v)
      release [v, ov, iv] []) := by intro _; rfl) : PG X (.Subscript o i pos) (gSub to ti t) := by
  intro pins s σ H v u Q I r h
  rw [ha]
  refine wpAny_bind (wpAny_holding (thn (ho pins s σ H _ I h) fun ov s1 ⟨x, H1, I1, r1, q1⟩ => ?_))
  refine wpAny_bind (wpAny_holding (thn (hi pins s1 σ H1 _ I1 q1) fun iv s2 ⟨y, H2, I2, r2, q2⟩ => ?_))
  refine wpAny_bind (wpAny_standAt (wpAny_bind (wpAny_holding (thn (hs pins s2 σ H2 x y v ov iv u _ I2 r1 r2 r q2) fun _ s3 ⟨H3, I3, q3⟩ => ?_))))
  exact wpAny_release ⟨σ, H3, I3, q3⟩
noncomputable def tAsg (te : TE) (g : TG) : TS := fun D σ H => te σ H fun x H1 => g x σ H1 D.nx
theorem ps_asg {tg e : Expr} {te : TE} {g : TG} (he : PE X e te) (hg : PG X tg g) (hs : swapsWithSole [tg] e pos.line X.env = pure false := by rfl) (hw : swappedStores [tg] e X.env = pure none := by rfl)
    (h1 : (assignEach [tg] X.env).map (·.2) = [assign tg X.env] := by rfl) : PS X (.Assign [tg] e pos) (tAsg te g) := by
  intro pins s σ H D I h
  refine wpAny_Assign_stores (thn (he pins s σ H _ I h) fun v s1 ⟨x, H1, I1, r1, q1⟩ => ?_) hs hw
  rw [h1]
  exact thn (hg pins s1 σ H1 x v _ I1 r1 q1) fun _ s2 q => q
theorem ps_set {i : Nat} {x : Str} {e : Expr} {te : TE} {pos' : Pos} (hN : X.N.Nodup) (hi : X.N[i]? = some x) (hx : Loc X.env.scope x) (he : PE X e te) (hs : swapsWith e (some (.Name x pos')) pos.line X.env = pure false := by rfl) (hf : X.fn x = true ∨ X.env.scope.names.lookup x = some .local := by first | exact .inl rfl | exact .inr rfl | assumption) :
    PS X (.Assign [.Name x pos'] e pos) (tAsg te (gName i)) := by
  intro pins s σ H D I h
  refine wpAny_Assign_Name (thn (he pins s σ H _ I h) fun v s1 ⟨y, H1, I1, r1, q1⟩ => ?_) hs
  exact store_ok I1 hN hi hx r1 (fun s2 I2 => ⟨_, H1, I2, q1⟩) hf
end
section
variable {X : Cx} {pos : Pos}
end
structure It where
  go : Nat → Hp → Prop
  yld : Nat → Hp → V → Hp → Prop
  stop : Nat → Hp → Prop
noncomputable def FpOk (X : Cx) (pins : List (Addr × Obj)) (H : Hp) (b : Addr) : Prop :=
  H b = none ∧ b ≠ X.env.locals ∧ b ∉ X.fs ∧ (b ∈ X.ex ∨ X.s₀.heap.objs.size ≤ b) ∧ (∀ x c, X.env.cells.lookup x = some c → c ≠ b) ∧ ∀ p ∈ X.pn ++ pins, p.1 ≠ b
theorem Inv.fpOk {X : Cx} {pins : List (Addr × Obj)} {σ : St} {H H' : Hp} {s : Shared} {b : Addr} (I : Inv X pins σ H s) (hb : s.heap.objs.size ≤ b) (hn : H' b = none) : FpOk X pins H' b := by
  refine ⟨hn, Nat.ne_of_gt (Nat.lt_of_lt_of_le I.lt hb), I.nofs hb, .inr (Nat.le_trans I.sz hb), fun x c e z => ?_, fun p hp z => ?_⟩
  · obtain ⟨v, q⟩ := I.cell x c e
    exact absurd (Nat.lt_of_lt_of_le q.lt (by rw [z]; exact hb)) (Nat.lt_irrefl _)
  · exact absurd (Nat.lt_of_lt_of_le (Heap.lt_size (I.pin p hp).1) (by rw [z]; exact hb)) (Nat.lt_irrefl _)
structure Turn (P : Program) (w : World) (K : PySem.W.Frag) (tg : Expr) (J : It) (fp : List Addr) (it : Addr) (tn : Nat → Heap → Prop) : Prop where
  mem : it ∈ fp
  obj : ∀ i h, tn i h → ∀ b ∈ fp, ∃ o, h.get? b = some o ∧ ∀ v, o.data ≠ .cell v
  keep : ∀ i h h', tn i h → (∀ b ∈ fp, ∀ o, h.get? b = some o → h'.get? b = some o) → tn i h'
  item : ∀ (X : Cx), X.prog = P → X.w = w → X.K = K → X.calm = true → ∀ (i : Nat) (pins : List (Addr × Obj)) (s : Shared) (σ : St) (H : Hp) (E : Value → Shared → Prop), Inv X pins σ H s → (∀ b ∈ fp, FpOk X pins H b) → tn i s.heap → J.go i H →
    wpAny (model P w) X.A (pyNext (.ref it)) (fun r s1 => ∃ u, r = some u ∧
      wpAny (model P w) X.A (letOwnedTupleGo tg (.ref it) u) (fun _ s2 => ∃ x H', Inv X pins σ H' s2 ∧ RelV x u ∧ J.yld i H x H' ∧ tn (i + 1) s2.heap ∧ ∀ b ∈ fp, H' b = none) E s1) E s
  done : ∀ (X : Cx), X.prog = P → X.w = w → X.K = K → X.calm = true → ∀ (i : Nat) (pins : List (Addr × Obj)) (s : Shared) (σ : St) (H : Hp) (E : Value → Shared → Prop), Inv X pins σ H s → (∀ b ∈ fp, FpOk X pins H b) → tn i s.heap → J.stop i H →
    wpAny (model P w) X.A (pyNext (.ref it)) (fun r s1 => r = none ∧ Inv X pins σ H s1) E s
  self : ∀ (A : Around) (i : Nat) (s : Shared) (Q : Value → Shared → Prop) (E : Value → Shared → Prop), tn i s.heap → Q (.ref it) s → wpAny (model P w) A (pyIter (.ref it)) Q E s
noncomputable abbrev TI := St → Hp → (It → Hp → Prop) → Prop
noncomputable def PIE (X : Cx) (pins : List (Addr × Obj)) (σ : St) (tg : Expr) (R : It → Hp → Prop) (itv : Value) (s2 : Shared) : Prop :=
  ∃ (it : Addr) (fp : List Addr) (tn : Nat → Heap → Prop) (J : It) (H' : Hp), itv = .ref it ∧ Inv X pins σ H' s2 ∧ Turn X.prog X.w X.K tg J fp it tn ∧ tn 0 s2.heap ∧ (∀ b ∈ fp, FpOk X pins H' b) ∧ R J H'
noncomputable def PI (X : Cx) (tg iter : Expr) (wi : TI) : Prop :=
  ∀ (pins : List (Addr × Obj)) (s : Shared) (σ : St) (H : Hp) (R : It → Hp → Prop), Inv X pins σ H s → wi σ H R →
    wpAny (model X.prog X.w) X.A (eval iter X.env) (fun v s1 => wpAny (model X.prog X.w) X.A (pyIter v) (PIE X pins σ tg R) X.xe s1) X.xe s
theorem go_of {M : Model} {A : Around} {E : Value → Shared → Prop} {s : Shared} {tg : Expr} {it : Addr} {u : Value} {o : Obj} {n : String} {vs : Array Value} {Q : Unit → Shared → Prop} (ho : s.heap.get? it = some o) (hc : o.cls = .type n) (hd : o.data = .fields vs)
    (hn : ["enumerate", "zip", "dict_itemiterator", "dict_reverseitemiterator", "odict_iterator", "itertools.zip_longest", "itertools.pairwise"].contains n = false) (hQ : Q () s) : wpAny M A (letOwnedTupleGo tg (.ref it) u) Q E s := by
  unfold letOwnedTupleGo
  cases tg <;> first
    | exact wpAny_pure hQ
    | (cases u <;> first
        | exact wpAny_pure hQ
        | (refine wpAny_bind (wpAny_load ho ?_)
           rw [hc, hd]
           show wpAny M A (if (["enumerate", "zip", "dict_itemiterator", "dict_reverseitemiterator", "odict_iterator", "itertools.zip_longest", "itertools.pairwise"].contains n && vs[0]? == some (rawInt _)) = true then _ else _) Q E s
           rw [if_neg (by intro h; rw [hn, Bool.false_and] at h; cases h)]
           exact wpAny_pure hQ))
noncomputable def Itl (K : PySem.W.Frag) (a : Addr) : It :=
  ⟨fun i H => ∃ xs x, SqL K H a xs ∧ xs[i]? = some x, fun i H x H' => H' = H ∧ ∀ xs, SqL K H a xs → xs[i]? = some x, fun i H => ∃ xs, SqL K H a xs ∧ xs.length ≤ i⟩
noncomputable def Itr (lo : Int) (n : Nat) : It := ⟨fun i _ => i < n, fun i H x H' => H' = H ∧ x = .int (lo + i), fun i _ => n ≤ i⟩
theorem turn_list {P : Program} {w : World} {K : PySem.W.Frag} {tg : Expr} (a it : Addr) : Turn P w K tg (Itl K a) [it] it (fun i h => h.IsListIter it a i) where
  mem := by simp
  obj := fun i h st b hb => by
    have e : b = it := by simpa using hb
    subst e
    obtain ⟨o, e, c, d⟩ := st
    exact ⟨o, e, fun v z => by rw [d] at z; cases z⟩
  keep := fun i h h' st k => st.at fun o e => k it (by simp) o e
  item := by
    intro X hP hw hK hc i pins s σ H E I hf st hg
    subst hP hw hK
    obtain ⟨xs, x, hq, hx⟩ := hg
    obtain ⟨its, rv, p, hz⟩ := I.list hq
    obtain ⟨u, hu, ru⟩ := rv.get hx
    obtain ⟨f0, f1, f2, f3, f4, f5⟩ := hf it (by simp)
    refine wpAny_pyNext_list_item st p.isList (x := u) (by simpa using hu) fun h' st' sb => ?_
    have I1 : Inv X pins σ H { s with heap := h' } := I.turned (t' := s.toks) (fun b o hb e => (sb.2 b hb).trans e) f0 f1 f3 f4 f5
    obtain ⟨o, e, c, d⟩ := id st'
    exact ⟨u, rfl, go_of (s := { s with heap := h' }) e c d (by decide) ⟨x, H, I1, ru, ⟨rfl, fun ys hy => by rw [I.list_inj hy hq]; exact hx⟩, st', fun b hb => (hf b hb).1⟩⟩
  done := by
    intro X hP hw hK hc i pins s σ H E I hf st hg
    subst hP hw hK
    obtain ⟨xs, hq, hx⟩ := hg
    obtain ⟨its, rv, p, hz⟩ := I.list hq
    obtain ⟨f0, f1, f2, f3, f4, f5⟩ := hf it (by simp)
    have hl := rv.length
    exact wpAny_pyNext_list_end (I.ok.hd hc) st p.isList (by simp; omega) fun h' eb => ⟨rfl, I.turned (t' := s.toks) (fun b o hb e => eb b o hb e) f0 f1 f3 f4 f5⟩
  self := fun _ _ _ _ _ st h => wpAny_pyIter_listiter st h
theorem turn_range {P : Program} {w : World} {K : PySem.W.Frag} {tg : Expr} (it : Addr) (lo : Int) (n : Nat) : Turn P w K tg (Itr lo n) [it] it (fun i h => IsRangeIter h it (lo + (i : Nat) * 1) ((n : Int) - (i : Nat)) 1) where
  mem := by simp
  obj := fun i h st b hb => by
    have e : b = it := by simpa using hb
    subst e
    exact ⟨_, st, fun v z => by
      have z' : Data.fields _ = Data.cell v := z
      cases z'⟩
  keep := fun i h h' st k => k it (by simp) _ st
  item := by
    intro X hP hw hK hc i pins s σ H E I hf st hg
    subst hP hw hK
    obtain ⟨f0, f1, f2, f3, f4, f5⟩ := hf it (by simp)
    have W := Walks.range (prog := X.prog) (w := X.w) (I.ok.hd hc) it lo 1 n
    refine W.item i s _ _ hg st fun v h' tk hv st' kk => ?_
    obtain ⟨t, rfl⟩ := hv
    have I1 : Inv X pins σ H { s with heap := h', toks := tk } := I.turned (fun b o hb e => kk b o (by simpa using hb) e) f0 f1 f3 f4 f5
    refine ⟨_, rfl, go_of (s := { s with heap := h', toks := tk }) (n := "range_iterator") st' rfl rfl (by decide) ⟨.int (lo + i), H, I1, ⟨t, ?_⟩, ⟨rfl, rfl⟩, st', fun b hb => (hf b hb).1⟩⟩
    rw [Int.mul_one]
  done := by
    intro X hP hw hK hc i pins s σ H E I hf st hg
    subst hP hw hK
    obtain ⟨f0, f1, f2, f3, f4, f5⟩ := hf it (by simp)
    exact wpAny_pyNext_range_end (I.ok.hd hc) st (by have : n ≤ i := hg; omega) fun h' eb => ⟨rfl, I.turned (t' := s.toks) (fun b o hb e => eb b o hb e) f0 f1 f3 f4 f5⟩
  self := fun _ _ _ _ _ st h => wpAny_pyIter_rangeiter st h
end L2
namespace L2
open PySem PySem.Spec PyProof.Rows
section
variable {X : Cx} {tg : Expr}
theorem range_it {pins : List (Addr × Obj)} {σ : St} {H : Hp} {s : Shared} {R : It → Hp → Prop} {E : Value → Shared → Prop} {lo hi : Int} {t u v : Tok} {tk : Nat} (I : Inv X pins σ H s) (h1 : -(2 ^ 62) ≤ lo) (h2 : lo < 2 ^ 62) (h3 : -(2 ^ 62) ≤ hi) (h4 : hi < 2 ^ 62)
    (q : R (Itr lo (hi - lo).toNat) H) : wpAny (model X.prog X.w) X.A (pyIter (.ref s.heap.objs.size)) (PIE X pins σ tg R) E { s with heap := s.heap.push { cls := .type "range", data := .fields #[.int lo t, .int hi u, .int 1 v] }, toks := tk } := by
  refine wpAny_pyIter_range (IsRange.new ..) (small_one h1 h2 h3 h4) ?_
  have I1 : Inv X pins σ H { s with heap := s.heap.push { cls := .type "range", data := .fields #[.int lo t, .int hi u, .int 1 v] }, toks := tk } := I.kept fun b o e => Heap.get?_push_of_some _ e
  refine ⟨(s.heap.push { cls := .type "range", data := .fields #[.int lo t, .int hi u, .int 1 v] }).objs.size, [(s.heap.push { cls := .type "range", data := .fields #[.int lo t, .int hi u, .int 1 v] }).objs.size], _, _, H, rfl,
    I1.kept (t' := tk) fun b o e => Heap.get?_push_of_some _ e, turn_range _ lo (hi - lo).toNat, ?_, fun b hb => ?_, q⟩
  · have e1 : lo + ((0 : Nat) : Int) * 1 = lo := by simp
    have e2 : (((hi - lo).toNat : Nat) : Int) - ((0 : Nat) : Int) = Builtin.Range.rangeSize lo hi 1 := by rw [rangeSize_one]; split <;> omega
    show IsRangeIter _ _ (lo + ((0 : Nat) : Int) * 1) ((((hi - lo).toNat : Nat) : Int) - ((0 : Nat) : Int)) 1
    rw [e1, e2]
    exact Heap.get?_push_size _ rfl
  · have e : b = (s.heap.push { cls := .type "range", data := .fields #[.int lo t, .int hi u, .int 1 v] }).objs.size := by simpa using hb
    subst e
    exact I1.fpOk (Nat.le_refl _) (I1.hok.fresh (Nat.le_refl _))
noncomputable def iRng1 (ta : TA) : TI := fun σ H R => ta σ H fun vs H1 => ∃ j : Int, vs = [.int j] ∧ -(2 ^ 62) ≤ j ∧ j < 2 ^ 62 ∧ R (Itr 0 j.toNat) H1
noncomputable def iRng2 (ta : TA) : TI := fun σ H R => ta σ H fun vs H1 => ∃ i j : Int, vs = [.int i, .int j] ∧ (-(2 ^ 62) ≤ i ∧ i < 2 ^ 62 ∧ -(2 ^ 62) ≤ j ∧ j < 2 ^ 62) ∧ R (Itr i (j - i).toNat) H1
theorem pi_range1 {a : Expr} {ta : TA} {p pos : Pos} (hg : Gl X "range") (hm : X.mg "range" = none) (ha : PA X [a] ta) (hs : starEach [a] X.env = [(false, eval a X.env)] := by rfl) : PI X tg (.Call (.Name "range" p) [a] [] pos) (iRng1 ta) := by
  intro pins s σ H R I h
  refine Call_ (ld_blt I hg hm boot_range (PyProof.Rows.callWith_type1 (thn (ha pos pins s σ H _ I h) fun us s1 ⟨vs, H1, I1, r1, q1⟩ => ?_) hs rfl))
  obtain ⟨j, e, q1, q2, q⟩ := q1
  subst e
  cases r1 with
  | cons r rr =>
    cases rr
    obtain ⟨t, rfl⟩ := r
    exact call_range_1 (range_it I1 (by omega) (by omega) q1 q2 (by simpa using q))
theorem pi_range2 {a b : Expr} {ta : TA} {p pos : Pos} (hg : Gl X "range") (hm : X.mg "range" = none) (ha : PA X [a, b] ta) (hs : starEach [a, b] X.env = [(false, eval a X.env), (false, eval b X.env)] := by rfl) (hs2 : starEach [b] X.env = [(false, eval b X.env)] := by rfl) :
    PI X tg (.Call (.Name "range" p) [a, b] [] pos) (iRng2 ta) := by
  intro pins s σ H R I h
  refine Call_ (ld_blt I hg hm boot_range (PyProof.Rows.callWith_type1 (thn (ha pos pins s σ H _ I h) fun us s1 ⟨vs, H1, I1, r1, q1⟩ => ?_) (by rw [hs, hs2]) (by rw [hs2]; rfl)))
  obtain ⟨i, j, e, ⟨q1, q2, q3, q4⟩, q⟩ := q1
  subst e
  cases r1 with
  | cons r rr =>
    cases rr with
    | cons r' rr =>
      cases rr
      obtain ⟨t, rfl⟩ := r
      obtain ⟨t', rfl⟩ := r'
      exact call_range_2 (range_it I1 q1 q2 q3 q4 q)
noncomputable def tFor (wi : TI) (g : TG) (tb : TS) : TS := fun D σ H => wi σ H fun J H1 => ∃ W : Nat → Nat → St → Hp → Prop, (∃ m, W 0 m σ H1) ∧ ∀ i m σ H, W i m σ H →
  (J.stop i H ∧ D.nx σ H) ∨ (J.go i H ∧ ∃ N : St → Hp → Prop, (∀ σ' H', N σ' H' → ∃ m', m' < m ∧ W (i + 1) m' σ' H') ∧ ∀ x H', J.yld i H x H' → g x σ H' fun σ2 H2 => tb { D with nx := N, ct := N, bk := D.nx } σ2 H2)
noncomputable def pinsAt (fp : List Addr) (h : Heap) : List (Addr × Obj) := fp.filterMap fun b => (h.get? b).map fun o => (b, o)
theorem mem_pinsAt {fp : List Addr} {h : Heap} {b : Addr} {o : Obj} (hb : b ∈ fp) (e : h.get? b = some o) : (b, o) ∈ pinsAt fp h := List.mem_filterMap.mpr ⟨b, hb, by rw [e]; rfl⟩
theorem of_pinsAt {fp : List Addr} {h : Heap} {p : Addr × Obj} (hp : p ∈ pinsAt fp h) : p.1 ∈ fp ∧ h.get? p.1 = some p.2 := by
  obtain ⟨b, hb, e⟩ := List.mem_filterMap.mp hp
  cases q : h.get? b with
  | none => rw [q] at e; cases e
  | some o =>
    rw [q] at e
    have e' : (b, o) = p := Option.some.inj e
    subst e'
    exact ⟨hb, q⟩
theorem Inv.pinned {pins : List (Addr × Obj)} {σ : St} {H : Hp} {s : Shared} {fp : List Addr} (I : Inv X pins σ H s) (hf : ∀ b ∈ fp, FpOk X pins H b) (ho : ∀ b ∈ fp, ∃ o, s.heap.get? b = some o ∧ ∀ v, o.data ≠ .cell v) : Inv X (pins ++ pinsAt fp s.heap) σ H s :=
  I.pins_of fun p hp => (List.mem_append.mp hp).elim (fun z => I.pin p (List.mem_append_right _ z)) fun z => by
    obtain ⟨hb, e⟩ := of_pinsAt z
    obtain ⟨f0, f1, f2, _⟩ := hf p.1 hb
    obtain ⟨o, e', d⟩ := ho p.1 hb
    rw [e] at e'; cases e'
    exact ⟨e, f0, f1, f2, d⟩
theorem Inv.unpinned {pins pl : List (Addr × Obj)} {σ : St} {H : Hp} {s : Shared} (I : Inv X (pins ++ pl) σ H s) : Inv X pins σ H s := I.pins_of fun p hp => I.pin p (List.mem_append_right _ (List.mem_append_left _ hp))
theorem ps_for {iter : Expr} {body : List Stmt} {wi : TI} {g : TG} {tb : TS} {pos : Pos} (hp : PassesOwn (model X.prog X.w) X.A X.env X.xe) (hc : X.calm = true) (hi : PI X tg iter wi) (hg : PG X tg g) (hb : PSs X body tb)
    (hs : ∀ x, foldedSetIterable iter X.env x = pure x := by intro _; rfl) : PS X (.For tg iter body [] pos) (tFor wi g tb) := by
  intro pins s σ H D I h
  refine wpAny_For (thn (hi pins s σ H _ I h) fun v s1 h1 => thn h1 fun itv s2 h2 => ?_) hs
  obtain ⟨it, fp, tn, J, H2, e, I2, T, st2, f2, W, ⟨m0, w0⟩, turn⟩ := h2
  subst e
  -- what stays true of the iterator's objects through the loop
  have stat : ∀ {H' : Hp}, (∀ b ∈ fp, H' b = none) → ∀ b ∈ fp, FpOk X pins H' b := fun hn b hb => ⟨hn b hb, (f2 b hb).2⟩
  refine codeAny_forLoop_any (fun n s' => ∃ i σ' H', Inv X pins σ' H' s' ∧ tn i s'.heap ∧ (∀ b ∈ fp, H' b = none) ∧ W i n σ' H') ?_ m0 ⟨0, σ, H2, I2, st2, fun b hb => (f2 b hb).1, w0⟩
  rintro n s3 ⟨i, σ3, H3, I3, st3, fr3, w3⟩
  rcases turn i n σ3 H3 w3 with ⟨stop, qn⟩ | ⟨go, N, hN, step⟩
  · refine wpAny_passesOwn hp (thn (T.done X rfl rfl rfl hc i pins s3 σ3 H3 X.xe I3 (stat fr3) st3 stop) fun r s4 ⟨hr, I4⟩ => ?_)
    subst hr
    exact wpAny_execs_nil ⟨σ3, H3, I4, qn⟩
  · refine wpAny_passesOwn hp (thn (T.item X rfl rfl rfl hc i pins s3 σ3 H3 X.xe I3 (stat fr3) st3 go) fun r s4 ⟨u, hr, h4⟩ => ?_)
    subst hr
    refine wpAny_passesOwn hp (thn h4 fun _ s5 ⟨x, H5, I5, r5, y5, st5, fr5⟩ => ?_)
    have I5' := I5.pinned (stat fr5) (T.obj _ _ st5)
    refine wpAny_passesOwn hp (thn (hg _ s5 σ3 H5 x u _ I5' r5 (step x H5 y5)) fun _ s6 ⟨σ6, H6, I6, q6⟩ => ?_)
    refine wpAny_passesOwn hp (thn (hb _ s6 σ6 H6 _ I6 q6) fun f s7 q7 => ?_)
    have again : ∀ {σ7 : St} {H7 : Hp}, Inv X (pins ++ pinsAt fp s5.heap) σ7 H7 s7 → N σ7 H7 → ∃ m, m < n ∧ ∃ i σ' H', Inv X pins σ' H' s7 ∧ tn i s7.heap ∧ (∀ b ∈ fp, H' b = none) ∧ W i m σ' H' := fun {σ7 H7} I7 n7 => by
      obtain ⟨m', hm, w7⟩ := hN σ7 H7 n7
      refine ⟨m', hm, i + 1, σ7, H7, I7.unpinned, T.keep _ _ _ st5 fun b hb o e => (I7.pin (b, o) (List.mem_append_right _ (List.mem_append_right _ (mem_pinsAt hb e)))).1, fun b hb => ?_, w7⟩
      obtain ⟨o, e, d⟩ := T.obj _ _ st5 b hb
      exact (I7.pin (b, o) (List.mem_append_right _ (List.mem_append_right _ (mem_pinsAt hb e)))).2.1
    cases f with
    | next => obtain ⟨σ7, H7, I7, n7⟩ := q7; exact again I7 n7
    | cont => obtain ⟨σ7, H7, I7, n7⟩ := q7; exact again I7 n7
    | brk => obtain ⟨σ7, H7, I7, q7⟩ := q7; exact ⟨σ7, H7, I7.unpinned, q7⟩
    | ret v => obtain ⟨x7, σ7, H7, I7, r7, q7⟩ := q7; exact ⟨x7, σ7, H7, I7.unpinned, r7, q7⟩
end
end L2
namespace L2
open PySem PySem.Spec PyProof.Rows
noncomputable abbrev R2 := V → V → Hp → VK → Prop
noncomputable def OpR (X : Cx) (f : Value → Value → Sem Value) (r : R2) : Prop :=
  ∀ (pins : List (Addr × Obj)) (s : Shared) (σ : St) (H : Hp) (x y : V) (v u : Value) (Q : VK), Inv X pins σ H s → RelV x v → RelV y u → r x y H Q →
    wpAny (model X.prog X.w) X.A (f v u) (EP X pins σ Q) X.xe s
noncomputable def CallR (X : Cx) (f : Value) (r : List V → Hp → VK → Prop) : Prop :=
  ∀ (pins : List (Addr × Obj)) (s : Shared) (σ : St) (H : Hp) (xs : List V) (us : List Value) (Q : VK), Inv X pins σ H s → Vals xs us → r xs H Q →
    wpAny (model X.prog X.w) X.A (call f us) (EP X pins σ Q) X.xe s
noncomputable def TruR (X : Cx) (r : V → Hp → (Bool → Hp → Prop) → Prop) : Prop :=
  ∀ (pins : List (Addr × Obj)) (s : Shared) (σ : St) (H : Hp) (x : V) (v : Value) (Q : Bool → Hp → Prop), Inv X pins σ H s → RelV x v → r x H Q →
    wpAny (model X.prog X.w) X.A (truthy v) (TP X pins σ Q) X.xe s
noncomputable def tOp (r : R2) (ta tb : TE) : TE := fun σ H Q => ta σ H fun x H1 => tb σ H1 fun y H2 => r x y H2 Q
noncomputable def rI (C : Int → Int → Prop) (g : Int → Int → V) : R2 := fun x y H Q => ∃ i j, x = .int i ∧ y = .int j ∧ C i j ∧ Q (g i j) H
noncomputable def rI0 (g : Int → Int → V) : R2 := fun x y H Q => ∃ i j, x = .int i ∧ y = .int j ∧ Q (g i j) H
section
variable {X : Cx} {a b c : Expr} {ta tb tc : TE} {pos : Pos}
theorem binT (ha : PE X a ta) (hb : PE X b tb) {pins : List (Addr × Obj)} {s : Shared} {σ : St} {H : Hp} {R : V → V → Hp → Prop} (I : Inv X pins σ H s)
    (h : ta σ H fun x H1 => tb σ H1 fun y H2 => R x y H2) {Q : Value → Shared → Prop} {f : Value → Value → Sem Value}
    (hf : ∀ v u s2 x y H2, Inv X pins σ H2 s2 → RelV x v → RelV y u → R x y H2 → wpAny (model X.prog X.w) X.A (f v u) Q X.xe s2) :
    wpAny (model X.prog X.w) X.A (eval a X.env) (fun v s₁ => wpAny (model X.prog X.w) X.A (eval b X.env) (fun u s₂ => wpAny (model X.prog X.w) X.A (f v u) Q X.xe s₂) X.xe s₁) X.xe s := by
  refine thn (ha pins s σ H _ I h) fun v s1 ⟨x, H1, I1, r1, q1⟩ => ?_
  refine thn (hb pins s1 σ H1 _ I1 q1) fun u s2 ⟨y, H2, I2, r2, q2⟩ => ?_
  exact hf v u s2 x y H2 I2 r1 r2 q2
theorem pe_op {op : Operator} {r : R2} (ho : OpR X (binaryOp op) r) (ha : PE X a ta) (hb : PE X b tb) : PE X (.BinOp a op b pos) (tOp r ta tb) := by
  intro pins s σ H Q I h
  exact wpAny_BinOp (binT ha hb I h fun v u s2 x y H2 I2 rx ry q => ho pins s2 σ H2 x y v u Q I2 rx ry q)
theorem opI {f : Value → Value → Sem Value} {C : Int → Int → Prop} {g : Int → Int → Int}
    (rule : ∀ (i j : Int) (t u : Tok) (s : Shared) (Q : Value → Shared → Prop) (E : Value → Shared → Prop), C i j → Q (.int (g i j) s.toks) { s with toks := s.toks + 1 } → wpAny (model X.prog X.w) X.A (f (.int i t) (.int j u)) Q E s) :
    OpR X f (rI C fun i j => .int (g i j)) := by
  intro pins s σ H x y v u Q I rx ry h
  obtain ⟨i, j, rfl, rfl, hc, q⟩ := h
  obtain ⟨t, rfl⟩ := rx
  obtain ⟨t', rfl⟩ := ry
  exact rule i j t t' s _ _ hc ⟨.int (g i j), H, I.tok _, ⟨_, rfl⟩, q⟩
theorem opI0 {f : Value → Value → Sem Value} {g : Int → Int → Int}
    (rule : ∀ (i j : Int) (t u : Tok) (s : Shared) (Q : Value → Shared → Prop) (E : Value → Shared → Prop), Q (.int (g i j) s.toks) { s with toks := s.toks + 1 } → wpAny (model X.prog X.w) X.A (f (.int i t) (.int j u)) Q E s) :
    OpR X f (rI0 fun i j => .int (g i j)) := by
  intro pins s σ H x y v u Q I rx ry h
  obtain ⟨i, j, rfl, rfl, q⟩ := h
  obtain ⟨t, rfl⟩ := rx
  obtain ⟨t', rfl⟩ := ry
  exact rule i j t t' s _ _ ⟨.int (g i j), H, I.tok _, ⟨_, rfl⟩, q⟩
noncomputable def CDiv (i j : Int) : Prop := 0 < j ∧ j < 1073741824
noncomputable def CMul (i j : Int) : Prop := (-(2 ^ 64) < i ∧ i < 2 ^ 64) ∨ (-(2 ^ 64) < j ∧ j < 2 ^ 64)
theorem CMul.ok {i j : Int} (h : CMul i j) : IntMulOk i j := by
  rcases h with ⟨h1, h2⟩ | ⟨h1, h2⟩
  · exact .of_left (intBits_le_64 h1 h2)
  · exact .of_right (intBits_le_64 h1 h2)
theorem op_add : OpR X (binaryOp .Add) (rI0 fun i j => .int (i + j)) := opI0 fun _ _ _ _ _ _ _ q => add_int q
theorem op_sub : OpR X (binaryOp .Sub) (rI0 fun i j => .int (i - j)) := opI0 fun _ _ _ _ _ _ _ q => sub_int q
theorem op_mul : OpR X (binaryOp .Mult) (rI CMul fun i j => .int (i * j)) := opI fun _ _ _ _ _ _ _ hc q => mul_int q hc.ok
theorem op_fdiv : OpR X (binaryOp .FloorDiv) (rI CDiv fun i j => .int (i / j)) := opI fun i j _ _ _ _ _ hc q => by
  have h1 : (0 : Int) < j := hc.1
  have h2 : j < 1073741824 := hc.2
  exact floordiv_int (by omega) (by rw [Int.fdiv_eq_ediv_of_nonneg i (by omega)]; exact q) (.inl (PyProof.noPylong_small (by omega)))
theorem op_mod : OpR X (binaryOp .Mod) (rI (fun _ j => 0 < j) fun i j => .int (i % j)) := opI fun i j _ _ _ _ _ hc q => by
  have h1 : (0 : Int) < j := hc
  exact mod_int' (by omega) (by rw [Int.fmod_eq_emod_of_nonneg i (by omega)]; exact q)
end
section
variable {X : Cx} {a b c : Expr} {ta tb tc : TE} {pos : Pos}
theorem OpR.or {f : Value → Value → Sem Value} {r r' : R2} (h : OpR X f r) (h' : OpR X f r') : OpR X f (fun x y H Q => r x y H Q ∨ r' x y H Q) := by
  intro pins s σ H x y v u Q I rx ry q
  rcases q with q | q
  · exact h pins s σ H x y v u Q I rx ry q
  · exact h' pins s σ H x y v u Q I rx ry q
theorem pe_cmpR {op : CmpOp} {r : R2} (ho : OpR X (compareOp op) r) (ha : PE X a ta) (hb : PE X b tb) (hm : behindInMarks op b = false) : PE X (.Compare a [op] [b] pos) (tOp r ta tb) := by
  intro pins s σ H Q I h
  exact wpAny_Compare1 (binT ha hb I h fun v u s2 x y H2 I2 rx ry q => ho pins s2 σ H2 x y v u Q I2 rx ry q) hm
noncomputable def tTest (t : TE) : TT := fun σ H Q => t σ H fun x H' => ∃ k, x = .bl k ∧ Q k H'
theorem pt_cmpR {op : CmpOp} {r : R2} (ho : OpR X (compareOp op) r) (ha : PE X a ta) (hb : PE X b tb) (hm : behindInMarks op b = false) : PT X (.Compare a [op] [b] pos) (tTest (tOp r ta tb)) := by
  intro pins s σ H Q I h
  refine wpAny_isTrue_Compare1 (thn (ha pins s σ H _ I h) fun v s1 ⟨x, H1, I1, r1, q1⟩ => thn (hb pins s1 σ H1 _ I1 q1) fun u s2 ⟨y, H2, I2, r2, q2⟩ =>
    thn (ho pins s2 σ H2 x y v u _ I2 r1 r2 q2) fun c s3 ⟨z, H3, I3, r3, k, e, q3⟩ => ?_) hm
  subst e
  cases r3
  exact wpAny_truthy_bool ⟨H3, I3, q3⟩
noncomputable def tChain (r r' : R2) (ta tb tc : TE) : TE := fun σ H Q => ta σ H fun x H1 => tb σ H1 fun y H2 => r x y H2 fun z H3 => ∃ k, z = .bl k ∧
  (if k = true then tc σ H3 fun w' H4 => r' y w' H4 Q else Q (.bl false) H3)
theorem pe_chain {op op' : CmpOp} {r r' : R2} (ho : OpR X (compareOp op) r) (ho' : OpR X (compareOp op') r') (ha : PE X a ta) (hb : PE X b tb) (hc : PE X c tc)
    (hm : lastMarks [op, op'] [b, c] = false := by with_unfolding_all rfl) : PE X (.Compare a [op, op'] [b, c] pos) (tChain r r' ta tb tc) := by
  intro pins s σ H Q I h
  refine Compare_chain (thn (ha pins s σ H _ I h) fun v s1 ⟨x, H1, I1, r1, q1⟩ => chain_link (thn (hb pins s1 σ H1 _ I1 q1) fun u s2 ⟨y, H2, I2, r2, q2⟩ =>
    thn (ho pins s2 σ H2 x y v u _ I2 r1 r2 q2) fun d s3 ⟨z, H3, I3, r3, k, e, q3⟩ => ?_)) hm
  subst e
  cases r3
  refine wpAny_truthy_bool ?_
  cases k with
  | false => exact ite_ff ⟨.bl false, H3, I3, rfl, q3⟩
  | true => exact ite_tt (chain_last (thn (hc pins s3 σ H3 _ I3 q3) fun w' s4 ⟨z', H4, I4, r4, q4⟩ => ho' pins s4 σ H4 y z' u w' Q I4 r2 r4 q4))
theorem pt_chain {op op' : CmpOp} {r r' : R2} (ho : OpR X (compareOp op) r) (ho' : OpR X (compareOp op') r') (ha : PE X a ta) (hb : PE X b tb) (hc : PE X c tc)
    (hm : lastMarks [op, op'] [b, c] = false := by with_unfolding_all rfl) : PT X (.Compare a [op, op'] [b, c] pos) (tTest (tChain r r' ta tb tc)) := by
  intro pins s σ H Q I h
  refine isTrue_chain (thn (ha pins s σ H _ I h) fun v s1 ⟨x, H1, I1, r1, q1⟩ => test_link (thn (hb pins s1 σ H1 _ I1 q1) fun u s2 ⟨y, H2, I2, r2, q2⟩ =>
    thn (ho pins s2 σ H2 x y v u _ I2 r1 r2 q2) fun d s3 ⟨z, H3, I3, r3, k, e, q3⟩ => ?_)) hm
  subst e
  cases r3
  refine wpAny_truthy_bool ?_
  cases k with
  | false =>
    obtain ⟨k', e', q'⟩ := q3
    cases e'
    exact ite_ff ⟨H3, I3, q'⟩
  | true =>
    refine ite_tt (test_last (thn (hc pins s3 σ H3 _ I3 q3) fun w' s4 ⟨z', H4, I4, r4, q4⟩ => thn (ho' pins s4 σ H4 y z' u w' _ I4 r2 r4 q4) fun d' s5 ⟨z2, H5, I5, r5, k2, e2, q5⟩ => ?_))
    subst e2
    cases r5
    exact wpAny_truthy_bool ⟨H5, I5, q5⟩
noncomputable def TruV (K : PySem.W.Frag) (x : V) (H : Hp) (k : Bool) : Prop :=
  match x with
  | .non => k = false
  | .bl b => k = b
  | .int i => k = (i != 0)
  | .str y => y.length ≤ sizeLine ∧ k = ((y.length : Int) != 0)
  | .byt y => y.size ≤ sizeLine ∧ k = ((y.size : Int) != 0)
  | .ref p => (∃ xs, SqL K H p xs ∧ k = !xs.isEmpty) ∨ (∃ xs, SqT K H p xs ∧ k = !xs.isEmpty) ∨ ∃ kvs, H p = some (.dK kvs) ∧ k = !kvs.isEmpty
  | _ => False
theorem isEmpty_kv {κ : Type} {kvs : List (κ × V)} {vs : List (κ × Value)} (r : KV kvs vs) : (!vs.isEmpty) = !kvs.isEmpty := by
  cases r <;> rfl
theorem isEmpty_of {xs : List V} {its : List Value} (r : Vals xs its) : (!its.toArray.isEmpty) = !xs.isEmpty := by
  cases r <;> simp
theorem line63 : (sizeLine : Nat) < 2 ^ 63 := by rw [sizeLine_eq]; decide
theorem tru_ok : TruR X (fun x H Q => ∃ k, TruV X.K x H k ∧ Q k H) := by
  intro pins s σ H x v Q I rx h
  obtain ⟨k, e, q⟩ := h
  have hl := line63
  have hs : sizeLine = 16777216 := sizeLine_eq
  cases x with
  | non =>
    cases rx
    have e' : k = false := e
    subst e'
    exact truthy_none ⟨H, I, q⟩
  | bl b =>
    cases rx
    have e' : k = b := e
    subst e'
    exact wpAny_truthy_bool ⟨H, I, q⟩
  | int i =>
    obtain ⟨t, rfl⟩ := rx
    have e' : k = (i != 0) := e
    subst e'
    exact PySem.P.truthy_int ⟨H, I, q⟩
  | str y =>
    obtain ⟨t, rfl⟩ := rx
    obtain ⟨hy, e'⟩ : y.length ≤ sizeLine ∧ k = ((y.length : Int) != 0) := e
    subst e'
    exact PySem.P.truthy_str (by omega) ⟨H, I.tok _, q⟩
  | byt y =>
    obtain ⟨t, rfl⟩ := rx
    obtain ⟨hy, e'⟩ : y.size ≤ sizeLine ∧ k = ((y.size : Int) != 0) := e
    subst e'
    exact PySem.W.truthy_bytes (by omega) ⟨H, I.tok _, q⟩
  | ref p =>
    cases rx
    have e' : (∃ xs, SqL X.K H p xs ∧ k = !xs.isEmpty) ∨ (∃ xs, SqT X.K H p xs ∧ k = !xs.isEmpty) ∨ ∃ kvs, H p = some (.dK kvs) ∧ k = !kvs.isEmpty := e
    rcases e' with ⟨xs, hx, e'⟩ | ⟨xs, hx, e'⟩ | ⟨kvs, hx, e'⟩
    · subst e'
      obtain ⟨its, r, pl, hz⟩ := I.list hx
      have hlen := r.length
      exact wpAny_truthy_list pl.isList (by simp only [List.size_toArray]; omega) ⟨H, I.tok _, by rw [isEmpty_of r]; exact q⟩
    · subst e'
      obtain ⟨its, r, pl, hz⟩ := I.tuple hx
      have hlen := r.length
      exact truthy_tuple pl (by simp only [List.size_toArray]; omega) ⟨H, I.tok _, by rw [isEmpty_of r]; exact q⟩
    · subst e'
      obtain ⟨hz, hS, vs, r, m⟩ : kvs.length ≤ sizeLine ∧ (p == sysModules) = false ∧ ∃ vs, KV kvs vs ∧ s.heap.DictOf (mixKind X.prog X.w) p vs := I.hok p _ hx
      have hlen : kvs.length = vs.length := Paired.length r
      exact wpAny_truthy_dict hS m (by omega) ⟨H, I.tok _, by rw [isEmpty_kv r]; exact q⟩
  | _ => exact (show False from e).elim
theorem op_add_str : OpR X (binaryOp .Add) (fun x y H Q => ∃ i j, x = .str i ∧ y = .str j ∧ i.length + j.length ≤ sizeLine ∧ Q (.str (i ++ j)) H) := by
  intro pins s σ H x y v u Q I rx ry h
  obtain ⟨i, j, rfl, rfl, hz, q⟩ := h
  obtain ⟨t, rfl⟩ := rx
  obtain ⟨t', rfl⟩ := ry
  exact add_str (fun t' tk => ⟨.str (i ++ j), H, I.tok _, ⟨_, rfl⟩, q⟩) hz
theorem vals1 {x : V} {us : List Value} (r : Vals [x] us) : ∃ u, us = [u] ∧ RelV x u := by
  cases r with
  | cons r1 r2 => cases r2; exact ⟨_, rfl, r1⟩
theorem vals2 {x y : V} {us : List Value} (r : Vals [x, y] us) : ∃ u w', us = [u, w'] ∧ RelV x u ∧ RelV y w' := by
  cases r with
  | cons r1 r2 =>
    cases r2 with
    | cons r3 r4 => cases r4; exact ⟨_, _, rfl, r1, r3⟩
noncomputable def LenV (K : PySem.W.Frag) (x : V) (H : Hp) (n : Nat) : Prop :=
  match x with
  | .str y => y.length ≤ sizeLine ∧ n = y.length
  | .byt y => y.size ≤ sizeLine ∧ n = y.size
  | .ref p => (∃ xs, SqL K H p xs ∧ n = xs.length) ∨ ∃ xs, SqT K H p xs ∧ n = xs.length
  | _ => False
theorem call_len : CallR X (.builtin "len") (fun xs H Q => ∃ x n, xs = [x] ∧ LenV X.K x H n ∧ Q (.int n) H) := by
  intro pins s σ H xs us Q I r h
  obtain ⟨x, n, rfl, e, q⟩ := h
  obtain ⟨u, rfl, rx⟩ := vals1 r
  have hl := line63
  have hs : sizeLine = 16777216 := sizeLine_eq
  cases x with
  | str y =>
    obtain ⟨t, rfl⟩ := rx
    obtain ⟨hy, e'⟩ : y.length ≤ sizeLine ∧ n = y.length := e
    subst e'
    exact len_str (by omega) ⟨.int _, H, I.tok _, ⟨_, rfl⟩, q⟩
  | byt y =>
    obtain ⟨t, rfl⟩ := rx
    obtain ⟨hy, e'⟩ : y.size ≤ sizeLine ∧ n = y.size := e
    subst e'
    exact PySem.W.len_bytes (by omega) ⟨.int _, H, I.tok _, ⟨_, rfl⟩, q⟩
  | ref p =>
    cases rx
    have e' : (∃ xs, SqL X.K H p xs ∧ n = xs.length) ∨ ∃ xs, SqT X.K H p xs ∧ n = xs.length := e
    rcases e' with ⟨xs, hx, e'⟩ | ⟨xs, hx, e'⟩
    · subst e'
      obtain ⟨its, r', pl, hz⟩ := I.list hx
      have hlen := r'.length
      exact Calls.call_len_list pl.isList (by simp only [List.size_toArray]; omega) ⟨.int xs.length, H, I.tok _, ⟨_, by simp only [List.size_toArray]; rw [hlen]⟩, q⟩
    · subst e'
      obtain ⟨its, r', pl, hz⟩ := I.tuple hx
      have hlen := r'.length
      exact len_tuple pl (by simp only [List.size_toArray]; omega) ⟨.int xs.length, H, I.tok _, ⟨_, by simp only [List.size_toArray]; rw [hlen]⟩, q⟩
  | _ => exact (show False from e).elim
end
end L2
namespace L2
open PySem PySem.Spec PyProof.Rows
structure ObjM (h : Heap) (x dx C : Addr) (mA : Str → Option Value) : Prop where
  obj : h.get? x = some (PySem.W.instObj C dx)
  ns : h.Ns1 dx mA
  ne : dx ≠ x
section
variable {prog : Program} {w : World} {A : Around} {E : Value → Shared → Prop} {s : Shared} {K : PySem.W.Frag} {x dx C f : Addr} {mA : Str → Option Value} {name : Str} {v : Value}
end
section
variable {P : Program} {w : World} {H H' : Hp} {h h' : Heap} {a C dx : Addr} {fs fs' : List (Str × V)}
end
structure Cls (K : PySem.W.Frag) (C : Addr) : Prop where
  pg : PySem.W.plainGet K C Str.empty = true
  hd : PySem.W.hasDictIn K C = true
  po : PySem.W.plainOver K C = true
  sa : PySem.W.findIn K (.ref C) "__setattr__" = some (some (.builtin "object.__setattr__"))
theorem Cls.get {K : PySem.W.Frag} {C : Addr} (c : Cls K C) (f : Str) : PySem.W.plainGet K C f = true := c.pg
structure Con (K : PySem.W.Frag) (C : Addr) (f : Str) (v : V) (u : Value) : Prop where
  at_ : PySem.W.findIn K (.ref C) f = some (some u)
  rel : RelV v u
  get : PySem.W.specialIn K u "__get__" = some none
  cp : PySem.W.copiedNames.contains f = false
structure Meth (K : PySem.W.Frag) (C : Addr) (m : Str) (f : Addr) : Prop where
  at_ : PySem.W.findIn K (.ref C) m = some (some (.ref f))
  fn : PySem.W.isFn K (.ref f) = true
  kp : PySem.W.keepIn K (.ref f) = true
section
variable {X : Cx} {pins : List (Addr × Obj)} {σ : St} {H : Hp} {s : Shared} {a C dx : Addr} {fs : List (Str × V)} {f : Str} {v : V} {A : Around} {E : Value → Shared → Prop}
theorem Inv.made (I : Inv X pins σ H s) : Inv X pins σ (upd (upd H s.heap.objs.size (.own (s.heap.objs.size + 1))) (s.heap.objs.size + 1) (.ins C s.heap.objs.size []))
    { s with heap := (s.heap.push PySem.W.emptyDict).push (PySem.W.instObj C s.heap.objs.size) } := by
  have e1 : (s.heap.push PySem.W.emptyDict).get? s.heap.objs.size = some PySem.W.emptyDict := Heap.get?_push_size s.heap rfl
  have e2 : ((s.heap.push PySem.W.emptyDict).push (PySem.W.instObj C s.heap.objs.size)).get? (s.heap.objs.size + 1) = some (PySem.W.instObj C s.heap.objs.size) := by
    have := Heap.get?_push_size (s.heap.push PySem.W.emptyDict) (o := PySem.W.instObj C s.heap.objs.size) rfl
    rwa [Heap.size_push] at this
  have e3 : (s.heap.push PySem.W.emptyDict).Ns s.heap.objs.size (fun _ => none) := ⟨PySem.W.emptyDict, #[], _, e1, rfl, (fun e he => absurd he (by simp)), fun _ => rfl⟩
  have I1 := I.laid (a := s.heap.objs.size) (o := .own (s.heap.objs.size + 1)) (h' := s.heap.push PySem.W.emptyDict) (t' := s.toks) (fun b u q => Heap.get?_push_of_some _ q) (Nat.le_refl _) ⟨_, e1⟩
  refine I1.laid (a := s.heap.objs.size + 1) (o := .ins C s.heap.objs.size []) (t' := s.toks) (fun b u q => Heap.get?_push_of_some _ q) (Nat.le_of_eq (Heap.size_push _ _)) ?_
  have ne : s.heap.objs.size ≠ s.heap.objs.size + 1 := Nat.ne_of_lt (Nat.lt_succ_self _)
  refine ⟨by rw [upd_ne ne, upd_same], Nat.zero_le _, ne, e2, fun _ => none, (Heap.Ns1.of_empty e3).at fun o q => Heap.get?_push_of_some _ q, fun _ => True.intro, fun y hy => absurd rfl hy⟩
end
section
variable {X : Cx} {o e value : Expr} {f : Str} {pos pos' tpos : Pos} {ta tv : TE}
end
section
variable {X : Cx} {pins : List (Addr × Obj)} {σ : St} {H : Hp} {s : Shared} {A : Around} {E : Value → Shared → Prop} {Q : Value → Shared → Prop} {c : Value} {b : Bool}
inductive TyOf (K : PySem.W.Frag) (H : Hp) : V → Value → Prop where
  | non : TyOf K H .non (.type "NoneType")
  | bl (x : Bool) : TyOf K H (.bl x) (.type "bool")
  | int (i : Int) : TyOf K H (.int i) (.type "int")
  | str (x : Str) : TyOf K H (.str x) (.type "str")
  | flt (x : UInt64) : TyOf K H (.flt x) (.type "float")
  | lst {a : Addr} {xs : List V} (e : H a = some (.lst xs)) : TyOf K H (.ref a) (.type "list")
  | frz {a : Addr} {o : Obj} {xs : List V} (e : H a = some (.frz o (.lst xs))) : TyOf K H (.ref a) (.type "list")
  | tup {a : Addr} {xs : List V} (e : H a = some (.tup xs)) : TyOf K H (.ref a) (.type "tuple")
  | dK {a : Addr} {kvs : List (Key × V)} (e : H a = some (.dK kvs)) : TyOf K H (.ref a) (.type "dict")
  | dT {a : Addr} {kvs : List (List Key × V)} (e : H a = some (.dT kvs)) : TyOf K H (.ref a) (.type "dict")
  | ins {a C dx : Addr} {fs : List (Str × V)} (e : H a = some (.ins C dx fs)) (cl : Cls K C) (ha : PySem.W.findIn K (.ref C) "__class__" = some (some (.builtin "object.__class__")))
      (hn : PySem.W.specialIn K (.builtin "object.__class__") "__get__" = some (some (.builtin "getset_descriptor.__get__"))) (htk : PySem.W.takesIn K (.builtin "object.__class__") = some true)
      (hm : PySem.W.mroIn K C (.type "object") = some true) : TyOf K H (.ref a) (.ref C)
end
end L2
namespace L2
open PySem PySem.Spec PyProof.Rows
structure Room (k : Nat) (A : Around) : Prop where
  hd : k < 1000 → A.handled = none
  dp : A.depth + 3 * (k % 1000) + 5 < recursionLimit
  un : A.units + 16 * (k % 1000) + 200 < cLine
theorem Room.deeper {k : Nat} {A : Around} (r : Room (k + 1) A) (env : Env) (hk : k % 1000 ≠ 999) : Room k (A.deeper env) :=
  ⟨fun z => r.hd (by omega), by have := r.dp; show A.depth + 1 + 3 * (k % 1000) + 5 < _; omega, by have := r.un; show A.units + 3 + 16 * (k % 1000) + 200 < _; omega⟩
theorem Room.depth {k : Nat} {A : Around} (r : Room k A) : A.depth < recursionLimit := by have := r.dp; omega
theorem Room.units {k : Nat} {A : Around} (r : Room k A) : A.units + 64 < cLine := by have := r.un; omega
noncomputable def tNil : TA := fun _ H Q => Q [] H
noncomputable def tCons (ta : TE) (tr : TA) : TA := fun σ H Q => ta σ H fun x H1 => tr σ H1 fun xs H2 => Q (x :: xs) H2
section
variable {X : Cx} {e : Expr} {es : List Expr} {te : TE} {t : TA} {pos : Pos}
theorem pa_nil : PA X [] tNil := fun _ _ _ _ H Q I h => Calls.spliced_nil ⟨[], H, I, .nil, h⟩
theorem pa_cons (ha : PE X e te) (hr : PA X es t) (hs : starEach (e :: es) X.env = (false, eval e X.env) :: starEach es X.env := by rfl) : PA X (e :: es) (tCons te t) := by
  intro pos pins s σ H Q I h
  rw [hs]
  show wpAny _ _ (spliced ((false, eval e X.env) :: backTo pos (starEach es X.env))) _ _ s
  refine Calls.spliced_cons (thn (ha pins s σ H _ I h) fun u s1 ⟨x, H1, I1, r1, q1⟩ => ?_)
  exact thn (hr pos pins s1 σ H1 _ I1 q1) fun us s2 ⟨xs, H2, I2, r2, q2⟩ => ⟨x :: xs, H2, I2, .cons r1 r2, q2⟩
noncomputable def tTup (t : TA) : TE := fun σ H Q => t σ H fun xs H1 => xs.length ≤ sizeLine ∧ ∀ p, H1 p = none → Q (.ref p) (upd H1 p (.tup xs))
noncomputable def tLst (t : TA) : TE := fun σ H Q => t σ H fun xs H1 => xs.length ≤ sizeLine ∧ ∀ p, H1 p = none → Q (.ref p) (upd H1 p (.lst xs))
theorem pe_tup {x1} (h : PA X es t) : PE X (.Tuple es x1 pos) (tTup t) := by
  intro pins s σ H Q I hq
  refine wpAny_Tuple_spliced (thn (h pos pins s σ H _ I hq) fun us s1 ⟨xs, H1, I1, r, z, q⟩ => ⟨by rw [← r.length]; exact z, ?_⟩)
  have hf : H1 s1.heap.objs.size = none := I1.hok.fresh (Nat.le_refl _)
  refine ⟨.ref s1.heap.objs.size, upd H1 s1.heap.objs.size (.tup xs), I1.laid (t' := s1.toks) (fun b u e => Heap.get?_push_of_some _ e) (Nat.le_refl _) ?_, rfl, q _ hf⟩
  exact ⟨z, us, r, ⟨_, Heap.get?_push_size _ rfl, rfl, _, rfl⟩⟩
theorem pe_lst (h : PA X es t) : PE X (.List es pos) (tLst t) := by
  intro pins s σ H Q I hq
  refine wpAny_List_spliced (thn (h pos pins s σ H _ I hq) fun us s1 ⟨xs, H1, I1, r, z, q⟩ => ⟨by rw [← r.length]; exact z, ?_⟩)
  have hf : H1 s1.heap.objs.size = none := I1.hok.fresh (Nat.le_refl _)
  refine ⟨.ref s1.heap.objs.size, upd H1 s1.heap.objs.size (.lst xs), I1.laid (t' := s1.toks) (fun b u e => Heap.get?_push_of_some _ e) (Nat.le_refl _) ?_, rfl, q _ hf⟩
  exact ⟨z, us, 0, r, Heap.get?_push_size _ rfl⟩
end
noncomputable abbrev Sp := List V → Hp → VK → XK → Prop
noncomputable abbrev CXT := List Env → Hp → Shared → XK → Value → Shared → Prop
structure Env0 (P : Program) (w : World) (K : PySem.W.Frag) (mg : Str → Option Value) (base : Heap) (A : Around) (outer : List Env) (s : Shared) (H : Hp) : Prop where
  frames : A.frames = some outer
  mod : Mod K mg base
  bs : ∀ b o, base.get? b = some o → s.heap.get? b = some o ∧ H b = none
  bsz : base.objs.size ≤ s.heap.objs.size
  funs : s.heap.FunFrames base outer
  frf : ∀ b ∈ frs outer, H b = none
  hok : HOk P w H s.heap
  bare : AllBare s.gens
noncomputable def CE (outer : List Env) (P : Program) (w : World) (H : Hp) (s : Shared) (Q : VK) (u : Value) (s' : Shared) : Prop :=
  ∃ v H', s'.os = s.os ∧ AllBare s'.gens ∧ Un (frs outer) [] H H' s.heap s'.heap ∧ HOk P w H' s'.heap ∧ RelV v u ∧ Q v H'
noncomputable def CR (CX : CXT) (outer : List Env) (P : Program) (w : World) (H : Hp) (s : Shared) (Q : VK) (E : XK) (r : Result) (s' : Shared) : Prop :=
  match r with
  | .ok (.ret u) => CE outer P w H s Q u s'
  | .ok _ => False
  | .error e => CX outer H s E e s'
structure FnOk (P : Program) (w : World) (K : PySem.W.Frag) (mg : Str → Option Value) (base : Heap) (CX : CXT) (k : Nat) (f : Addr) (fd : FuncData) (ps : List Str) (sp : Sp) : Prop where
  len : ∀ vs H Q E, sp vs H Q E → vs.length = ps.length
  run : ∀ (A : Around) (outer : List Env) (s : Shared) (H : Hp) (args : Args) (us : List Value) (vs : List V) (Q : VK) (E : XK), Room k A → Env0 P w K mg base A outer s H → BindsTo s fd args (ps.zip us) → Vals vs us → sp vs H Q E →
    codeAny (model P w) A (.call (.ref f) args) (CR CX outer P w H s Q E) s
theorem Env0.in1 {P : Program} {w : World} {K : PySem.W.Frag} {mg : Str → Option Value} {base : Heap} {A : Around} {outer : List Env} {s : Shared} {H : Hp} (e : Env0 P w K mg base A outer s H) :
    Env0 P w K mg base A.in1 outer s H := ⟨e.frames, e.mod, e.bs, e.bsz, e.funs, e.frf, e.hok, e.bare⟩
section
variable {X : Cx} {pins : List (Addr × Obj)} {σ : St} {H : Hp} {s s' : Shared}
theorem Inv.env0 (I : Inv X pins σ H s) : Env0 X.prog X.w X.K X.mg X.base X.A X.stack s H :=
  ⟨I.ok.frames, I.ok.mod, I.bs, Nat.le_trans I.ok.bsz I.sz, I.stack, I.stkFree, I.hok, I.bare⟩
theorem Inv.after {Q : VK} {u : Value} (I : Inv X pins σ H s) (h : CE X.stack X.prog X.w H s Q u s') : EP X pins σ Q u s' := by
  obtain ⟨v, H', os, bare, un, hok, r, q⟩ := h
  obtain ⟨hh, g, d, t, os'⟩ := s'
  obtain rfl : os' = s.os := os
  exact ⟨v, H', I.call (h' := hh) (g' := g) (d' := d) (t' := t) (ch := []) un hok bare (fun b z => absurd z (by simp)), r, q⟩
end
noncomputable def Binds (K : PySem.W.Frag) (fd : FuncData) (ps : List Str) (ds : List Value) : Prop :=
  ∀ (s : Shared) (us : List Value), K.In s.heap → (us ++ ds).length = ps.length → BindsTo s fd ⟨us, []⟩ (ps.zip (us ++ ds))
theorem Binds.all {K : PySem.W.Frag} {fd : FuncData} {ps : List Str} (h : ∀ us : List Value, us.length = ps.length → bindArgs fd ⟨us, []⟩ = pure (ps.zip us)) : Binds K fd ps [] := fun s us _ hl => by
  rw [List.append_nil] at hl ⊢
  exact .of_eq (h us hl)
noncomputable def Passes (CX : CXT) (X : Cx) (E : XK) : Prop := ∀ (pins : List (Addr × Obj)) (σ : St) (H : Hp) (s : Shared) (e : Value) (s' : Shared), Inv X pins σ H s → CX X.stack H s E e s' → X.xe e s'
section
variable {X : Cx} {CX : CXT} {k : Nat} {f C : Addr} {fd : FuncData} {ps : List Str} {sp : Sp} {dvs : List V} {ds : List Value} {E : XK} {x m : Str} {p pos apos : Pos} {e o : Expr} {es : List Expr} {ta : TE} {t : TA}
structure Mk (K : PySem.W.Frag) (C f : Addr) : Prop where
  makes : PySem.W.makesIn K C = true
  init : PySem.W.findIn K (.ref C) "__init__" = some (some (.ref f))
  fn : PySem.W.isFn K (.ref f) = true
  kp : PySem.W.keepIn K (.ref C) = true
end
section
variable {X : Cx} {CX : CXT} {k : Nat} {f C : Addr} {fd : FuncData} {ps ks : List Str} {sp : Sp} {E : XK} {x m : Str} {p pos apos kpos : Pos} {e o : Expr} {es : List Expr} {kws : List Keyword} {te ta : TE} {t tk : TA} {nm : Option Str}
structure KBinds (K : PySem.W.Frag) (fd : FuncData) (ps ks : List Str) (g : List Value → List Value → List Value) (gV : List V → List V → List V) : Prop where
  to : ∀ (s : Shared) (us ws : List Value), K.In s.heap → (g us ws).length = ps.length → BindsTo s fd ⟨us, ks.zip ws⟩ (ps.zip (g us ws))
  rel : ∀ {vs : List V} {us : List Value} {zs : List V} {ws : List Value}, Vals vs us → Vals zs ws → Vals (gV vs zs) (g us ws)
variable {g : List Value → List Value → List Value} {gV : List V → List V → List V}
end
structure FnScope (N P : List Str) (sc : Scope) : Prop where
  kind : sc.kind = .function
  co : sc.isCoroutine = false
  gen : sc.isGenerator = false
  nd : N.Nodup
  pre : N.take P.length = P
  par : ∀ x ∈ P, sc.names.lookup x = some .local ∨ sc.names.lookup x = some .cell
  nofree : ∀ y ∈ sc.names, y.2 ≠ .free
theorem bindL_out {kindOf : Str → Option NameKind} {x : Str} : ∀ {binds : List (Str × Value)} {m : Str → Option Value}, (∀ v, (x, v) ∉ binds) → bindL kindOf binds m x = m x
  | [], _, _ => rfl
  | (n, v) :: r, m, h => by
    unfold bindL
    rw [bindL_out fun w hw => h w (List.mem_cons_of_mem _ hw)]
    split
    · have : x ≠ n := by rintro rfl; exact h v List.mem_cons_self
      simp [this]
    · rfl
theorem bindC_out {kindOf : Str → Option NameKind} {x : Str} : ∀ {binds : List (Str × Value)} {m : Str → Option Value}, (∀ v, (x, v) ∉ binds) → bindC kindOf binds m x = m x
  | [], _, _ => rfl
  | (n, v) :: r, m, h => by
    unfold bindC
    rw [bindC_out fun w hw => h w (List.mem_cons_of_mem _ hw)]
    split
    · rfl
    · have : x ≠ n := by rintro rfl; exact h v List.mem_cons_self
      simp [this]
theorem bindL_get {kindOf : Str → Option NameKind} {x : Str} {v : Value} : ∀ {P : List Str} {vs : List Value} {i : Nat} {m : Str → Option Value}, P.Nodup → P[i]? = some x → vs[i]? = some v → kindOf x = some .local →
    bindL kindOf (P.zip vs) m x = some v
  | [], _, _, _, _, h, _, _ => by simp at h
  | _ :: _, [], _, _, _, _, h, _ => by simp at h
  | p :: P, w :: vs, 0, m, nd, h1, h2, hk => by
    simp at h1 h2; subst h1; subst h2
    show bindL kindOf ((p, w) :: P.zip vs) m p = _
    unfold bindL
    rw [bindL_out fun v hv => (List.nodup_cons.mp nd).1 (List.of_mem_zip hv).1, if_pos hk]
    simp
  | p :: P, w :: vs, i + 1, m, nd, h1, h2, hk => by
    show bindL kindOf ((p, w) :: P.zip vs) m x = _
    unfold bindL
    exact bindL_get (i := i) (List.nodup_cons.mp nd).2 (by simpa using h1) (by simpa using h2) hk
theorem bindC_get {kindOf : Str → Option NameKind} {x : Str} {v : Value} : ∀ {P : List Str} {vs : List Value} {i : Nat} {m : Str → Option Value}, P.Nodup → P[i]? = some x → vs[i]? = some v → kindOf x ≠ some .local →
    bindC kindOf (P.zip vs) m x = some v
  | [], _, _, _, _, h, _, _ => by simp at h
  | _ :: _, [], _, _, _, _, h, _ => by simp at h
  | p :: P, w :: vs, 0, m, nd, h1, h2, hk => by
    simp at h1 h2; subst h1; subst h2
    show bindC kindOf ((p, w) :: P.zip vs) m p = _
    unfold bindC
    rw [bindC_out fun v hv => (List.nodup_cons.mp nd).1 (List.of_mem_zip hv).1, if_neg hk]
    simp
  | p :: P, w :: vs, i + 1, m, nd, h1, h2, hk => by
    show bindC kindOf ((p, w) :: P.zip vs) m x = _
    unfold bindC
    exact bindC_get (i := i) (List.nodup_cons.mp nd).2 (by simpa using h1) (by simpa using h2) hk
noncomputable def start (N : List Str) (vs : List V) : St := vs.map some ++ List.replicate (N.length - vs.length) none
noncomputable def cxOf (CX : CXT) (P : Program) (w : World) (K : PySem.W.Frag) (mg : Str → Option Value) (base : Heap) (N : List Str) (qual : Str) (scope : Scope) (f : Addr) (cd : Value) (A : Around) (outer : List Env) (s : Shared) (H : Hp) (E : XK) : Cx where
  prog := P
  w := w
  K := K
  mg := mg
  base := base
  A := A.deeper (envOfC qual scope s.heap.objs.size f cd)
  N := N
  s₀ := s
  H₀ := H
  env := envOfC qual scope s.heap.objs.size f cd
  outer := outer
  stack := envOfC qual scope s.heap.objs.size f cd :: outer
  ex := []
  calm := A.handled.isNone
  fn := fun _ => true
  pn := []
  xe := fun e s' => wpAny (model P w) (A.deeper (envOfC qual scope s.heap.objs.size f cd)) (leaving (envOfC qual scope s.heap.objs.size f cd) e) (fun _ s'' => CX outer H s E e s'') (fun e' s'' => CX outer H s E e' s'') s'
theorem cell_has {sc : Scope} {n : Nat} {x : Str} (h : sc.names.lookup x = some .cell) : ∃ c, (cellsFrom n sc.names []).lookup x = some c := by
  have q := PySem.W.cellsFrom_some sc.names n [] (.inl h)
  exact Option.isSome_iff_exists.mp q
theorem inv_start {CX : CXT} {P : Program} {w : World} {K : PySem.W.Frag} {mg : Str → Option Value} {base : Heap} {N ps : List Str} {qual : Str} {scope : Scope} {f : Addr} {cd : Value} {A : Around} {outer : List Env} {s s1 : Shared} {H : Hp} {E : XK} {us : List Value} {vs : List V}
    (S : FnScope N ps scope) (e0 : Env0 P w K mg base A outer s H) (hl : vs.length = ps.length) (r : Vals vs us)
    (x : InCallC s s.heap.objs.size (bindL (envOfC qual scope s.heap.objs.size f cd).kindOf (ps.zip us) fun _ => none) (cellsFrom (s.heap.objs.size + 1) scope.names []) (bindC (envOfC qual scope s.heap.objs.size f cd).kindOf (ps.zip us) fun _ => none) s1) :
    Inv (cxOf CX P w K mg base N qual scope f cd A outer s H E) [] (start N vs) H s1 := by
  have hpl : ps.length ≤ N.length := by have := congrArg List.length S.pre; rw [List.length_take] at this; omega
  obtain ⟨h1, tk, rfl, hk⟩ := x.done
  have noA : ∀ b : Addr, b ∉ (cxOf CX P w K mg base N qual scope f cd A outer s H E).ex := fun b z => absurd (show b ∈ ([] : List Addr) from z) (by simp)
  refine ⟨⟨e0.mod, S.kind, rfl, rfl, Nat.le_refl _, fun y z c h1 h2 => ?_, fun y hy => ?_, fun y c _ h => ?_, fun h => Option.isNone_iff_eq_none.mp h, Around.frames_deeper e0.frames, .inr ⟨rfl, rfl⟩, fun b z => absurd z (noA b), e0.bs, e0.bsz, fun b _ _ => noA b, fun b z => absurd z (noA b), e0.funs, e0.frf⟩,
    rfl, e0.bare, Un.kept hk, ⟨_, x.toInCall.ns, fun i y v h1 h2 h3 => ?_⟩, fun y c h => ⟨_, x.cell y c h⟩, e0.hok.fresh (Nat.le_refl _), fun y c h => ?_, fun p hp => absurd (show p ∈ ([] : List (Addr × Obj)) from hp) (by simp), e0.hok.kept hk, ?_⟩
  · exact name_of_addr x.apart (PySem.mem_of_lookup h1) (PySem.mem_of_lookup h2)
  · have hy : scope.names.lookup y = some .cell ∨ scope.names.lookup y = some .free := hy
    rcases hy with hy | hy
    · exact cell_has hy
    · exact absurd rfl (S.nofree _ (PySem.mem_of_lookup hy))
  · exact Nat.le_of_lt (x.above y c (PySem.mem_of_lookup h))
  · have hi : i < vs.length := by
      unfold start at h2
      by_cases hi : i < vs.length
      · exact hi
      · rw [List.getElem?_append_right (by simpa using hi)] at h2
        rw [List.getElem?_replicate] at h2
        split at h2 <;> cases h2
    have ha : vs[i]? = some v := by
      unfold start at h2
      rw [List.getElem?_append_left (by simpa using hi), List.getElem?_map] at h2
      cases e : vs[i]? with
      | none => rw [e] at h2; cases h2
      | some a => rw [e] at h2; cases h2; rfl
    obtain ⟨u, hu, rv⟩ := r.get ha
    have hp : ps[i]? = some y := by
      rw [← S.pre, List.getElem?_take_of_lt (by omega)]; exact h1
    have ndP : ps.Nodup := by rw [← S.pre]; exact S.nd.sublist (List.take_sublist _ _)
    refine ⟨u, rv, ?_⟩
    rcases S.par y (List.mem_of_getElem? hp) with k | k
    · exact .inl ⟨k, bindL_get ndP hp hu k⟩
    · obtain ⟨c, e⟩ := cell_has (n := s.heap.objs.size + 1) k
      refine .inr ⟨.inl k, c, e, ?_⟩
      have q := x.cell y c e
      rw [bindC_get ndP hp hu (by show scope.names.lookup y ≠ _; rw [k]; decide)] at q
      exact q
  · exact e0.hok.fresh (Nat.le_of_lt (x.above y c (PySem.mem_of_lookup h)))
  · unfold start
    show _ = N.length
    rw [List.length_append, List.length_map, List.length_replicate]
    omega
theorem fn_of {CX : CXT} {P : Program} {w : World} {K : PySem.W.Frag} {mg : Str → Option Value} {base : Heap} {k : Nat} {f : Addr} {name qual : Str} {params : Arguments} {body : List Stmt} {scope : Scope} {dV kV doc pm cdv ct oc : Value} {an od : Option Addr}
    {osl : Array (Option Value)} {N ps : List Str} {sp : Sp} (lk : K.lookup f = some ⟨oc, od, .func (PySem.W.fnOf name qual params body scope dV kV doc pm an cdv ct), osl⟩) (hcd : PySem.W.codeIn K cdv qual = true) (S : FnScope N ps scope)
    (hk9 : k % 1000 ≠ 999) (len : ∀ vs H Q E, sp vs H Q E → vs.length = ps.length)
    (hbody : ∀ (A : Around) (outer : List Env) (s : Shared) (H : Hp) (vs : List V) (Q : VK) (E : XK), Room k (A.deeper (envOfC qual scope s.heap.objs.size f cdv)) → sp vs H Q E →
      ∃ t, PSs (cxOf CX P w K mg base N qual scope f cdv A outer s H E) body t ∧ t { nx := fun _ H' => Q .non H', rt := Q } (start N vs) H) :
    FnOk P w K mg base CX (k + 1) f (PySem.W.fnOf name qual params body scope dV kV doc pm an cdv ct) ps sp := by
  refine ⟨len, fun A outer s H args us vs Q E hr e0 hb r hsp => ?_⟩
  have hl := len _ _ _ _ hsp
  have KX : K.In s.heap := e0.mod.kin.keeps fun b o e => (e0.bs b o e).1
  have lim : s.heap.NoLimit := e0.mod.nolimit.keeps fun b o e => (e0.bs b o e).1
  have hkind : ∀ y ∈ ps.zip us, scope.names.lookup y.1 = some .local ∨ (scope.names.lookup y.1 = some .cell ∧ ((cellsFrom (s.heap.objs.size + 1) scope.names []).lookup y.1).isSome = true) := fun ⟨n, v⟩ hy => by
    rcases S.par n (List.of_mem_zip hy).1 with q | q
    · exact .inl q
    · exact .inr ⟨q, PySem.W.cellsFrom_some _ _ _ (.inl q)⟩
  refine codeAny_call_function hr.depth (KX _ _ lk) rfl S.co S.gen rfl (PySem.W.codeRec_of KX hcd) (hb _ _ _ _ ?_)
  refine wpAny_newFunctionEnv_cells S.kind hkind fun env he s1 x => ?_
  subst he
  refine ⟨lim.keeps x.toInCall.keep, codeAny_func ?_⟩
  obtain ⟨t, ht, hq⟩ := hbody A outer s H vs Q E (hr.deeper _ hk9) hsp
  have I : Inv (cxOf CX P w K mg base N qual scope f cdv A outer s H E) [] (start N vs) H s1 := inv_start S e0 hl r x
  refine wpAny_mono (ht [] s1 (start N vs) H _ I hq) (fun fl s' hs => ?_) fun e s' hs => hs
  have fin : ∀ {σ' : St} {H' : Hp} {v : V} {u : Value}, Inv (cxOf CX P w K mg base N qual scope f cdv A outer s H E) [] σ' H' s' → RelV v u → Q v H' → CE outer P w H s Q u s' :=
    fun {σ' H' v u} J rv q => ⟨v, H', J.os, J.bare, J.base, J.hok, rv, q⟩
  cases fl with
  | ret u =>
    obtain ⟨v, σ', H', J, rv, q⟩ := hs
    exact fin J rv q
  | next =>
    obtain ⟨σ', H', J, q⟩ := hs
    exact fin (v := V.non) (u := Value.none) J rfl q
  | brk =>
    obtain ⟨_, _, _, q⟩ := hs
    exact False.elim q
  | cont =>
    obtain ⟨_, _, _, q⟩ := hs
    exact False.elim q
end L2
namespace L2
open PySem PySem.Spec PyProof.Rows
section
variable {X : Cx} {x : Str} {p pos : Pos} {e : Expr} {es : List Expr} {t : TA} {id T : String} {r : List V → Hp → VK → Prop}
noncomputable def tCB (r : List V → Hp → VK → Prop) (t : TA) : TE := fun σ H Q => t σ H fun vs H1 => r vs H1 Q
theorem pe_callB (hc : CallR X (.builtin id) r) (hg : Gl X x) (hm : X.mg x = none) (hv : bootBuiltins x = some (.builtin id)) (ha : PA X (e :: es) t) (hn : x ≠ "__name__" := by decide) (hdb : (x == ("__debug__" : Str)) = false := by decide)
    (he : starEach (e :: es) X.env = (false, eval e X.env) :: starEach es X.env := by rfl) (hpl : (backTo pos (starEach es X.env)).any (·.1) = false := by rfl) : PE X (.Call (.Name x p) (e :: es) [] pos) (tCB r t) := by
  intro pins s σ H Q I h
  refine wpAny_Call_Name_kw (ld_blt I hg hm hv ?_ hn hdb)
  exact PyProof.Rows.callWith_builtin1 (thn (ha pos pins s σ H _ I h) fun us s1 ⟨vs, H1, I1, r1, q1⟩ => hc pins s1 σ H1 vs us Q I1 r1 q1) he hpl
theorem pe_callTy (hc : CallR X (.type T) r) (hg : Gl X x) (hm : X.mg x = none) (hv : bootBuiltins x = some (.type T)) (ha : PA X (e :: es) t) (hn : x ≠ "__name__" := by decide) (hdb : (x == ("__debug__" : Str)) = false := by decide)
    (he : starEach (e :: es) X.env = (false, eval e X.env) :: starEach es X.env := by rfl) (hpl : (backTo pos (starEach es X.env)).any (·.1) = false := by rfl) : PE X (.Call (.Name x p) (e :: es) [] pos) (tCB r t) := by
  intro pins s σ H Q I h
  refine wpAny_Call_Name_kw (ld_blt I hg hm hv ?_ hn hdb)
  exact PyProof.Rows.callWith_type1 (thn (ha pos pins s σ H _ I h) fun us s1 ⟨vs, H1, I1, r1, q1⟩ => hc pins s1 σ H1 vs us Q I1 r1 q1) he hpl
end
end L2
namespace HT
open PySem PyProof.Rows
section
open PySem.SeqAt
open PySem.AutoSeq1 (wpAny_loadPart')
open PySem.MeetsSeq PySem.MeetsSeq2 PySem.MeetsSeq3
end
section
variable {prog : Program} {w : World} {A : Around} {E : Value → Shared → Prop} {s : Shared}
noncomputable def sIx (n d : Nat) : Option Int → Nat
  | none => d
  | some v => if v < 0 then (v + (n : Int)).toNat else min v.toNat n
end
end HT
namespace L2
open PySem PySem.Spec PyProof.Rows
noncomputable abbrev TO := St → Hp → (Option Int → Hp → Prop) → Prop
noncomputable def PO (X : Cx) (e : Option Expr) (t : TO) : Prop :=
  ∀ (pins : List (Addr × Obj)) (s : Shared) (σ : St) (H : Hp) (Q : Option Int → Hp → Prop), Inv X pins σ H s → t σ H Q →
    wpAny (model X.prog X.w) X.A (evalPart e X.env) (fun u s' => ∃ o H', Inv X pins σ H' s' ∧ IsPart u o ∧ Q o H') X.xe s
noncomputable def tNoPart : TO := fun _ H Q => Q none H
noncomputable def tPart (t : TE) : TO := fun σ H Q => t σ H fun x H1 => ∃ i, x = .int i ∧ Q (some i) H1
theorem intsAre_of {ns : List Int} : ∀ {us : List Value}, Vals (ns.map V.int) us → IntsAre us ns := by
  induction ns with
  | nil => intro us r; rw [List.map_nil] at r; cases r; exact .nil
  | cons n ns ih =>
    intro us r
    rw [List.map_cons] at r
    cases r with
    | cons r1 r2 =>
      obtain ⟨t, e⟩ := r1
      subst e
      exact .cons n t (ih r2)
section
variable {X : Cx} {e : Expr} {te : TE} {lo hi : Option Expr} {tl th : TO} {pos p2 : Pos}
theorem po_none : PO X none tNoPart := by
  intro pins s σ H Q I h
  rw [evalPart_none]
  exact wpAny_pure ⟨none, H, I, .none, h⟩
theorem po_some (h : PE X e te) : PO X (some e) (tPart te) := by
  intro pins s σ H Q I hw
  rw [evalPart_some]
  refine thn (h pins s σ H _ I hw) fun u s1 ⟨x, H1, I1, r1, q1⟩ => ?_
  obtain ⟨i, rfl, q⟩ := q1
  obtain ⟨t, rfl⟩ := r1
  exact ⟨some i, H1, I1, .int i t, q⟩
noncomputable def SlR (X : Cx) (r : V → Option Int → Option Int → Hp → VK → Prop) : Prop :=
  ∀ (pins : List (Addr × Obj)) (s : Shared) (σ : St) (H : Hp) (x : V) (v vl vu : Value) (lo hi : Option Int) (sl : Addr) (Q : VK), Inv X pins σ H s → RelV x v → s.heap.IsSliceOf sl vl vu .none → IsPart vl lo → IsPart vu hi → r x lo hi H Q →
    ∃ T id, typeLookup (.type T) "__getitem__" = pure (some (.builtin id)) ∧ s.TypeIs v T ∧ wpAny (model X.prog X.w) X.A (getItem v (.ref sl)) (EP X pins σ Q) X.xe s
theorem SlR.or {r r' : V → Option Int → Option Int → Hp → VK → Prop} (h : SlR X r) (h' : SlR X r') : SlR X (fun x lo hi H Q => r x lo hi H Q ∨ r' x lo hi H Q) := by
  intro pins s σ H x v vl vu lo hi sl Q I rx hs pl pu q
  rcases q with q | q
  · exact h pins s σ H x v vl vu lo hi sl Q I rx hs pl pu q
  · exact h' pins s σ H x v vl vu lo hi sl Q I rx hs pl pu q
noncomputable def tSl (r : V → Option Int → Option Int → Hp → VK → Prop) (te : TE) (tl th : TO) : TE := fun σ H Q => te σ H fun x H1 => tl σ H1 fun l H2 => th σ H2 fun u H3 => r x l u H3 Q
theorem pe_slice {r : V → Option Int → Option Int → Hp → VK → Prop} (hr : SlR X r) (he : PE X e te) (hl : PO X lo tl) (hu : PO X hi th) : PE X (.Subscript e (.Slice lo hi none p2) pos) (tSl r te tl th) := by
  intro pins s σ H Q I h
  refine Subscript_ (thn (he pins s σ H _ I h) fun v s1 ⟨x, H1, I1, r1, q1⟩ => ?_)
  refine wpAny_Slice (thn (hl pins s1 σ H1 _ I1 q1) fun vl s2 ⟨l, H2, I2, pl, q2⟩ => thn (hu pins s2 σ H2 _ I2 q2) fun vu s3 ⟨u, H3, I3, pu, q3⟩ => ?_)
  rw [evalPart_none]
  refine wpAny_pure ?_
  have I4 : Inv X pins σ H3 { s3 with heap := s3.heap.push { cls := .type "slice", data := .fields #[vl, vu, .none] } } := I3.kept (t' := s3.toks) fun b ob q => Heap.get?_push_of_some _ q
  obtain ⟨T, id, hT, ht, hg⟩ := hr pins { s3 with heap := s3.heap.push { cls := .type "slice", data := .fields #[vl, vu, .none] } } σ H3 x v vl vu l u s3.heap.objs.size Q I4 r1 (Heap.IsSliceOf.new ..) pl pu q3
  show wpAny (model X.prog X.w) X.A (subscriptTail e (.Slice lo hi none p2) v (.ref s3.heap.objs.size)) (EP X pins σ Q) X.xe { s3 with heap := s3.heap.push { cls := .type "slice", data := .fields #[vl, vu, .none] } }
  exact tail_any (ops := [.ref s3.heap.objs.size, v]) ht hT hg (by with_unfolding_all rfl)
noncomputable def cutV (xs : List V) (lo hi : Option Int) : List V := (xs.drop (HT.sIx xs.length 0 lo)).take (HT.sIx xs.length xs.length hi - HT.sIx xs.length 0 lo)
theorem cutV_length (xs : List V) (lo hi : Option Int) : (cutV xs lo hi).length ≤ xs.length := by
  unfold cutV
  rw [List.length_take, List.length_drop]
  omega
end
end L2
namespace L2
open PySem PySem.Spec PyProof.Rows
noncomputable def ixN (n : Nat) (i : Int) : Option Nat := if 0 ≤ i then (if i < n then some i.toNat else none) else if -(n : Int) ≤ i then some (i + n).toNat else none
noncomputable def atI {α : Type} (xs : List α) (i : Int) : Option α := (ixN xs.length i).bind fun j => xs[j]?
theorem ixN_seq {n : Nat} {i : Int} {j : Nat} (h : ixN n i = some j) : seqIndex? i n = some j ∧ j < n ∧ -(n : Int) ≤ i ∧ i < n := by
  unfold ixN at h
  by_cases h0 : 0 ≤ i
  · rw [if_pos h0] at h
    by_cases h1 : i < n
    · rw [if_pos h1] at h
      have e : i.toNat = j := Option.some.inj h
      exact ⟨by rw [seqIndex_of h0 h1, e], by omega, by omega, h1⟩
    · rw [if_neg h1] at h; cases h
  · rw [if_neg h0] at h
    by_cases h1 : -(n : Int) ≤ i
    · rw [if_pos h1] at h
      have e : (i + n).toNat = j := Option.some.inj h
      exact ⟨by rw [seqIndex_neg (by omega) h1, e], by omega, h1, by omega⟩
    · rw [if_neg h1] at h; cases h
theorem atI_get {α : Type} {xs : List α} {i : Int} {v : α} (h : atI xs i = some v) : ∃ j, seqIndex? i xs.length = some j ∧ xs[j]? = some v ∧ j < xs.length ∧ -(xs.length : Int) ≤ i ∧ i < xs.length := by
  unfold atI at h
  cases e : ixN xs.length i with
  | none => rw [e] at h; cases h
  | some j =>
    rw [e] at h
    obtain ⟨h1, h2, h3, h4⟩ := ixN_seq e
    exact ⟨j, h1, h, h2, h3, h4⟩
noncomputable def PlainIx (b : Expr) : Prop := ∀ o i, subscripted b false o i = operate [o, i] (getItem o i)
noncomputable def IxR (X : Cx) (r : R2) : Prop :=
  ∀ (value slice : Expr) (pins : List (Addr × Obj)) (s : Shared) (σ : St) (H : Hp) (x y : V) (v u : Value) (Q : VK), Inv X pins σ H s → RelV x v → RelV y u → r x y H Q →
    subscripted slice false v u = operate [v, u] (getItem v u) → wpAny (model X.prog X.w) X.A (subscriptTail value slice v u) (EP X pins σ Q) X.xe s
noncomputable def MtR (X : Cx) (id : String) (r : V → List V → Hp → VK → Prop) : Prop :=
  ∀ (pins : List (Addr × Obj)) (s : Shared) (σ : St) (H : Hp) (x : V) (xs : List V) (v : Value) (us : List Value) (Q : VK), Inv X pins σ H s → RelV x v → Vals xs us → r x xs H Q →
    wpAny (model X.prog X.w) X.A (call (.builtin id) (v :: us)) (EP X pins σ Q) X.xe s
section
variable {X : Cx} {a b : Expr} {ta tb : TE} {pos : Pos}
theorem IxR.or {r r' : R2} (h : IxR X r) (h' : IxR X r') : IxR X (fun x y H Q => r x y H Q ∨ r' x y H Q) := by
  intro value slice pins s σ H x y v u Q I rx ry q hs
  rcases q with q | q
  · exact h value slice pins s σ H x y v u Q I rx ry q hs
  · exact h' value slice pins s σ H x y v u Q I rx ry q hs
theorem MtR.or {id : String} {r r' : V → List V → Hp → VK → Prop} (h : MtR X id r) (h' : MtR X id r') : MtR X id (fun x xs H Q => r x xs H Q ∨ r' x xs H Q) := by
  intro pins s σ H x xs v us Q I rx rs q
  rcases q with q | q
  · exact h pins s σ H x xs v us Q I rx rs q
  · exact h' pins s σ H x xs v us Q I rx rs q
theorem pe_ix {r : R2} (hr : IxR X r) (ha : PE X a ta) (hb : PE X b tb) (hs : PlainIx b) : PE X (.Subscript a b pos) (tOp r ta tb) := by
  intro pins s σ H Q I h
  exact Subscript_ (binT ha hb I h fun v u s2 x y H2 I2 rx ry q => hr a b pins s2 σ H2 x y v u Q I2 rx ry q (hs _ _))
noncomputable def rIxL (K : PySem.W.Frag) : R2 := fun x y H Q => ∃ p xs i v, x = .ref p ∧ y = .int i ∧ SqL K H p xs ∧ atI xs i = some v ∧ Q v H
noncomputable def rIxT (K : PySem.W.Frag) : R2 := fun x y H Q => ∃ p xs i v, x = .ref p ∧ y = .int i ∧ SqT K H p xs ∧ atI xs i = some v ∧ Q v H
noncomputable def rIxS : R2 := fun x y H Q => ∃ z i c, x = .str z ∧ y = .int i ∧ z.length ≤ sizeLine ∧ atI z.cps.toList i = some c ∧ Q (.str ⟨#[c]⟩) H
theorem ix_list : IxR X (rIxL X.K) := by
  intro value slice pins s σ H x y v u Q I rx ry h hs
  obtain ⟨p, xs, i, z, rfl, rfl, hq, he, q⟩ := h
  cases rx
  obtain ⟨t, rfl⟩ := ry
  obtain ⟨its, r, pl, hz⟩ := I.list hq
  obtain ⟨j, h1, h2, h3, h4, h5⟩ := atI_get he
  obtain ⟨w, ew, rw'⟩ := r.get h2
  have hl := r.length
  have hn := line63
  have fin : EP X pins σ Q w s := ⟨z, H, I, rw', q⟩
  by_cases h0 : 0 ≤ i
  · have hj : i.toNat = j := by
      rw [seqIndex_of h0 h5] at h1
      exact Option.some.inj h1
    exact item_listR pl.isList h0 (by omega) (by rw [hj]; simpa using ew) fin hs
  · have hj : (i + (its.toArray.size : Int)).toNat = j := by
      rw [seqIndex_neg (by omega) h4] at h1
      rw [List.size_toArray, ← hl]
      exact Option.some.inj h1
    exact subscriptTail_builtinR (x := w) pl.isList.typeIs slot_list_getitem.lookup
      (wpAny_getItem_list_neg (Q := fun r s' => r = w ∧ EP X pins σ Q r s') pl.isList (by omega) (by rw [List.size_toArray] <;> omega) (by omega) (by rw [hj]; simpa using ew) ⟨rfl, fin⟩) hs
theorem ix_tup : IxR X (rIxT X.K) := by
  intro value slice pins s σ H x y v u Q I rx ry h hs
  obtain ⟨p, xs, i, z, rfl, rfl, hq, he, q⟩ := h
  cases rx
  obtain ⟨t, rfl⟩ := ry
  obtain ⟨its, r, pl, hz⟩ := I.tuple hq
  obtain ⟨j, h1, h2, h3, h4, h5⟩ := atI_get he
  obtain ⟨w, ew, rw'⟩ := r.get h2
  have hl := r.length
  have hn := line63
  have fin : EP X pins σ Q w s := ⟨z, H, I, rw', q⟩
  exact subscriptTail_builtinR (x := w) pl.typeIs slot_tuple_getitem.lookup
    (getItem_tuple (j := j) (Q := fun r s' => r = w ∧ EP X pins σ Q r s') pl (by omega) (by omega) (by rw [List.size_toArray, ← hl]; exact h1) (by simpa using ew) ⟨rfl, fin⟩) hs
theorem ix_str : IxR X rIxS := by
  intro value slice pins s σ H x y v u Q I rx ry h hs
  obtain ⟨z, i, c, rfl, rfl, hz, he, q⟩ := h
  obtain ⟨t, rfl⟩ := rx
  obtain ⟨t', rfl⟩ := ry
  obtain ⟨j, h1, h2, h3, h4, h5⟩ := atI_get he
  have hl : z.cps.toList.length = z.length := by simp [Str.length]
  rw [hl] at h1 h4 h5
  have hn := line63
  exact tail_any (typeIs_str s z t) slot_str_getitem.lookup (getItem_str (c := c) (by
    have e1 : decide (i < -(2 ^ 63 : Int)) = false := decide_eq_false (by omega)
    have e2 : decide (i ≥ 2 ^ 63) = false := decide_eq_false (by omega)
    rw [e1, e2, Bool.or_false]) (by rw [h1]; simpa using h2) ⟨.str ⟨#[c]⟩, H, I.tok _, ⟨_, rfl⟩, q⟩) hs
noncomputable def rIx (K : PySem.W.Frag) : R2 := fun x y H Q => rIxL K x y H Q ∨ rIxT K x y H Q ∨ rIxS x y H Q
theorem ix_seq : IxR X (rIx X.K) := ix_list.or (ix_tup.or ix_str)
theorem mapSeq_set (its : List Value) (n j : Nat) (u : Value) : Obj.mapSeq (·.setIfInBounds j u) { cls := .type "list", data := .seq its.toArray n } = { cls := .type "list", data := .seq (its.set j u).toArray n } := by
  simp [Obj.mapSeq]
theorem Inv.lst {pins : List (Addr × Obj)} {σ : St} {H : Hp} {s : Shared} {p : Addr} {xs : List V} (I : Inv X pins σ H s) (h : H p = some (.lst xs)) :
    ∃ (its : List Value) (n : Nat), Vals xs its ∧ s.heap.get? p = some { cls := .type "list", data := .seq its.toArray n } ∧ xs.length ≤ sizeLine := by
  obtain ⟨z, its, n, r, e⟩ := I.hok p _ h
  exact ⟨its, n, r, e, z⟩
theorem Inv.lstUpd {pins : List (Addr × Obj)} {σ : St} {H : Hp} {s : Shared} {p : Addr} {xs ys : List V} {its its' : List Value} {n n' : Nat} {f : Obj → Obj} (I : Inv X pins σ H s) (h : H p = some (.lst xs))
    (ho : s.heap.get? p = some { cls := .type "list", data := .seq its.toArray n }) (hf : f { cls := .type "list", data := .seq its.toArray n } = { cls := .type "list", data := .seq its'.toArray n' }) (r : Vals ys its') (hz : ys.length ≤ sizeLine) (t : Nat) :
    Inv X pins σ (upd H p (.lst ys)) { s with heap := s.heap.update p f, toks := t } := by
  have e : (s.heap.update p f).get? p = some { cls := .type "list", data := .seq its'.toArray n' } := by
    rw [Heap.get?_update_self f ho (by rw [hf] <;> rfl), hf]
  refine I.write (x := p) (e := p) (by rw [h]; trivial) (.inl rfl) (fun b u hb q => (Heap.get?_update_other _ _ (Ne.symm hb)).trans q) ⟨_, e⟩ ?_
  exact ⟨hz, its', n', r, e⟩
noncomputable def rSetL : V → V → V → Hp → (Hp → Prop) → Prop := fun o i v H Q => ∃ p xs k j, o = .ref p ∧ i = .int k ∧ H p = some (.lst xs) ∧ ixN xs.length k = some j ∧ Q (upd H p (.lst (xs.set j v)))
theorem set_list : PSet X rSetL := by
  intro pins s σ H o i v ov iv u Q I ro ri rv h
  obtain ⟨p, xs, k, j, rfl, rfl, hp, hj, q⟩ := h
  cases ro
  obtain ⟨t, rfl⟩ := ri
  obtain ⟨its, n, r, ho, hz⟩ := I.lst hp
  obtain ⟨h1, h2, h3, h4⟩ := ixN_seq hj
  have hl := r.length
  have hn := line63
  have I' : Inv X pins σ (upd H p (.lst (xs.set j v))) { s with heap := s.heap.update p (Obj.mapSeq (·.setIfInBounds j u)) } :=
    I.lstUpd hp ho (mapSeq_set its n j u) (r.set rv j) (by rw [List.length_set]; exact hz) s.toks
  by_cases h0 : 0 ≤ k
  · have hk : k.toNat = j := by
      rw [seqIndex_of h0 h4] at h1
      exact Option.some.inj h1
    exact PySem.W.ki_setAt ho h0 (by omega) (by rw [List.size_toArray, ← hl]; exact h4) (by rw [hk]; exact ⟨_, I', q⟩)
  · have hk : (k + (its.toArray.size : Int)).toNat = j := by
      rw [seqIndex_neg (by omega) h3] at h1
      rw [List.size_toArray, ← hl]
      exact Option.some.inj h1
    exact PySem.W.ki_setBack ho (by omega) (by rw [List.size_toArray, ← hl]; exact h3) (by omega) (by rw [hk]; exact ⟨_, I', q⟩)
theorem slice_bounds (lo hi : Option Int) (n : Nat) : (sliceBounds lo hi none n).1 = ((HT.sIx n 0 lo : Nat) : Int) ∧ (sliceBounds lo hi none n).2.1 = ((HT.sIx n n hi : Nat) : Int) ∧ (sliceBounds lo hi none n).2.2 = 1 := by
  refine ⟨?_, ?_, rfl⟩
  · cases lo with
    | none => simp [sliceBounds, HT.sIx]
    | some i =>
      simp only [sliceBounds, HT.sIx, Option.getD_none, show (1 : Int) > 0 by decide, if_true]
      by_cases h : i < 0
      · simp only [h, if_true] <;> omega
      · simp only [h, if_false] <;> omega
  · cases hi with
    | none => simp [sliceBounds, HT.sIx]
    | some i =>
      simp only [sliceBounds, HT.sIx, Option.getD_none, show (1 : Int) > 0 by decide, if_true]
      by_cases h : i < 0
      · simp only [h, if_true] <;> omega
      · simp only [h, if_false] <;> omega
theorem slicePick_cut (its : List Value) (lo hi : Option Int) : slicePick its.toArray lo hi none = ((its.drop (HT.sIx its.length 0 lo)).take (HT.sIx its.length its.length hi - HT.sIx its.length 0 lo)).toArray := by
  obtain ⟨h1, h2, h3⟩ := slice_bounds lo hi its.toArray.size
  unfold slicePick
  rw [h1, h2, h3]
  simp only [sliceRange_one, pick_run, List.size_toArray] <;> rfl
noncomputable def rSlL (K : PySem.W.Frag) : V → Option Int → Option Int → Hp → VK → Prop := fun x lo hi H Q => ∃ a xs, x = .ref a ∧ SqL K H a xs ∧ ∀ p, H p = none → Q (.ref p) (upd H p (.lst (cutV xs lo hi)))
theorem sl_list : SlR X (rSlL X.K) := by
  intro pins s σ H x v vl vu lo hi sl Q I rx hs pl pu h
  obtain ⟨a, xs, rfl, hx, q⟩ := h
  cases rx
  obtain ⟨its, r, ht, hz⟩ := I.list hx
  have hlen := r.length
  refine ⟨"list", _, slot_list_getitem.lookup, ht.isList.typeIs, ?_⟩
  refine wpAny_getItem_list_slice ht.isList hs pl pu .none (by simp) ?_ (by rw [List.size_toArray] <;> omega)
  rw [slicePick_cut, ← hlen]
  refine ⟨.ref s.heap.objs.size, _, I.laid (t' := s.toks) (o := .lst (cutV xs lo hi)) (fun b ob q => Heap.get?_push_of_some _ q) (Nat.le_refl _) ?_, rfl, q _ (I.hok.fresh (Nat.le_refl _))⟩
  exact ⟨Nat.le_trans (cutV_length xs lo hi) hz, _, 0, (r.drop (HT.sIx xs.length 0 lo)).take (HT.sIx xs.length xs.length hi - HT.sIx xs.length 0 lo), Heap.get?_push_size _ rfl⟩
theorem CallR.or {f : Value} {r r' : List V → Hp → VK → Prop} (h : CallR X f r) (h' : CallR X f r') : CallR X f (fun xs H Q => r xs H Q ∨ r' xs H Q) := by
  intro pins s σ H xs us Q I rs q
  rcases q with q | q
  · exact h pins s σ H xs us Q I rs q
  · exact h' pins s σ H xs us Q I rs q
theorem call_list_of : CallR X (.type "list") (fun xs H Q => ∃ p ys, xs = [.ref p] ∧ (SqL X.K H p ys ∨ SqT X.K H p ys) ∧ ∀ l, H l = none → Q (.ref l) (upd H l (.lst ys))) := by
  intro pins s σ H xs us Q I r h
  obtain ⟨p, ys, rfl, hq, q⟩ := h
  obtain ⟨u, rfl, rx⟩ := vals1 r
  cases rx
  have fin : ∀ (its : List Value), Vals ys its → ys.length ≤ sizeLine → ∀ (h' : Heap) (c' : Nat), (∀ b o', s.heap.get? b = some o' → h'.get? b = some o') →
      h'.get? s.heap.objs.size = some { cls := .type "list", dict := none, data := .seq its.toArray c', slots := #[] } → EP X pins σ Q (.ref s.heap.objs.size) { s with heap := h' } := fun its r' hz h' c' kp e =>
    ⟨.ref s.heap.objs.size, _, I.laid (t' := s.toks) kp (Nat.le_refl _) (show ObjOk X.prog X.w _ h' _ (.lst ys) from ⟨hz, its, c', r', e⟩), rfl, q _ (I.hok.fresh (Nat.le_refl _))⟩
  rcases hq with hq | hq
  · obtain ⟨its, r', pl, hz⟩ := I.list hq
    have hlen := r'.length
    obtain ⟨o, ho, hc, n, hd⟩ := pl.isList
    exact call_list_seq p (.inl rfl) ho hc hd (fun h' c' kp e => fin its r' hz h' c' kp e) (by simp only [List.size_toArray] <;> omega)
  · obtain ⟨its, r', pl, hz⟩ := I.tuple hq
    have hlen := r'.length
    obtain ⟨o, ho, hc, n, hd⟩ := pl
    exact call_list_seq p (.inr rfl) ho hc hd (fun h' c' kp e => fin its r' hz h' c' kp e) (by simp only [List.size_toArray] <;> omega)
noncomputable def tyV (K : PySem.W.Frag) (T : String) (x : V) (H : Hp) : Prop := match x with
  | .str _ => T = "str"
  | .int _ => T = "int"
  | .ref p => (T = "list" ∧ ∃ xs, SqL K H p xs) ∨ (T = "tuple" ∧ ∃ o, K.lookup p = some o ∧ o.cls = .type "tuple" ∧ o.dict = none) ∨
      (T = "dict" ∧ ((∃ kvs, H p = some (.dK kvs)) ∨ ∃ kvs, H p = some (.dT kvs))) ∨ (T = "set" ∧ ∃ S n, H p = some (.set S n))
  | _ => False
theorem tyV_is {pins : List (Addr × Obj)} {σ : St} {H : Hp} {s : Shared} {T : String} {x : V} {v : Value} (I : Inv X pins σ H s) (r : RelV x v) (ty : tyV X.K T x H) :
    s.TypeIs v T ∧ ∀ a, v = .ref a → ∃ ob, s.heap.get? a = some ob ∧ ob.dict = none := by
  cases x with
  | str z =>
    obtain ⟨t, rfl⟩ := r
    cases (show T = "str" from ty)
    exact ⟨typeIs_str s z t, fun _ e => nomatch e⟩
  | int i =>
    obtain ⟨t, rfl⟩ := r
    cases (show T = "int" from ty)
    exact ⟨typeIs_int s i t, fun _ e => nomatch e⟩
  | ref p =>
    cases r
    rcases ty with ⟨rfl, xs, hq⟩ | ⟨rfl, o, hk, hc, hd⟩ | ⟨rfl, hk⟩ | ⟨rfl, S, n, hk⟩
    · obtain ⟨its, _, pl, _⟩ := I.list hq
      refine ⟨pl.isList.typeIs, fun a e => ?_⟩
      cases e
      obtain ⟨o, n, e, c, hd, _⟩ := pl
      exact ⟨o, e, hd⟩
    · refine ⟨⟨o, I.kIn p o hk, hc⟩, fun a e => ?_⟩
      cases e
      exact ⟨o, I.kIn _ o hk, hd⟩
    · have z : ∃ o, s.heap.get? p = some o ∧ o.ExactDict := by
        rcases hk with ⟨kvs, hk⟩ | ⟨kvs, hk⟩
        · obtain ⟨_, _, _, _, o, _, _, e, ex, _⟩ := I.hok p _ hk
          exact ⟨o, e, ex⟩
        · obtain ⟨_, _, _, _, o, _, _, e, ex, _⟩ := I.hok p _ hk
          exact ⟨o, e, ex⟩
      obtain ⟨o, e, ex⟩ := z
      refine ⟨⟨o, e, ex.1⟩, fun a e2 => ?_⟩
      cases e2
      exact ⟨o, e, ex.2.1⟩
    · obtain ⟨o, _, _, _, e, ex, _⟩ := I.hok p _ hk
      refine ⟨⟨o, e, ex.1⟩, fun a e2 => ?_⟩
      cases e2
      exact ⟨o, e, ex.2.1⟩
  | _ => exact False.elim ty
noncomputable def tBM0 (K : PySem.W.Frag) (T : String) (r : V → List V → Hp → VK → Prop) (to : TE) : TE := fun σ H Q => to σ H fun x H1 => tyV K T x H1 ∧ r x [] H1 Q
noncomputable def tBM (K : PySem.W.Frag) (T : String) (r : V → List V → Hp → VK → Prop) (to : TE) (t : TA) : TE := fun σ H Q => to σ H fun x H1 => tyV K T x H1 ∧ t σ H1 fun xs H2 => r x xs H2 Q
variable {o e : Expr} {es : List Expr} {to : TE} {t : TA} {name : Str} {apos cpos : Pos} {T id : String} {r : V → List V → Hp → VK → Prop}
theorem pe_bm0 (pa : PlainAttrs T) (slot : Slot T name id) (hty : typeOf (.builtin id) = pure (.type "method_descriptor")) (hm : MtR X id r) (ho : PE X o to)
    (hbase : attributeBase o name X.env (eval o X.env) = eval o X.env := by rfl) (hline : (apos.endLine == cpos.line) = true := by rfl) : PE X (.Call (.Attribute o name apos) [] [] cpos) (tBM0 X.K T r to) := by
  intro pins s σ H Q I h
  refine wpAny_Call_method0_late hbase hline (thn (ho pins s σ H _ I h) fun v s1 ⟨x, H1, I1, r1, ty, q1⟩ => ?_)
  obtain ⟨h1, h2⟩ := tyV_is I1 r1 ty
  exact ⟨T, id, pa, slot, hty, h1, h2, Calls.callWith_builtin rfl (PySem.evalArgs_none (hm pins s1 σ H1 x [] v [] Q I1 r1 .nil q1))⟩
theorem pe_bm (pa : PlainAttrs T) (slot : Slot T name id) (hty : typeOf (.builtin id) = pure (.type "method_descriptor")) (hm : MtR X id r) (ho : PE X o to) (ha : PA X (e :: es) t)
    (hbase : attributeBase o name X.env (eval o X.env) = eval o X.env := by rfl)
    (hfew : ((backTo cpos (starEach (e :: es) X.env)).all (fun x => !x.1) && (backToKw cpos (keywordEach [] X.env)).all (fun x => x.1.isSome)
      && decide ((e :: es).length + ([] : List Keyword).length + (if ([] : List Keyword).isEmpty then 0 else 1) < 30)) = true := by rfl)
    (hline : (apos.endLine == cpos.line) = true := by rfl) (hs : starEach (e :: es) X.env = (false, eval e X.env) :: starEach es X.env := by rfl) (hplain : (backTo cpos (starEach es X.env)).any (·.1) = false := by rfl) :
    PE X (.Call (.Attribute o name apos) (e :: es) [] cpos) (tBM X.K T r to t) := by
  intro pins s σ H Q I h
  refine wpAny_Call_method_late hbase hfew hline rfl (thn (ho pins s σ H _ I h) fun v s1 ⟨x, H1, I1, r1, ty, q1⟩ => ?_)
  obtain ⟨h1, h2⟩ := tyV_is I1 r1 ty
  refine ⟨T, id, pa, slot, hty, h1, h2, ?_⟩
  have hA := ha cpos pins s1 σ H1 _ I1 q1
  rw [hs] at hA ⊢
  refine Calls.callWith_builtin (by show (false || (backTo cpos (starEach es X.env)).any (·.1)) = false; rw [hplain] <;> rfl) (Calls.evalArgs_plain ?_)
  exact thn hA fun us s2 ⟨vs, H2, I2, r2, q2⟩ => hm pins s2 σ H2 x vs v us Q I2 r1 r2 q2
end
end L2
namespace L2
open PySem PySem.Spec PyProof.Rows
noncomputable def MtM (X : Cx) (id : String) (r : V → List V → Hp → VK → Prop) : Prop :=
  ∀ (pins : List (Addr × Obj)) (s : Shared) (σ : St) (H : Hp) (x : V) (xs : List V) (v : Value) (us : List Value) (Q : VK), Inv X pins σ H s → RelV x v → Vals xs us → r x xs H Q →
    wpAny (model X.prog X.w) X.A (call (.builtin id) (v :: us)) (EP X pins σ Q) X.xe s
theorem Vals.one : ∀ {x : V} {us : List Value}, Vals [x] us → ∃ u, us = [u] ∧ RelV x u
  | _, _, .cons r .nil => ⟨_, rfl, r⟩
theorem Vals.zero : ∀ {us : List Value}, Vals [] us → us = []
  | _, .nil => rfl
theorem Vals.rep {xs : List V} {us : List Value} (h : Vals xs us) : ∀ k : Nat, Vals (List.replicate k xs).flatten (List.replicate k us).flatten
  | 0 => .nil
  | k + 1 => by
    rw [List.replicate_succ, List.replicate_succ, List.flatten_cons, List.flatten_cons]
    exact Vals.append h (Vals.rep h k)
theorem foldl_rep (its : List Value) : ∀ (k : Nat) (acc : List Value),
    List.foldl (fun x1 x2 => x1 ++ x2) acc.toArray (List.replicate k its.toArray) = (acc ++ (List.replicate k its).flatten).toArray
  | 0, acc => by simp
  | k + 1, acc => by
    have e : acc.toArray ++ its.toArray = (acc ++ its).toArray := by simp
    have e2 : (acc ++ its) ++ (List.replicate k its).flatten = acc ++ (List.replicate (k + 1) its).flatten := by
      rw [List.replicate_succ, List.flatten_cons, List.append_assoc]
    rw [← e2, ← foldl_rep its k (acc ++ its), ← e, List.replicate_succ, List.foldl_cons]
section
variable {X : Cx} {pins : List (Addr × Obj)} {σ : St} {H : Hp} {s : Shared} {l b : Addr} {xs ys zs : List V}
theorem Inv.lset {its its' : List Value} {n : Nat} {f : Array Value → Array Value} {t' : Nat} (I : Inv X pins σ H s) (hH : H l = some (.lst xs))
    (e : s.heap.get? l = some { cls := .type "list", data := .seq its.toArray n }) (hf : f its.toArray = its'.toArray) (hv : Vals ys its') (hz : ys.length ≤ sizeLine) :
    Inv X pins σ (upd H l (.lst ys)) { s with heap := s.heap.update l (Obj.mapSeq f), toks := t' } := by
  have q := PySem.IsL.update e f
  rw [hf] at q
  refine I.write (x := l) (e := l) (by rw [hH]; exact trivial) (.inl rfl) (fun b' u hb hu => (Heap.get?_update_other s.heap (Obj.mapSeq f) (Ne.symm hb)).trans hu) ⟨_, q⟩ ?_
  exact ⟨hz, its', _, hv, q⟩
theorem Inv.lnew {its : List Value} {t' : Nat} (I : Inv X pins σ H s) (hv : Vals ys its) (hz : ys.length ≤ sizeLine) :
    Inv X pins σ (upd H s.heap.objs.size (.lst ys)) { s with heap := s.heap.push { cls := .type "list", data := .seq its.toArray }, toks := t' } :=
  I.laid (fun _ _ q => Heap.get?_push_of_some _ q) (Nat.le_refl _) ⟨hz, its, 0, hv, Heap.get?_push_size _ rfl⟩
theorem Inv.fresh (I : Inv X pins σ H s) : H s.heap.objs.size = none := I.hok.fresh (Nat.le_refl _)
theorem Inv.lstM (I : Inv X pins σ H s) (hH : H l = some (.lst xs)) : xs.length ≤ sizeLine ∧ ∃ (its : List Value) (n : Nat), Vals xs its ∧ xs.length = its.length ∧ s.heap.get? l = some { cls := .type "list", data := .seq its.toArray n } := by
  obtain ⟨z, its, n, r, e⟩ := I.hok l _ hH
  exact ⟨z, its, n, r, r.length, e⟩
theorem notLongL {n : Nat} (h : n ≤ sizeLine) : Builtin.List.listTooLong n = false := by
  unfold Builtin.List.listTooLong
  exact decide_eq_false (by omega)
end
section
variable {X : Cx}
noncomputable def rAppend : V → List V → Hp → VK → Prop := fun x vs H Q => ∃ l xs y, x = .ref l ∧ vs = [y] ∧ H l = some (.lst xs) ∧ xs.length < sizeLine ∧ Q .non (upd H l (.lst (xs ++ [y])))
theorem mt_append : MtM X "list.append" rAppend := by
  intro pins s σ H x vs v us Q I rx rv h
  obtain ⟨l, xs, y, rfl, rfl, hH, hz, q⟩ := h
  cases rx
  obtain ⟨u, rfl, ru⟩ := rv.one
  obtain ⟨z, its, n, r, hl, e⟩ := I.lstM hH
  refine call_meets F.slot_list_append ⟨_, e, rfl⟩ F.entry_list_append (F.args_list_append_2 _ _) (PySem.list_append l its.toArray n u (by rw [List.size_toArray]; omega)) ⟨e, ?_⟩
  refine ⟨.non, _, I.lset (its' := its ++ [u]) hH e (by simp) (r.append (.cons ru .nil)) ?_, rfl, q⟩
  rw [List.length_append, List.length_singleton]
  omega
noncomputable def rClear : V → List V → Hp → VK → Prop := fun x vs H Q => ∃ l xs, x = .ref l ∧ vs = [] ∧ H l = some (.lst xs) ∧ Q .non (upd H l (.lst []))
theorem mt_clear : MtM X "list.clear" rClear := by
  intro pins s σ H x vs v us Q I rx rv h
  obtain ⟨l, xs, rfl, rfl, hH, q⟩ := h
  cases rx
  have hus := rv.zero
  subst hus
  obtain ⟨z, its, n, r, hl, e⟩ := I.lstM hH
  refine call_meets F.slot_list_clear ⟨_, e, rfl⟩ F.entry_list_clear (F.args_list_clear_1 _) (AutoSeq1.list_clear_list_0 l its.toArray n (by rw [List.size_toArray]; omega)) ⟨e, ?_⟩
  exact ⟨.non, _, I.lset (its' := []) (ys := []) hH e rfl .nil (Nat.zero_le _), rfl, q⟩
theorem len_rep {α : Type} (xs : List α) (k : Nat) : (List.replicate k xs).flatten.length = k * xs.length := by
  induction k with
  | zero => simp
  | succ k ih => rw [List.replicate_succ, List.flatten_cons, List.length_append, ih, Nat.succ_mul, Nat.add_comm]
end
section
variable {prog : Program} {w : World} {A : Around} {E : Value → Shared → Prop} {s : Shared}
end
section
variable {X : Cx}
end
end L2
namespace Att
open PySem PySem.W PySem.Calls PyProof.Rows
theorem ints_of_wellAll {P : Params} {h : Heap} : ∀ (ns : List Int) (vs : List Value), WellAll P h vs (ns.map WData.int) → IntsAre vs ns := by
  intro ns
  induction ns with
  | nil =>
    intro vs w
    rw [List.map_nil] at w
    cases w
    exact .nil
  | cons n ns ih =>
    intro vs w
    rw [List.map_cons] at w
    cases w with
    | cons a b =>
      cases a
      exact .cons _ _ (ih _ b)
theorem script_of {l : OpenLaw} {n : Nat} (hn : l.most = some n) {P : Params} {h : Heap} {args : List WData} {vals : List Value}
    (hpre : l.row.toRowW.claim.pre args = true) (hwl : WellAll P h vals args) :
    ∃ a vs ns, vals = [Value.ref a] ∧ args = [WData.list (ns.map WData.int)] ∧ h.get? a = some { cls := .type "list", data := .seq vs.toArray } ∧ IntsAre vs ns ∧ ns.length ≤ n := by
  have hsh : WShape.hasAll [] args [.list .int] = true := (pre_splitW hpre).1
  have hc : l.pre.holds [] { args := args } = true := (pre_splitW hpre).2
  obtain ⟨d, r, rfl, h1, h2⟩ := hasAllW_cons hsh
  obtain rfl := hasAllW_nil h2
  obtain ⟨xs, rfl, h3⟩ := hasW_list h1
  obtain ⟨ns, rfl⟩ := items_int h3
  have hlen : ns.length ≤ n := by
    unfold OpenLaw.pre at hc
    have h4 : (WTm.not (.lt (.lit (.int (n : Int))) (.len (.arg 0)))).holds [] { args := [.list (ns.map .int)] } = true := by
      have h4 := (holds_andW hc).1
      rw [hn] at h4
      exact h4
    have h5 := condW_of h4 (w_not (w_lt w_lit (w_len_list (w_arg rfl))))
    rw [List.length_map] at h5
    refine Nat.le_of_not_lt fun q => ?_
    have q' : (n : Int) < ((ns.length : Nat) : Int) := by omega
    first
      | (rw [decide_eq_true q'] at h5; exact absurd h5 (by decide))
      | (simp at h5; omega)
  cases hwl with
  | cons w1 w2 =>
    cases w2
    cases w1 with
    | list ho hall => exact ⟨_, _, ns, rfl, rfl, ho, ints_of_wellAll ns _ hall, hlen⟩
theorem post_true (l : OpenLaw) (args : List WData) : l.row.toRowW.claim.post args (.bool true) args = true :=
  postW_of (r := l.row.toRowW) (X := (true == true))
    (show WShape.has [] (.bool true) .bool = true by first | rfl | decide | simp [WShape.has, WShape.arms, WShape.armsAll])
    (show (WTm.eq .res (.lit (.bool true))).value [] { args := args, res := some (.bool true), after := args } = some (.bool (true == true)) from w_eq_bool (w_res rfl) w_lit) rfl
theorem attach_call {l : OpenLaw} {n : Nat} {q : Program} {loose : List Str} {XP : (Str → Option Value) → Heap → Prop} {YP : World → Heap → Prop} {d : DefRec}
    (hn : l.most = some n) (hdf : d.params.defaults = [])
    (call : ∀ (w : World) (s₀ s₁ : Shared) (mg mb : Str → Option Value) (fa : Addr) (o : Obj) (pm cd doc : Value) (a : Addr) (vs : List Value) (ns : List Int),
      Ground q loose [] XP w s₀ mg mb s₁.heap → YP w s₁.heap →
      s₁.heap.get? fa = some o → o.data = .func (docDef d.name d.params d.body d.scope pm cd doc) → s₁.heap.CodeRec cd d.name → mg d.name = some (.ref fa) →
      s₁.heap.get? a = some { cls := .type "list", data := .seq vs.toArray } → IntsAre vs ns → ns.length ≤ n → s₁.gens = #[] →
      codeAny (model l.prog w) callerA (.call (.ref fa) ⟨[.ref a], []⟩) (fun r s' => r = .ok (.ret (.bool true)) ∧ OldK s₁.heap s'.heap ∧ s'.os = s₁.os ∧ AllBare s'.gens) s₁) :
    WalkO q loose XP YP l.row.toRowW d [] (fun f vs => PySem.call f vs) := by
  intro w s₀ s₁ mg mb G Y fa o pm cd doc dV kV ho hd hcd hD hmg hg args vals as hpre hlay hrd hwl hlo
  obtain rfl : dV = .none := Dflts.none hD hdf
  obtain rfl : kV = .none := Dflts.noKw hD
  obtain ⟨a, vs, ns, rfl, rfl, hobj, hints, hlen⟩ := script_of hn hpre hwl
  refine enter_call (codeAny_mono (call w s₀ s₁ mg mb fa o pm cd doc a vs ns G Y ho (fd_plain hd) hcd hmg hobj hints hlen hg) fun r s' hq => ?_)
  obtain ⟨rfl, h2, h3, h4⟩ := hq
  exact ⟨.inl ⟨.bool true, .bool true, [], rfl, fun _ => rfl, .bool true, post_true l _, fun _ => ⟨List.Pairwise.nil, fun _ hm => (nomatch hm)⟩⟩, h2, h3, h4⟩
section
variable {prog : Program} {w : World} {A : Around} {E : Value → Shared → Prop} {s : Shared} {K : Frag}
end
end Att
namespace L2
open PySem PySem.Spec PyProof.Rows
noncomputable def KL (K : PySem.W.Frag) (a : Addr) (xs : List V) : Prop :=
  ∃ (its : List Value) (n : Nat), K.lookup a = some { cls := .type "list", data := .seq its.toArray n } ∧ its.length ≤ sizeLine ∧ Vals xs its
noncomputable def Ls (K : PySem.W.Frag) (H : Hp) (a : Addr) (xs : List V) : Prop := Rd H a (.lst xs) ∨ KL K a xs
theorem vals_ints : ∀ {vs : List Value} {ns : List Int}, IntsAre vs ns → Vals (ns.map V.int) vs
  | _, _, .nil => .nil
  | _, _, .cons n t h => .cons ⟨t, rfl⟩ (vals_ints h)
noncomputable def Only (H : Hp) : Prop := ∀ b, H b = none ∨ ∃ o xs, H b = some (.frz o (.lst xs))
theorem law_call {P : Program} {w : World} {K : PySem.W.Frag} {mg mb : Str → Option Value} {CX : CXT} {k : Nat} {fa a : Addr} {fd : FuncData} {x : Str} {sp : Sp} {s₁ : Shared} {vs : List Value} {ns : List Int}
    (KX : K.In s₁.heap) (hns : s₁.heap.Ns mainGlobals mg) (hb : s₁.heap.Ns builtinsNs mb) (hbb : ∀ x : Str, x ≠ "__name__" → mb x = bootBuiltins x) (hlim : s₁.heap.NoLimit) (hg : s₁.gens = #[])
    (ha : s₁.heap.get? a = some { cls := .type "list", data := .seq vs.toArray }) (hi : IntsAre vs ns) (hl : ns.length ≤ sizeLine) (hr : Room k callerA)
    (F : ∀ base : Heap, K.In base → base.Ns mainGlobals mg → FnOk P w K mg base CX k fa fd [x] sp) (hbind : ∀ (s : Shared) (u : Value), BindsTo s fd ⟨[u], []⟩ [(x, u)])
    (hsp : ∀ H : Hp, Only H → Ls K H a (ns.map V.int) → sp [.ref a] H (fun v _ => v = .bl true) fun _ _ _ => False)
    (hCX : ∀ H e s', CX [] H s₁ (fun _ _ _ => False) e s' → False) :
    codeAny (model P w) callerA (.call (.ref fa) ⟨[.ref a], []⟩) (fun r s' => r = .ok (.ret (.bool true)) ∧ OldK s₁.heap s'.heap ∧ s'.os = s₁.os ∧ AllBare s'.gens) s₁ := by
  have rv := vals_ints hi
  have lenV := hi.length
  -- from an abstract heap in which nothing but the script may be tracked
  have core : ∀ H : Hp, Only H → Ls K H a (ns.map V.int) → HOk P w H s₁.heap → (∀ b, H b ≠ none → b = a) → (H a ≠ none → K.lookup a = none) →
      codeAny (model P w) callerA (.call (.ref fa) ⟨[.ref a], []⟩) (fun r s' => r = .ok (.ret (.bool true)) ∧ OldK s₁.heap s'.heap ∧ s'.os = s₁.os ∧ AllBare s'.gens) s₁ := by
    intro H hO hS hok hA hK
    have base_of : ∀ {b : Addr} {o : Obj}, s₁.heap.get? b = some o → H b = none → (hidT s₁.heap H).get? b = some o := fun e n => hidT_get e n
    have noA : ∀ {b : Addr} {o : Obj} {es : Array DictEntry} {ep : Nat}, s₁.heap.get? b = some o → o.data = .dict es ep → H b = none := fun {b o es ep} e d => by
      cases q : H b with
      | none => rfl
      | some u =>
        have e' : b = a := hA b (by rw [q]; simp)
        subst e'
        rw [ha] at e; cases e
        have d' : Data.seq vs.toArray _ = Data.dict es ep := d
        cases d'
    have nsK : ∀ {b : Addr} {m : Str → Option Value}, s₁.heap.Ns b m → (hidT s₁.heap H).Ns b m := fun {b m} ⟨o, es, ep, e, d, r⟩ => ⟨o, es, ep, base_of e (noA e d), d, r⟩
    have hKb : K.In (hidT s₁.heap H) := fun b o e => base_of (KX b o e) (by
      cases q : H b with
      | none => rfl
      | some u =>
        have e' : b = a := hA b (by rw [q]; simp)
        subst e'
        rw [hK (by rw [q]; simp)] at e; cases e)
    have hM : Mod K mg (hidT s₁.heap H) := ⟨hKb, nsK hns, ⟨mb, nsK hb, hbb⟩, let ⟨mc, h1, h2⟩ := hlim; ⟨mc, nsK h1, h2⟩⟩
    have e0 : Env0 P w K mg (hidT s₁.heap H) callerA [] s₁ H := ⟨rfl, hM, fun b o e => of_hidT e, Nat.le_of_eq (hidT_size _ _), trivial, fun b hb => absurd (show b ∈ ([] : List Addr) from hb) (by simp), hok, .of_eq hg⟩
    refine codeAny_mono ((F _ hKb (nsK hns)).run callerA [] s₁ H ⟨[.ref a], []⟩ [.ref a] [.ref a] _ _ hr e0 (hbind s₁ (.ref a)) (.cons rfl .nil) (hsp H hO hS)) fun r s' h => ?_
    cases r with
    | error e => exact (hCX H e s' h).elim
    | ok fl =>
      cases fl with
      | next => exact False.elim h
      | brk => exact False.elim h
      | cont => exact False.elim h
      | ret u =>
        obtain ⟨v, H', os, bare, un, hok', r', q⟩ := h
        have q' : v = .bl true := q
        subst q'
        obtain rfl : u = Value.bool true := r'
        refine ⟨rfl, OldK.of_keep fun b o e => ?_, os, bare⟩
        cases q : H b with
        | none => exact un.keep b o e q (by intro z; exact absurd (show b ∈ ([] : List Addr) from z) (by simp)) (by simp)
        | some u =>
          rcases hO b with z | ⟨ob, xs, z⟩
          · rw [q] at z; cases z
          · have z2 := un.frzs b ob _ z
            obtain ⟨e1, _⟩ := hok b _ z
            obtain ⟨e2, _⟩ := hok' b _ z2
            rw [e] at e1; cases e1
            exact e2
  cases hk : K.lookup a with
  | some o =>
    -- the script is one of the module's own objects
    have e := KX a o hk
    rw [ha] at e
    cases e
    refine core (fun _ => none) (fun _ => .inl rfl) (.inr ⟨vs, _, hk, by rw [lenV]; exact hl, rv⟩) (fun b u z => by have z' : (none : Option HO) = some u := z; cases z') (fun b z => absurd rfl z) fun z => absurd rfl z
  | none =>
    refine core (fun b => if b = a then some (.frz { cls := .type "list", data := .seq vs.toArray } (.lst (ns.map V.int))) else none) (fun b => ?_) (.inl (.inr ⟨{ cls := .type "list", data := .seq vs.toArray }, if_pos rfl⟩)) (fun b u z => ?_) (fun b z => ?_) fun _ => hk
    · by_cases hb : b = a
      · exact .inr ⟨_, _, if_pos hb⟩
      · exact .inl (if_neg hb)
    · by_cases hb : b = a
      · have z' := (if_pos hb).symm.trans z
        cases z'
        subst hb
        exact ⟨ha, by rw [List.length_map]; exact hl, vs, _, rv, ha⟩
      · have z' := (if_neg hb).symm.trans z
        cases z'
    · by_cases hb : b = a
      · exact hb
      · exact absurd (if_neg hb) z
end L2
namespace L2
open PySem PySem.Spec PyProof.Rows
theorem walk_of {l : PySem.W.OpenLaw} {n k : Nat} {q : Program} {loose : List Str} {XP : (Str → Option Value) → Heap → Prop} {YP : World → Heap → Prop} {d : DefRec} {K : Params → PySem.W.Frag} {CX : World → CXT} {sp : World → Sp} {x : Str}
    (hn : l.most = some n) (hn2 : n ≤ sizeLine) (hdf : d.params.defaults = []) (hr : Room k callerA)
    (hY : ∀ (w : World) (h : Heap), YP w h → (K w.params).In h)
    (F : ∀ (w : World) (mg : Str → Option Value) (fa : Addr) (h : Heap), (K w.params).In h → h.Ns mainGlobals mg → mg d.name = some (.ref fa) →
      ∃ fd : FuncData, (∀ (s : Shared) (u : Value), BindsTo s fd ⟨[u], []⟩ [(x, u)]) ∧
        ∀ base : Heap, (K w.params).In base → base.Ns mainGlobals mg → FnOk l.prog w (K w.params) mg base (CX w) k fa fd [x] (sp w))
    (hsp : ∀ (w : World) (H : Hp) (a : Addr) (ns : List Int), ns.length ≤ n → Only H → Ls (K w.params) H a (ns.map V.int) → sp w [.ref a] H (fun v _ => v = .bl true) fun _ _ _ => False)
    (hCX : ∀ (w : World) (H : Hp) (s : Shared) (e : Value) (s' : Shared), CX w [] H s (fun _ _ _ => False) e s' → False) :
    PySem.W.WalkO q loose XP YP l.row.toRowW d [] (fun f vs => PySem.call f vs) := by
  refine Att.attach_call hn hdf fun w s₀ s₁ mg mb fa o pm cd doc a vs ns G Y ho hd hcd hmg hobj hints hlen hg => ?_
  have KX := hY w _ Y
  obtain ⟨fd, hb, hF⟩ := F w mg fa _ KX G.T.g hmg
  exact law_call KX G.T.g G.T.b G.T.builtins G.T.nolimit hg hobj hints (Nat.le_trans hlen hn2) hr hF hb (fun H hO hS => hsp w H a ns hlen hO hS) fun H e s' => hCX w H s₁ e s'
end L2
namespace L2
open PySem PySem.Spec PyProof.Rows
noncomputable def defArgs (s : Stmt) : Arguments := match s with
  | .FunctionDef _ a _ _ _ _ _ _ _ _ => a
  | _ => { posonlyargs := [], args := [], vararg := none, kwonlyargs := [], kw_defaults := [], kwarg := none, defaults := [] }
noncomputable def defBody (s : Stmt) : List Stmt := match s with
  | .FunctionDef _ _ b _ _ _ _ _ _ _ => b
  | _ => []
noncomputable def defScope (s : Stmt) : Scope := match s with
  | .FunctionDef _ _ _ _ _ _ sc _ _ _ => sc
  | _ => { kind := .function, names := [], isGenerator := false, isCoroutine := false }
structure Fun (K : PySem.W.Frag) (x qual : Str) (st : Stmt) (f : Addr) (fd : FuncData) : Prop where
  ex : ∃ (oc : Value) (od : Option Addr) (kV doc pm : Value) (an : Option Addr) (cdv ct : Value) (osl : Array (Option Value)),
    fd = PySem.W.fnOf x qual (defArgs st) (defBody st) (defScope st) .none kV doc pm an cdv ct ∧ K.lookup f = some ⟨oc, od, .func fd, osl⟩ ∧ PySem.W.codeIn K cdv qual = true
  kp : PySem.W.keepIn K (.ref f) = true
section
variable {P : Program} {w : World} {K : PySem.W.Frag} {mg : Str → Option Value} {base : Heap}
theorem Fun.binds {x qual : Str} {st : Stmt} {f : Addr} {fd : FuncData} {ps : List Str} (F : Fun K x qual st f fd)
    (h : ∀ (kV doc pm : Value) (an : Option Addr) (cdv ct : Value) (us : List Value), us.length = ps.length → bindArgs (PySem.W.fnOf x qual (defArgs st) (defBody st) (defScope st) .none kV doc pm an cdv ct) ⟨us, []⟩ = pure (ps.zip us)) : Binds K fd ps [] := by
  obtain ⟨oc, od, kV, doc, pm, an, cdv, ct, osl, rfl, lk, hcd⟩ := F.ex
  exact .all (h kV doc pm an cdv ct)
theorem fun_mk {x qual : Str} {st : Stmt} {f : Addr} {oc : Value} {od an : Option Addr} {osl : Array (Option Value)} {kV doc pm cdv ct : Value} (l : K.lookup f = some ⟨oc, od, .func (PySem.W.fnOf x qual (defArgs st) (defBody st) (defScope st) .none kV doc pm an cdv ct), osl⟩)
    (c : PySem.W.codeIn K cdv qual = true) (k : PySem.W.keepIn K (.ref f) = true) : Fun K x qual st f (PySem.W.fnOf x qual (defArgs st) (defBody st) (defScope st) .none kV doc pm an cdv ct) := ⟨⟨oc, od, kV, doc, pm, an, cdv, ct, osl, rfl, l, c⟩, k⟩
end
section
variable {X : Cx}
theorem pv (i : Nat) {x : Str} {pos : Pos} (hN : X.N[i]? = some x := by rfl) (hv : Vis X.env.scope x := by first | exact Or.inl rfl | exact Or.inr (Or.inl rfl) | exact Or.inr (Or.inr rfl)) (hd : (x == ("__debug__" : Str)) = false := by decide)
    (hcd : (x == ("__classdict__" : Str)) = false := by decide) : PE X (.Name x pos) (tVar i) := pe_var hN hv hd hcd
end
noncomputable def Same (H H' : Hp) : Prop := ∀ b o, H b = some o → H' b = some o
theorem Same.refl (H : Hp) : Same H H := fun _ _ h => h
theorem Same.trans {H H1 H2 : Hp} (a : Same H H1) (b : Same H1 H2) : Same H H2 := fun c o h => b c o (a c o h)
theorem Same.free {H H' : Hp} (e : Same H H') {l : Addr} (h : H' l = Option.none) : H l = Option.none := by
  cases q : H l with
  | none => rfl
  | some o =>
    rw [e l o q] at h
    cases h
theorem Same.seq {K : PySem.W.Frag} {H H' : Hp} {a : Addr} {xs : List V} (e : Same H H') (h : SqL K H a xs) : SqL K H' a xs := by
  rcases h with (h | ⟨o, h⟩) | h
  · exact .inl (.inl (e _ _ h))
  · exact .inl (.inr ⟨o, e _ _ h⟩)
  · exact .inr h
end L2
namespace L2
open PySem PySem.Spec PyProof.Rows
theorem peMono {X : Cx} {e : Expr} {t t' : TE} (h : PE X e t) (m : ∀ σ H Q, t' σ H Q → t σ H Q) : PE X e t' := fun pins s σ H Q I q => h pins s σ H Q I (m σ H Q q)
theorem ptMono {X : Cx} {e : Expr} {t t' : TT} (h : PT X e t) (m : ∀ σ H Q, t' σ H Q → t σ H Q) : PT X e t' := fun pins s σ H Q I q => h pins s σ H Q I (m σ H Q q)
theorem paMono {X : Cx} {e : List Expr} {t t' : TA} (h : PA X e t) (m : ∀ σ H Q, t' σ H Q → t σ H Q) : PA X e t' := fun pos pins s σ H Q I q => h pos pins s σ H Q I (m σ H Q q)
theorem psMono {X : Cx} {e : Stmt} {t t' : TS} (h : PS X e t) (m : ∀ D σ H, t' D σ H → t D σ H) : PS X e t' := fun pins s σ H D I q => h pins s σ H D I (m D σ H q)
theorem pssMono {X : Cx} {e : List Stmt} {t t' : TS} (h : PSs X e t) (m : ∀ D σ H, t' D σ H → t D σ H) : PSs X e t' := fun pins s σ H D I q => h pins s σ H D I (m D σ H q)
theorem piMono {X : Cx} {tg e : Expr} {t t' : TI} (h : PI X tg e t) (m : ∀ σ H Q, t' σ H Q → t σ H Q) : PI X tg e t' := fun pins s σ H Q I q => h pins s σ H Q I (m σ H Q q)
noncomputable def cxC (X : Cx) (scope : Scope) (cl : List (Str × Addr)) (N : List Str) (C : Addr) (s3 : Shared) (H3 : Hp) (fp : List Addr) : Cx :=
  { X with N := N, s₀ := s3, H₀ := H3, env := compEnvC scope cl C X.env, outer := X.stack, ex := fp, fn := fun _ => false, pn := [], xe := fun _ _ => False }
structure CompSc (X : Cx) (scope : Scope) (cl : List (Str × Addr)) (Fr : List (Str × Nat)) (Tg : List Str) : Prop where
  clos : closureFor scope X.env = pure cl
  kind : scope.kind = .function
  nocell : ∀ y ∈ scope.names, y.2 ≠ .cell
  loc : ∀ y ∈ scope.names, y.2 = .local → scope.names.lookup y.1 = some .local
  sub : ∀ x c, cl.lookup x = some c → X.env.cells.lookup x = some c
  has : ∀ x, ((relabel scope X.env).names.lookup x = some .cell ∨ (relabel scope X.env).names.lookup x = some .free) → ∃ c, cl.lookup x = some c
  out : ∀ p ∈ Fr, X.N[p.2]? = some p.1 ∧ (X.env.kindOf p.1 = some .cell ∨ X.env.kindOf p.1 = some .free) ∧ ((relabel scope X.env).names.lookup p.1 = some .cell ∨ (relabel scope X.env).names.lookup p.1 = some .free)
noncomputable def stC (Fr : List (Str × Nat)) (Tg : List Str) (σ : St) : St := Fr.map (fun p => (σ[p.2]?).join) ++ List.replicate Tg.length none
section
variable {X : Cx} {scope : Scope} {cl : List (Str × Addr)} {Fr : List (Str × Nat)} {Tg : List Str} {pins : List (Addr × Obj)} {σ : St} {H3 : Hp} {s3 : Shared} {fp : List Addr}
theorem cxC_ok (S : CompSc X scope cl Fr Tg) (I : Inv X pins σ H3 s3) (hf : ∀ b ∈ fp, FpOk X pins H3 b) (hfs : ∀ b ∈ fp, b < s3.heap.objs.size) (N : List Str) : (cxC X scope cl N s3.heap.objs.size s3 H3 fp).Ok where
  mod := I.ok.mod
  kind := S.kind
  glob := I.ok.glob
  blt := I.ok.blt
  above := Nat.le_refl _
  inj := fun x y c h1 h2 => I.ok.inj x y c (S.sub x c h1) (S.sub y c h2)
  has := fun x h => S.has x h
  cab := fun x c h _ => absurd (show false = true from h) (by decide)
  hd := I.ok.hd
  frames := I.ok.frames
  stk := .inl rfl
  exf := fun b hb => ⟨Nat.ne_of_lt (hfs b hb), fun x c e z => (hf b hb).2.2.2.2.1 x c (S.sub x c e) z⟩
  bs := I.bs
  bsz := Nat.le_trans I.ok.bsz I.sz
  noex := fun b o e hb => by
    rcases (hf b hb).2.2.2.1 with z | z
    · exact I.ok.noex b o e z
    · exact absurd (Nat.lt_of_lt_of_le (Heap.lt_size e) (Nat.le_trans I.ok.bsz z)) (Nat.lt_irrefl _)
  exfs := fun b hb z => by
    rcases List.mem_cons.mp (I.stkSub b z) with z | z
    · exact (hf b hb).2.1 z
    · exact (hf b hb).2.2.1 z
  funs := I.stack
  frf := I.stkFree
theorem cxC_start (S : CompSc X scope cl Fr Tg) (I : Inv X pins σ H3 s3) (hf : ∀ b ∈ fp, FpOk X pins H3 b) (hfs : ∀ b ∈ fp, b < s3.heap.objs.size) {h' : Heap} {tk : Nat}
    (hns : h'.Ns s3.heap.objs.size (fun _ => none)) (hk : ∀ b o, s3.heap.get? b = some o → h'.get? b = some o) (hTg : ∀ x ∈ Tg, True) :
    Inv (cxC X scope cl (Fr.map (·.1) ++ Tg) s3.heap.objs.size s3 H3 fp) [] (stC Fr Tg σ) H3 { s3 with heap := h', toks := tk } where
  ok := cxC_ok S I hf hfs _
  os := rfl
  bare := I.bare
  base := Un.kept hk
  loc := by
    refine ⟨_, hns, fun i x v e1 e2 e3 => ?_⟩
    have hi : i < Fr.length := by
      by_cases hi : i < Fr.length
      · exact hi
      · unfold stC at e2
        rw [List.getElem?_append_right (by simpa using hi), List.getElem?_replicate] at e2
        split at e2 <;> cases e2
    have e1' : (Fr.map (·.1))[i]? = some x := by
      rw [← e1]
      exact (List.getElem?_append_left (by simpa using hi)).symm
    have e2' : (Fr.map (fun p => (σ[p.2]?).join))[i]? = some (some v) := by
      rw [← e2]
      exact (List.getElem?_append_left (by simpa using hi)).symm
    rw [List.getElem?_map] at e1' e2'
    obtain ⟨p, hp, rfl⟩ := Option.map_eq_some_iff.mp e1'
    rw [hp] at e2'
    have e2'' : (σ[p.2]?).join = some v := Option.some.inj e2'
    have e4 : σ[p.2]? = some (some v) := by
      cases q : σ[p.2]? with
      | none => rw [q] at e2''; cases e2''
      | some y => rw [q] at e2''; rw [show y = some v from e2'']
    obtain ⟨o1, o2, o3⟩ := S.out p (List.mem_of_getElem? hp)
    obtain ⟨m, hn, hl⟩ := I.loc
    have hv : Vis X.env.scope p.1 := by
      rcases o2 with o2 | o2
      · exact .inr (.inl o2)
      · exact .inr (.inr o2)
    obtain ⟨u, r, l⟩ := hl p.2 p.1 v o1 e4 hv
    refine ⟨u, r, .inr ⟨o3, ?_⟩⟩
    obtain ⟨c, hc⟩ := S.has p.1 o3
    refine ⟨c, hc, ?_⟩
    have hc' := S.sub _ _ hc
    rcases l with ⟨k, _⟩ | ⟨_, c2, h2, z⟩
    · rcases o2 with o2 | o2 <;> (rw [k] at o2; cases o2)
    · rw [hc'] at h2; cases h2
      obtain ⟨o, ho, hd⟩ := z
      exact ⟨o, hk _ _ ho, hd⟩
  cell := fun x c e => by
    obtain ⟨v, o, ho, hd⟩ := I.cell x c (S.sub x c e)
    exact ⟨v, o, hk _ _ ho, hd⟩
  free := I.hok.fresh (Nat.le_refl _)
  freeC := fun x c e => I.freeC x c (S.sub x c e)
  pin := fun p hp => absurd (show p ∈ ([] : List (Addr × Obj)) from hp) (by simp)
  hok := I.hok.kept hk
  len := by
    unfold stC
    show _ = (Fr.map (·.1) ++ Tg).length
    simp
end
noncomputable def PTs (X : Cx) (ifs : List Expr) (t : TT) : Prop :=
  ∀ (pins : List (Addr × Obj)) (s : Shared) (σ : St) (H : Hp) (Q : Bool → Hp → Prop), Inv X pins σ H s → t σ H Q →
    wpAny (model X.prog X.w) X.A (forIn ifs true fun c r => if r = true then do let ok ← isTrue c X.env (eval c X.env); pure (ForInStep.yield ok) else pure (ForInStep.yield r)) (TP X pins σ Q) X.xe s
theorem tests_false {M : Model} {A : Around} {E : Value → Shared → Prop} {s : Shared} {env : Env} {Q : Bool → Shared → Prop} (h : Q false s) : ∀ ifs : List Expr,
    wpAny M A (forIn ifs false fun c r => if r = true then do let ok ← isTrue c env (eval c env); pure (ForInStep.yield ok) else pure (ForInStep.yield r)) Q E s
  | [] => by
    rw [List.forIn_nil]
    exact wpAny_pure h
  | c :: cs => by
    rw [List.forIn_cons]
    rw [if_neg Bool.false_ne_true]
    exact wpAny_bind (wpAny_pure (tests_false h cs))
theorem pts_nil {X : Cx} : PTs X [] (fun _ H Q => Q true H) := fun pins s σ H Q I q => by
  rw [List.forIn_nil]
  exact wpAny_pure ⟨H, I, q⟩
theorem pts_cons {X : Cx} {c : Expr} {cs : List Expr} {t u : TT} (hc : PT X c t) (hr : PTs X cs u) : PTs X (c :: cs) (tAnd t u) := fun pins s σ H Q I q => by
  rw [List.forIn_cons, if_pos rfl]
  refine wpAny_bind (wpAny_bind (thn (hc pins s σ H _ I q) fun b s1 ⟨H1, I1, q1⟩ => wpAny_pure ?_))
  cases b with
  | true => exact hr pins s1 σ H1 Q I1 q1
  | false => exact tests_false ⟨H1, I1, q1⟩ cs
noncomputable def tCmpr (wi : TI) (start : St → St) (g : TG) (tt : TT) (te : TE) : TE := fun σ H Q => wi σ H fun J H1 => ∀ D, H1 D = none → ∃ W : Nat → Nat → St → Hp → Prop, (∃ m, W 0 m (start σ) (upd H1 D (.lst []))) ∧
  ∀ i m σ' H', W i m σ' H' → (J.stop i H' ∧ Q (.ref D) H') ∨ (J.go i H' ∧ ∀ x H2, J.yld i H' x H2 → g x σ' H2 fun σ2 H3 => tt σ2 H3 fun b H4 =>
    if b = true then te σ2 H4 fun v H5 => ∃ ys, H5 D = some (.lst ys) ∧ ys.length < sizeLine ∧ ∃ m', m' < m ∧ W (i + 1) m' σ2 (upd H5 D (.lst (ys ++ [v])))
    else ∃ m', m' < m ∧ W (i + 1) m' σ2 H4)
section
variable {X : Cx} {scope : Scope} {cl : List (Str × Addr)} {Fr : List (Str × Nat)} {Tg : List Str} {elt tg iter : Expr} {ifs : List Expr} {wi : TI} {g : TG} {tt : TT} {te : TE} {pos : Pos}
theorem compTurn_any (scope : Scope) (pos : Pos) (it acc : Value) (env : Env) :
    compTurn (.ListComp elt [⟨tg, iter, ifs, 0⟩] scope pos) 0 it acc env = (do
      standAt iter.pos
      match ← pyNext it with
      | none => pure (.done .next)
      | some v =>
        letOwnedTupleGo tg it v
        assign tg env v
        let ok ← forIn ifs true fun c r => if r = true then do let ok ← isTrue c env (eval c env); pure (ForInStep.yield ok) else pure (ForInStep.yield r)
        if ok = true then
          (do let _ ← call (.builtin "list.append") [acc, ← eval elt env])
        again (.compLoop (.ListComp elt [⟨tg, iter, ifs, 0⟩] scope pos) 0 it acc env)) := by rfl
theorem comp_block (hc : X.calm = true) (S : CompSc X scope cl Fr Tg)
    (hg : ∀ C s H fp, PG (cxC X scope cl (Fr.map (·.1) ++ Tg) C s H fp) tg g) (ht : ∀ C s H fp, PTs (cxC X scope cl (Fr.map (·.1) ++ Tg) C s H fp) ifs tt)
    (he : ∀ C s H fp, PE (cxC X scope cl (Fr.map (·.1) ++ Tg) C s H fp) elt te)
    {pins : List (Addr × Obj)} {σ : St} {H2 : Hp} {s2 : Shared} {it : Addr} {fp : List Addr} {tn : Nat → Heap → Prop} {J : It} {Q : VK} (I2 : Inv X pins σ H2 s2) (T : Turn X.prog X.w X.K tg J fp it tn) (st2 : tn 0 s2.heap)
    (f2 : ∀ b ∈ fp, FpOk X pins H2 b)
    (q : ∀ D, H2 D = none → ∃ W : Nat → Nat → St → Hp → Prop, (∃ m, W 0 m (stC Fr Tg σ) (upd H2 D (.lst []))) ∧
      ∀ i m σ' H', W i m σ' H' → (J.stop i H' ∧ Q (.ref D) H') ∨ (J.go i H' ∧ ∀ x H2, J.yld i H' x H2 → g x σ' H2 fun σ2 H3 => tt σ2 H3 fun b H4 =>
        if b = true then te σ2 H4 fun v H5 => ∃ ys, H5 D = some (.lst ys) ∧ ys.length < sizeLine ∧ ∃ m', m' < m ∧ W (i + 1) m' σ2 (upd H5 D (.lst (ys ++ [v])))
        else ∃ m', m' < m ∧ W (i + 1) m' σ2 H4))
    {E : Value → Shared → Prop} {RR : Value → Addr → Result → Shared → Prop}
    (hR : ∀ D C s' H', (∃ m, s'.heap.Ns C m) → Inv X pins σ H' s' → FpOk X pins H' C → Q (.ref D) H' → RR (.ref D) C (.ok .next) s') :
    wpAny (model X.prog X.w) X.A (newList []) (fun acc s₃ => wpAny (model X.prog X.w) X.A (newFunctionEnv scope X.env.globals cl [] X.env.qual none .none (some X.env)) (fun cenv s₄ =>
      codeAny (model X.prog X.w) X.A (.compStart (.ListComp elt [⟨tg, iter, ifs, 0⟩] scope pos) 0 (.ref it) acc { cenv with scope := relabel scope X.env }) (RR acc cenv.locals) s₄) E s₃) E s2 := by
  have fsz : ∀ b ∈ fp, b < s2.heap.objs.size := fun b hb => by
    obtain ⟨o, e, _⟩ := T.obj _ _ st2 b hb
    exact Heap.lt_size e
  -- the accumulator
  refine wpAny_newObj_type ?_
  have I3 : Inv X pins σ (upd H2 s2.heap.objs.size (.lst [])) { s2 with heap := s2.heap.push { cls := .type "list", data := .seq ([] : List Value).toArray }, toks := s2.toks } := I2.lnew (ys := []) (its := []) .nil (Nat.zero_le _)
  generalize hD : s2.heap.objs.size = D at I3 ⊢
  have hDn : H2 D = none := by rw [← hD]; exact I2.fresh
  generalize hs3 : ({ s2 with heap := s2.heap.push { cls := .type "list", data := .seq ([] : List Value).toArray }, toks := s2.toks } : Shared) = s3 at I3
  have k3 : ∀ b o, s2.heap.get? b = some o → s3.heap.get? b = some o := fun b o e => by rw [← hs3]; exact Heap.get?_push_of_some _ e
  have sz3 : s3.heap.objs.size = D + 1 := by rw [← hs3, ← hD]; exact Heap.size_push ..
  have fszD : ∀ b ∈ fp, b < D := fun b hb => by rw [← hD]; exact fsz b hb
  have fsz3 : ∀ b ∈ fp, b < s3.heap.objs.size := fun b hb => by rw [sz3]; exact Nat.lt_succ_of_lt (fszD b hb)
  have f3 : ∀ b ∈ fp, FpOk X pins (upd H2 D (.lst [])) b := fun b hb => by
    obtain ⟨a1, a2⟩ := f2 b hb
    refine ⟨?_, a2⟩
    rw [upd_ne (Nat.ne_of_lt (fszD b hb))]
    exact a1
  obtain ⟨W, ⟨m0, w0⟩, turn⟩ := q D hDn
  refine wpAny_newFunctionEnv S.nocell (by intro y hy; simp at hy) (fun h4 hns hsb => ?_) S.kind
  have k4 : ∀ b o, s3.heap.get? b = some o → h4.get? b = some o := fun b o e =>
    hsb.extBut b o (Nat.ne_of_lt (Heap.lt_size e)) (Heap.get?_push_of_some _ e)
  have st4 : tn 0 h4 := T.keep _ _ _ st2 fun b hb o e => k4 b o (k3 b o e)
  have I4 := cxC_start (fp := fp) (h' := h4) (tk := s3.toks + ([] : List (Str × Value)).length) S I3 f3 fsz3 (by simpa using hns) k4 (fun _ _ => trivial)
  generalize hC : s3.heap.objs.size = C at I4 hns hsb ⊢
  generalize hY : cxC X scope cl (Fr.map (·.1) ++ Tg) C s3 (upd H2 D (.lst [])) fp = Y at I4
  have yP : Y.prog = X.prog := by rw [← hY]; rfl
  have yw : Y.w = X.w := by rw [← hY]; rfl
  have yK : Y.K = X.K := by rw [← hY]; rfl
  have yA : Y.A = X.A := by rw [← hY]; rfl
  have yc : Y.calm = true := by rw [← hY]; exact hc
  have yx : Y.xe = fun _ _ => False := by rw [← hY]; rfl
  have ye : Y.env = compEnvC scope cl C X.env := by rw [← hY]; rfl
  have yex : Y.ex = fp := by rw [← hY]; rfl
  have ypn : Y.pn = [] := by rw [← hY]; rfl
  have yfs : Y.fs = frs X.stack := by rw [← hY]; rfl
  have yH : Y.H₀ = upd H2 D (.lst []) := by rw [← hY]; rfl
  have ys₀ : Y.s₀ = s3 := by rw [← hY]; rfl
  have hg' : PG Y tg g := by rw [← hY]; exact hg _ _ _ _
  have ht' : PTs Y ifs tt := by rw [← hY]; exact ht _ _ _ _
  have he' : PE Y elt te := by rw [← hY]; exact he _ _ _ _
  have stat : ∀ {H' : Hp}, (∀ b ∈ fp, H' b = none) → ∀ b ∈ fp, FpOk Y [] H' b := fun hn b hb => by
    have okY := I4.ok
    refine ⟨hn b hb, (okY.exf b (by rw [yex]; exact hb)).1, okY.exfs b (by rw [yex]; exact hb), .inl (by rw [yex]; exact hb), (okY.exf b (by rw [yex]; exact hb)).2, fun p hp => absurd hp (by rw [ypn]; simp)⟩
  have fr0 : ∀ b ∈ fp, (upd H2 D (.lst [])) b = none := fun b hb => (f3 b hb).1
  -- back to the frame
  have back : ∀ (s5 : Shared) (σ5 : St) (H5 : Hp), Inv Y [] σ5 H5 s5 → (∃ m, s5.heap.Ns C m) ∧ Inv X pins σ H5 s5 ∧ FpOk X pins H5 C := by
    intro s5 σ5 H5 I5
    have hns5 : ∃ m, s5.heap.Ns C m := by
      obtain ⟨m, hn, _⟩ := I5.loc
      rw [ye] at hn
      exact ⟨m, hn⟩
    have un5 : Un (frs X.stack) fp (upd H2 D (.lst [])) H5 s3.heap s5.heap := by
      have u := I5.base
      rw [yfs, yex, yH, ys₀] at u
      exact u
    have os5 : s5.os = s3.os := by have := I5.os; rw [ys₀] at this; exact this
    have hok5 : HOk X.prog X.w H5 s5.heap := by have := I5.hok; rw [yP, yw] at this; exact this
    have hch : ∀ b ∈ fp, (b ∈ X.ex ∨ X.s₀.heap.objs.size ≤ b) ∧ b ≠ X.env.locals ∧ (∀ x c, X.env.cells.lookup x = some c → c ≠ b) ∧ ∀ p ∈ X.pn ++ pins, p.1 ≠ b := fun b hb => by
      obtain ⟨_, a1, _, a3, a4, a5⟩ := f3 b hb
      exact ⟨a3, a1, a4, a5⟩
    have free5 : H5 C = none := by
      have := I5.free
      rw [ye] at this
      exact this
    exact ⟨hns5, I3.call' os5 un5 hok5 I5.bare hch, I3.fpOk (Nat.le_of_eq hC) free5⟩
  have loop : ∀ (s5 : Shared) (σ5 : St) (H5 : Hp) (i m : Nat), Inv Y [] σ5 H5 s5 → tn i s5.heap → (∀ b ∈ fp, H5 b = none) → W i m σ5 H5 →
      codeAny (model X.prog X.w) X.A (.compLoop (.ListComp elt [⟨tg, iter, ifs, 0⟩] scope pos) 0 (.ref it) (.ref D) (compEnvC scope cl C X.env)) (RR (.ref D) C) s5 := by
    intro s5 σ5 H5 i m I5 st5 fr5 w5
    refine codeAny_loop rfl (fun n s' => ∃ i σ' H', Inv Y [] σ' H' s' ∧ tn i s'.heap ∧ (∀ b ∈ fp, H' b = none) ∧ W i n σ' H') ?_ m ⟨i, σ5, H5, I5, st5, fr5, w5⟩
    rintro n s6 ⟨i, σ6, H6, I6, st6, fr6, w6⟩
    show wpAny _ X.A ((compTurn (.ListComp elt [⟨tg, iter, ifs, 0⟩] scope pos) 0 (.ref it) (.ref D) (compEnvC scope cl C X.env)).onRaise (fun x => do noteFrame x (compEnvC scope cl C X.env); theTreesLotGoes x)) _ _ s6
    refine wpAny_noted ?_
    rw [compTurn_any]
    refine wpAny_bind (wpAny_standAt (wpAny_bind ?_))
    have nx : ∀ {α : Type} {t : Sem α} {Q : α → Shared → Prop} {E' : Value → Shared → Prop} {s : Shared}, wpAny (model X.prog X.w) X.A t Q (fun _ _ => False) s → wpAny (model X.prog X.w) X.A t Q E' s := fun h => wpAny_mono h (fun _ _ z => z) fun _ _ z => z.elim
    rcases turn i n σ6 H6 w6 with ⟨stop, qn⟩ | ⟨go, step⟩
    · have h := T.done Y yP yw yK yc i [] s6 σ6 H6 (fun _ _ => False) I6 (stat fr6) st6 stop
      rw [yA] at h
      refine nx (thn h fun r s7 ⟨hr, I7⟩ => ?_)
      subst hr
      refine wpAny_pure ?_
      obtain ⟨b1, b2, b3⟩ := back s7 σ6 H6 I7
      exact hR D C s7 H6 b1 b2 b3 qn
    · have h := T.item Y yP yw yK yc i [] s6 σ6 H6 (fun _ _ => False) I6 (stat fr6) st6 go
      rw [yA] at h
      refine nx (thn h fun r s7 ⟨u, hr, h7⟩ => ?_)
      subst hr
      refine wpAny_bind (nx (thn h7 fun _ s8 ⟨x, H8, I8, r8, y8, st8, fr8⟩ => ?_))
      have I8' := I8.pinned (stat fr8) (T.obj _ _ st8)
      have h9 := hg' _ s8 σ6 H8 x u _ I8' r8 (step x H8 y8)
      rw [yP, yw, yA, yx, ye] at h9
      refine wpAny_bind (nx (thn h9 fun _ s9 ⟨σ9, H9, I9, q9⟩ => ?_))
      have h10 := ht' _ s9 σ9 H9 _ I9 q9
      rw [yP, yw, yA, yx, ye] at h10
      refine wpAny_bind (nx (thn h10 fun ok s10 ⟨H10, I10, q10⟩ => ?_))
      have again : ∀ {σ' : St} {H' : Hp} {s' : Shared}, Inv Y ([] ++ pinsAt fp s8.heap) σ' H' s' → (∃ m', m' < n ∧ W (i + 1) m' σ' H') → ∃ m, m < n ∧ ∃ i σ' H', Inv Y [] σ' H' s' ∧ tn i s'.heap ∧ (∀ b ∈ fp, H' b = none) ∧ W i m σ' H' := fun {σ' H' s'} I' ⟨m', hm, w'⟩ => by
        refine ⟨m', hm, i + 1, σ', H', I'.unpinned, T.keep _ _ _ st8 fun b hb o e => (I'.pin (b, o) (List.mem_append_right _ (List.mem_append_right _ (mem_pinsAt hb e)))).1, fun b hb => ?_, w'⟩
        obtain ⟨o, e, d⟩ := T.obj _ _ st8 b hb
        exact (I'.pin (b, o) (List.mem_append_right _ (List.mem_append_right _ (mem_pinsAt hb e)))).2.1
      cases ok with
      | false =>
        rw [if_neg Bool.false_ne_true] at q10
        refine wpAny_bind (wpAny_pure (wpAny_pure ⟨rfl, again I10 q10⟩))
      | true =>
        rw [if_pos rfl] at q10
        have h11 := he' _ s10 σ9 H10 _ I10 q10
        rw [yP, yw, yA, yx, ye] at h11
        refine wpAny_bind (wpAny_bind (nx (thn h11 fun y s11 ⟨v, H11, I11, r11, ys, ey, zy, q11⟩ => ?_)))
        have h12 := mt_append (X := Y) ([] ++ pinsAt fp s8.heap) s11 σ9 H11 (.ref D) [v] (.ref D) [y] (fun v' H' => v' = .non ∧ H' = upd H11 D (.lst (ys ++ [v]))) I11 rfl (.cons r11 .nil) ⟨D, ys, v, rfl, rfl, ey, zy, rfl, rfl⟩
        rw [yP, yw, yA, yx] at h12
        refine wpAny_bind (nx (thn h12 fun z s12 ⟨v12, H12, I12, r12, e12, e12'⟩ => ?_))
        subst e12'
        exact wpAny_pure (wpAny_pure ⟨rfl, again I12 q11⟩)
  have start := loop { s3 with heap := h4, toks := s3.toks + ([] : List (Str × Value)).length } (stC Fr Tg σ) (upd H2 D (.lst [])) 0 m0 I4 st4 fr0 w0
  have e5 : ∀ (s' : Shared), s' = { s3 with heap := h4, toks := s3.toks + ([] : List (Str × Value)).length } → codeAny (model X.prog X.w) X.A (.compLoop (.ListComp elt [⟨tg, iter, ifs, 0⟩] scope pos) 0 (.ref it) (.ref D) (compEnvC scope cl C X.env)) (RR (.ref D) C) s' := by
    rintro _ rfl
    exact start
  exact codeAny_compStart_list (e5 _ rfl) (T.self _ _ _ _ _ st4 (e5 _ rfl))
theorem pe_comp (hc : X.calm = true) (S : CompSc X scope cl Fr Tg) (hi : PI X tg iter wi)
    (hg : ∀ C s H fp, PG (cxC X scope cl (Fr.map (·.1) ++ Tg) C s H fp) tg g) (ht : ∀ C s H fp, PTs (cxC X scope cl (Fr.map (·.1) ++ Tg) C s H fp) ifs tt)
    (he : ∀ C s H fp, PE (cxC X scope cl (Fr.map (·.1) ++ Tg) C s H fp) elt te) (hs : ∀ x, foldedSetIterable iter X.env x = pure x := by intro _; rfl) :
    PE X (.ListComp elt [⟨tg, iter, ifs, 0⟩] scope pos) (tCmpr wi (stC Fr Tg) g tt te) := by
  intro pins s σ H Q I h
  rw [eval_ListComp]
  refine wpAny_comprehension_free (use := none) rfl hs S.clos S.kind S.loc (thn (hi pins s σ H _ I h) fun xv s1 h1 => thn h1 fun itv s2 h2 => ?_)
  obtain ⟨it, fp, tn, J, H2, rfl, I2, T, st2, f2, q⟩ := h2
  refine comp_block (RR := fun acc C => compPost (model X.prog X.w) X.A X.xe none (EP X pins σ Q) acc C) hc S hg ht he I2 T st2 f2 q ?_
  intro D C s' H' ⟨m, hn⟩ I' F' q'
  obtain ⟨f0, f1, f2, f3, f4, f5⟩ := F'
  exact ⟨m, hn, fun h' sb => ⟨.ref D, H', I'.turned (t' := s'.toks) (fun b o hb e => (sb.2 b hb).trans e) f0 f1 f3 f4 f5, rfl, q'⟩⟩
theorem ps_comp {y : Str} {py spos : Pos} {i : Nat} (hc : X.calm = true) (hN : X.N.Nodup) (hiN : X.N[i]? = some y) (hy : X.env.kindOf y = some .local) (S : CompSc X scope cl Fr Tg) (hi : PI X tg iter wi)
    (hg : ∀ C s H fp, PG (cxC X scope cl (Fr.map (·.1) ++ Tg) C s H fp) tg g) (ht : ∀ C s H fp, PTs (cxC X scope cl (Fr.map (·.1) ++ Tg) C s H fp) ifs tt)
    (he : ∀ C s H fp, PE (cxC X scope cl (Fr.map (·.1) ++ Tg) C s H fp) elt te)
    (hsw : swapsWith (.ListComp elt [⟨tg, iter, ifs, 0⟩] scope pos) (some (.Name y py)) spos.line X.env = pure true) (hs : ∀ x, foldedSetIterable iter X.env x = pure x := by intro _; rfl) :
    PS X (.Assign [.Name y py] (.ListComp elt [⟨tg, iter, ifs, 0⟩] scope pos) spos) (fun D σ H => tCmpr wi (stC Fr Tg) g tt te σ H fun v H' => D.nx (σ.set i (some v)) H') := by
  intro pins s σ H D I h
  rw [exec_Assign_Name_used _ _ _ _ hsw]
  refine wpAny_bind (wpAny_standAt (wpAny_bind ?_))
  show wpAny _ X.A (do let _ ← comprehension (.ListComp elt [⟨tg, iter, ifs, 0⟩] scope pos) scope X.env _ (newList []) false (eval iter X.env) (some (assign (.Name y py) X.env))) _ _ s
  refine wpAny_bind (thn (wpAny_comprehension_free (use := some (assign (.Name y py) X.env)) (Q := fun _ s' => SP X pins D .next s') rfl hs S.clos S.kind S.loc
    (thn (hi pins s σ H _ I h) fun xv s1 h1 => thn h1 fun itv s2 h2 => ?_)) fun _ s' hq => wpAny_pure (wpAny_pure hq))
  obtain ⟨it, fp, tn, J, H2, rfl, I2, T, st2, f2, q⟩ := h2
  refine comp_block (Q := fun v H' => D.nx (σ.set i (some v)) H') (RR := fun acc C => compPost (model X.prog X.w) X.A X.xe (some (assign (.Name y py) X.env)) (fun _ s' => SP X pins D .next s') acc C) hc S hg ht he I2 T st2 f2 q ?_
  intro D' C s' H' ⟨m, hn⟩ I' F' q'
  obtain ⟨f0, f1, f2, f3, f4, f5⟩ := F'
  show wpAny _ X.A (assign (.Name y py) X.env (.ref D')) _ _ _
  refine wpAny_assign_Name (store_ok2 I' hN hiN (.inl hy) (show RelV (.ref D') (.ref D') from rfl) (fun s'' I'' ⟨a, sb, ha⟩ => ?_) (.inr hy))
  have hCa : C ≠ a := by
    rcases ha with rfl | ha
    · exact f1
    · exact fun z => f4 y a ha z.symm
  refine ⟨m, hn.sameBut sb hCa, fun h' sb' => ⟨_, H', I''.turned (t' := s''.toks) (fun b o hb e => (sb'.2 b hb).trans e) f0 f1 f3 f4 f5, q'⟩⟩
end
end L2
namespace L2
open PySem PySem.Spec PyProof.Rows PySem.SeqAt
section
variable {prog : Program} {w : World} {A : Around} {E : Value → Shared → Prop} {s : Shared}
end
end L2
namespace L2
open PySem PySem.Spec PyProof.Rows PySem.SeqAt
section
variable {X : Cx} {e : Expr} {t : TE} {p p' pos pos' : Pos}
end
end L2
namespace L2
open PySem PySem.Spec PyProof.Rows PySem.SeqAt
section
variable {X : Cx}
end
end L2
namespace L2
open PySem PySem.Spec PyProof.Rows PySem.SeqAt PySem.W
noncomputable def kRun {α : Type} (lt : Nat → Nat → Bool) : KasT α → α
  | .ret a => a
  | .ask i j k => kRun lt (k (lt i j))
section
variable {prog : Program} {w : World} {A : Around} {E : Value → Shared → Prop} {s : Shared}
noncomputable def TupsAt (h : Heap) : List Value → List (List Int) → Prop
  | [], [] => True
  | v :: vs, ns :: nss => (∃ a o us k, v = .ref a ∧ h.get? a = some o ∧ o.cls = .type "tuple" ∧ o.data = .seq us k ∧ IntsAre us.toList ns ∧ ns ≠ []) ∧ TupsAt h vs nss
  | _, _ => False
theorem TupsAt.keeps {h h' : Heap} (hk : ∀ b o, h.get? b = some o → h'.get? b = some o) : ∀ {vs : List Value} {nss : List (List Int)}, TupsAt h vs nss → TupsAt h' vs nss
  | [], [], _ => trivial
  | v :: vs, ns :: nss, ⟨⟨a, o, us, k, e1, e2, e3⟩, t⟩ => ⟨⟨a, o, us, k, e1, hk _ _ e2, e3⟩, t.keeps hk⟩
  | [], _ :: _, t => t.elim
  | _ :: _, [], t => t.elim
theorem TupsAt.length {h : Heap} : ∀ {vs : List Value} {nss : List (List Int)}, TupsAt h vs nss → vs.length = nss.length
  | [], [], _ => rfl
  | _ :: _, _ :: _, t => by rw [List.length_cons, List.length_cons, t.2.length]
  | [], _ :: _, t => t.elim
  | _ :: _, [], t => t.elim
theorem TupsAt.at {h : Heap} : ∀ {vs : List Value} {nss : List (List Int)}, TupsAt h vs nss → ∀ i, i < vs.length → ∃ a o us k, vs.getD i Value.none = .ref a ∧ h.get? a = some o ∧ o.cls = .type "tuple" ∧ o.data = .seq us k ∧ IntsAre us.toList (nss.getD i [])
  | [], [], _, i, hi => absurd hi (by simp)
  | v :: vs, ns :: nss, t, 0, _ => by
    obtain ⟨⟨a, o, us, k, e1, e2, e3, e4, e5, _⟩, _⟩ := t
    exact ⟨a, o, us, k, e1, e2, e3, e4, e5⟩
  | v :: vs, ns :: nss, t, i + 1, hi => by
    obtain ⟨a, o, us, k, e1, r⟩ := t.2.at i (by simpa using hi)
    exact ⟨a, o, us, k, by simpa using e1, by simpa using r⟩
  | [], _ :: _, t, _, _ => t.elim
  | _ :: _, [], t, _, _ => t.elim
end
noncomputable def AskIn {α : Type} (n : Nat) (P : α → Prop) : KasT α → Prop
  | .ret a => P a
  | .ask i j k => i < n ∧ j < n ∧ ∀ b, AskIn n P (k b)
theorem AskIn.mono {α : Type} {n : Nat} {P P' : α → Prop} (hp : ∀ a, P a → P' a) : ∀ {t : KasT α}, AskIn n P t → AskIn n P' t
  | .ret a, h => hp a h
  | .ask i j k, h => ⟨h.1, h.2.1, fun b => (h.2.2 b).mono hp⟩
theorem AskIn.bind {α β : Type} {n : Nat} {P : α → Prop} {P' : β → Prop} {f : α → KasT β} (hf : ∀ a, P a → AskIn n P' (f a)) : ∀ {t : KasT α}, AskIn n P t → AskIn n P' (t.bind f)
  | .ret a, h => hf a h
  | .ask i j k, h => ⟨h.1, h.2.1, fun b => (h.2.2 b).bind hf⟩
theorem AskIn.run {α : Type} {n : Nat} {P : α → Prop} (lt : Nat → Nat → Bool) : ∀ {t : KasT α}, AskIn n P t → P (kRun lt t)
  | .ret _, h => h
  | .ask i j k, h => (h.2.2 (lt i j)).run lt
noncomputable def PR (n : Nat) (p : Array Nat) : Prop := p.Perm (List.range n).toArray
theorem PR.lt {n : Nat} {p : Array Nat} (h : PR n p) (hn : 0 < n) (i : Nat) : p.getD i 0 < n := by
  by_cases hi : i < p.size
  · have e : p.getD i 0 = p[i] := by simp [Array.getD, hi]
    rw [e]
    have hm : p[i] ∈ (List.range n).toArray := h.mem_iff.mp (Array.getElem_mem hi)
    have hm' : p[i] ∈ List.range n := by simpa using hm
    exact List.mem_range.mp hm'
  · have e : p.getD i 0 = 0 := by simp [Array.getD, hi]
    rw [e]; exact hn
section
variable {n : Nat}
end
section
variable {prog : Program} {w : World} {A : Around} {E : Value → Shared → Prop} {s : Shared}
theorem TupsAt.but {h h' : Heap} {a : Addr} {l0 : Obj} (ha : h.get? a = some l0) (hl : l0.cls = .type "list") (hk : ∀ b o, b ≠ a → h.get? b = some o → h'.get? b = some o) : ∀ {vs : List Value} {nss : List (List Int)}, TupsAt h vs nss → TupsAt h' vs nss
  | [], [], _ => trivial
  | v :: vs, ns :: nss, ⟨⟨x, o, us, k, e1, e2, e3, e4⟩, t⟩ => ⟨⟨x, o, us, k, e1, hk _ _ (fun z => by subst z; rw [ha] at e2; cases e2; rw [hl] at e3; exact absurd e3 (by decide)) e2, e3, e4⟩, t.but ha hl hk⟩
  | [], _ :: _, t => t.elim
  | _ :: _, [], t => t.elim
end
end L2
namespace L2
open PySem PySem.Spec PyProof.Rows PySem.SeqAt PySem.W
section
variable {prog : Program} {w : World} {A : Around} {E : Value → Shared → Prop} {s : Shared}
end
end L2
namespace L2
open PySem PySem.Spec PyProof.Rows PySem.SeqAt PySem.W
noncomputable def TupsV (K : PySem.W.Frag) (H : Hp) : List V → List (List Int) → Prop
  | [], [] => True
  | x :: xs, ns :: nss => (∃ a, x = V.ref a ∧ SqT K H a (ns.map V.int) ∧ ns ≠ []) ∧ TupsV K H xs nss
  | _, _ => False
section
variable {X : Cx}
theorem TupsAt.of {pins : List (Addr × Obj)} {s : Shared} {σ : St} {H : Hp} (I : Inv X pins σ H s) : ∀ (xs : List V) (us : List Value) (nss : List (List Int)), Vals xs us → TupsV X.K H xs nss → TupsAt s.heap us nss := by
  intro xs
  induction xs with
  | nil =>
    intro us nss r h
    cases r
    cases nss with
    | nil => exact True.intro
    | cons _ _ => exact False.elim h
  | cons x xs ih =>
    intro us nss r h
    cases r with
    | cons r rs =>
      cases nss with
      | nil => exact False.elim h
      | cons ns nss =>
        obtain ⟨⟨a, ex, hq, hn⟩, hs⟩ := h
        subst ex
        cases r
        obtain ⟨its, rv, pl, hz⟩ := I.tuple hq
        obtain ⟨o, e1, e2, k, e3⟩ := pl
        refine ⟨⟨a, o, its.toArray, k, rfl, e1, e2, e3, ?_, hn⟩, ih _ nss rs hs⟩
        have := intsAre_of rv
        simpa using this
end
end L2
namespace L2
open PySem PySem.Spec PyProof.Rows PySem.SeqAt PySem.W
section
variable {X : Cx}
end
end L2
namespace L2
open PySem PySem.Spec PyProof.Rows PySem.SeqAt PySem.W
section
variable {X : Cx}
end
end L2
namespace L2.Sx
open PySem PyProof.Rows
noncomputable def dd (σ : List Str) (v : Str) : List Str := if σ.any (· == v) then σ else σ ++ [v]
theorem dd_any (σ : List Str) (v k : Str) : (dd σ v).any (· == k) = (σ.any (· == k) || decide (k = v)) := by
  unfold dd
  by_cases h : σ.any (· == v) = true
  · rw [if_pos h]
    by_cases e : k = v
    · subst e; rw [h]; simp
    · rw [decide_eq_false e, Bool.or_false]
  · rw [if_neg h, List.any_append]
    by_cases e : k = v
    · subst e; simp
    · have hb : (v == k) = false := by simpa using fun z : v = k => e z.symm
      simp [hb, e]
theorem dd_len (σ : List Str) (v : Str) : (dd σ v).length = if σ.any (· == v) = true then σ.length else σ.length + 1 := by
  unfold dd
  by_cases h : σ.any (· == v) = true
  · rw [if_pos h, if_pos h]
  · rw [if_neg h, if_neg h, List.length_append]; rfl
theorem dd_le : ∀ (l σ : List Str), (l.foldl dd σ).length ≤ σ.length + l.length
  | [], σ => Nat.le_refl _
  | v :: l, σ => by
    have h := dd_le l (dd σ v)
    have h2 := dd_len σ v
    rw [List.foldl_cons, List.length_cons]
    split at h2 <;> omega
section
variable {prog : Program} {w : World} {A : Around} {E : Value → Shared → Prop} {s : Shared} {R : Result → Shared → Prop} {I : Addr} {fp wr : List Addr} {G : Array GenState → Array GenState → Prop} {n : Nat} {P : Nat → Value → Prop} {St : Nat → Shared → Prop}
noncomputable def SetS (prog : Program) (w : World) (h : Heap) (a : Addr) (σ : List Str) : Prop := h.SetOf (PySem.strKind prog w) a (fun k => σ.any (· == k)) σ.length
theorem SetS.moved {h h' : Heap} {a : Addr} {σ : List Str} (hS : SetS prog w h a σ) (k : ∀ o, h.get? a = some o → h'.get? a = some o) : SetS prog w h' a σ := by
  obtain ⟨o, es, ep, t, ho, D⟩ := hS
  exact ⟨o, es, ep, t, k o ho, D⟩
theorem isS (x : Str) (t : Tok) : (PySem.strKind prog w).is x (.str x t) = true := by
  show (x == x) = true
  simp
theorem loop (W : WalksS prog w A.in1 I fp wr G n P St) (a : Addr) (ha : a ∉ fp) {ns : List Str} (hv : ∀ i v, P i v → ∃ t, v = .str (ns.getD i ⟨#[]⟩) t) (hn : ns.length = n) (hb : n + 1 < scanBound) :
    ∀ (k i : Nat) (s : Shared), n - i = k → i ≤ n → St i s → SetS prog w s.heap a ((ns.take i).foldl dd []) →
      (∀ s', Moved (a :: wr) G s s' → SetS prog w s'.heap a (ns.foldl dd []) → R (.ok (.ret .none)) s') →
      codeAny (model prog w) A (.builtin "set.update.loop" ⟨[.ref a, .ref I], []⟩) R s := by
  have haw : a ∉ wr := fun z => ha (W.sub _ z)
  have sub : ∀ b ∈ wr, b ∈ a :: wr := fun b z => List.mem_cons_of_mem _ z
  intro k
  induction k with
  | zero =>
    intro i s hk hi hst hS hR
    have e : i = n := by omega
    subst e
    rw [← hn, List.take_length] at hS
    refine codeAny_builtin F.entry_set_update_loop ?_
    rw [Around.under_plainId F.plain_set_update_loop _]
    show wpAny _ A.in1 (pyNext (.ref I) >>= _) _ _ s
    exact wpAny_bind (W.done s _ _ hst fun s' hm => show wpAny _ A.in1 (ret Value.none) _ _ s' from wpAny_pure (hR s' (hm.mono sub) (hS.moved fun o e => hm.heap a o haw e)))
  | succ k ih =>
    intro i s hk hi hst hS hR
    have hlt : i < n := by omega
    refine codeAny_builtin F.entry_set_update_loop ?_
    rw [Around.under_plainId F.plain_set_update_loop _]
    show wpAny _ A.in1 (pyNext (.ref I) >>= _) _ _ s
    refine wpAny_bind (W.item i s _ _ hlt hst fun v s' hP hst' hm => ?_)
    obtain ⟨t, rfl⟩ := hv i v hP
    have hS1 : SetS prog w s'.heap a ((ns.take i).foldl dd []) := hS.moved fun o e => hm.heap a o haw e
    show wpAny _ A.in1 (holding [Value.str (ns.getD i ⟨#[]⟩) t] (setAdd a (.str (ns.getD i ⟨#[]⟩) t)) >>= _) _ _ s'
    unfold setAdd
    refine wpAny_bind (wpAny_holding (wpAny_holding (wpAny_bind ((PySem.strKind prog w).pyHash (isS _ _) ?_))))
    have hlen := dd_le (ns.take i) []
    rw [List.length_take, List.length_nil] at hlen
    refine wpAny_setAddHashed_of (knd := PySem.strKind prog w) (s := { s' with toks := s'.toks + 1 }) (isS _ _) rfl hS1 (by omega) fun h' hsb hS2 => ?_
    have et : (ns.take (i + 1)).foldl dd [] = dd ((ns.take i).foldl dd []) (ns.getD i ⟨#[]⟩) := by
      have hi' : i < ns.length := by omega
      rw [List.take_succ, List.foldl_append, List.getElem?_eq_getElem hi', List.getD_eq_getElem?_getD, List.getElem?_eq_getElem hi']
      rfl
    have hS3 : SetS prog w h' a ((ns.take (i + 1)).foldl dd []) := by
      unfold SetS
      rw [et]
      exact SetOf_congr hS2 (fun k' => by rw [dd_any]) (by rw [dd_len])
    refine wpAny_pure ⟨plainId_quiet F.plain_set_update_loop _, ih (i + 1) _ (by omega) hlt (W.frame _ s' _ _ hst' (Nat.le_succ _) fun b hb o e => ?_) hS3 fun s'' hm'' hS'' => ?_⟩
    · rw [hsb.2 b fun z => ha (z ▸ hb)]; exact e
    · refine hR s'' (Moved.trans W.gtrans ((hm.mono sub).then_heap (Nat.le_succ _) fun b o hb e => ?_) hm'') hS''
      rw [hsb.2 b fun z => hb (z ▸ List.mem_cons_self)]; exact e
noncomputable abbrev oN (led : Bool) : Obj := { cls := .type "set", dict := none, data := .set #[] 0 (.fresh 0 0 led) }
theorem call_set {l : Addr} {items : Array Value} {ns : List Str} {Q : Value → Shared → Prop} (hh : A.handled = none) (hl : s.heap.IsList l items) (hi : ∀ (i : Nat) (v : Value), items[i]? = some v → ∃ t, v = Value.str (ns.getD i ⟨#[]⟩) t) (hlen : ns.length = items.size) (hb : items.size + 1 < scanBound)
    (h : ∀ (h' : Heap) (tk : Nat), SetS prog w h' s.heap.objs.size (ns.foldl dd []) → (∀ b o, b < s.heap.objs.size → s.heap.get? b = some o → h'.get? b = some o) → Q (.ref s.heap.objs.size) { s with heap := h', toks := tk }) :
    wpAny (model prog w) A (call (.type "set") [.ref l]) Q E s := by
  obtain ⟨c, tl, mro⟩ := F.called_set.mro
  have made := F.called_set.made
  have sub := F.called_set.sub
  refine wpAny_call (codeAny_of_tree (show wpAny _ _ (callAny (.type "set") _) _ _ _ from wpAny_pure ⟨Code.quiet_builtin _ (by decide +kernel), codeAny_builtin F.entry_type_call ?_⟩))
  rw [Around.under_plain (weight_type_call_type "set" [.ref l] []) rfl]
  have n1 := F.called_set.notType
  have n2 := F.called_set.canCreate
  have n3 := F.typeCall_set_1 (.ref l)
  repeat (any_goals (first | assumption | wp_step))
  refine codeAny_mono (code_set_new_1 (.ref l) (E := E) (Q₁ := fun obj s1 => ∃ led, obj = .ref s.heap.objs.size ∧ s1 = { s with heap := s.heap.push (oN led) }) fun led => ⟨led, rfl, rfl⟩) fun r s1 hr => ?_
  cases r with
  | error e => exact hr
  | ok fl =>
    cases fl with
    | ret obj =>
      obtain ⟨led, rfl, rfl⟩ := hr
      have gS : (s.heap.push (oN led)).get? s.heap.objs.size = some (oN led) := Heap.get?_push_size _ rfl
      have hT : Shared.TypeIs { s with heap := s.heap.push (oN led) } (.ref s.heap.objs.size) "set" := ⟨_, gS, rfl⟩
      have i1 := F.called_set.init.lookup
      have i2 := F.called_set.init.bind (.ref s.heap.objs.size)
      repeat (any_goals (first | assumption | wp_step))
      refine codeAny_mono (codeAny_call_builtin (R := wants (fun r s2 => r = .none ∧ ∃ h' tk, s2 = { s with heap := h', toks := tk } ∧ SetS prog w h' s.heap.objs.size (ns.foldl dd []) ∧
          (∀ b o, b < s.heap.objs.size → s.heap.get? b = some o → h'.get? b = some o)) E) F.called_set.init.plain F.entry_set_init (check_set_init_1 hT ?_)) fun r2 s2 hr2 => ?_
      · obtain ⟨ol, hol, hcl, nl, hdl⟩ := hl
        obtain ⟨ocls, odict, odata, oslots⟩ := ol
        simp only at hcl hdl
        subst hcl; subst hdl
        have hol1 : (s.heap.push (oN led)).get? l = some { cls := .type "list", dict := odict, data := .seq items nl, slots := oslots } := Heap.get?_push_of_some _ hol
        have w1 := F.sub_list_set
        have w2 := F.sub_list_frozenset
        have w3 : (Value.type "list" == Value.type "dict") = false := by decide
        have hl1 : (s.heap.push (oN led)).IsList l items := ⟨_, hol1, rfl, nl, rfl⟩
        unfold Builtin.«set.__init__» noKeywords Builtin.Frozenset.updateFrom
        generalize hPI : pyIter = PI
        wp_walk
        subst hPI
        refine wpAny_pyIter_list hl1 (wpAny_bind (wpAny_runValue ?_))
        have lS : l < s.heap.objs.size := Heap.lt_size hol
        have nI : l ≠ (s.heap.push (oN led)).objs.size := by rw [Heap.size_push]; exact Nat.ne_of_lt (Nat.lt_succ_of_lt lS)
        have aS : s.heap.objs.size ∉ [(s.heap.push (oN led)).objs.size, l] := by
          rw [Heap.size_push]
          intro z
          rcases List.mem_cons.mp z with z | z
          · exact Nat.ne_of_lt (Nat.lt_succ_self _) z
          · exact Nat.ne_of_gt lS (List.mem_singleton.mp z)
        have f0 : SetS prog w (s.heap.push (oN led)) s.heap.objs.size [] := SetOf_congr ((setObjOf_fresh (knd := PySem.strKind prog w) led).setOf gS (by unfold scanBound; omega)) (fun _ => rfl) rfl
        refine loop ((Walks.list (show A.in1.in1.in1.handled = none by simp [hh]) _ l nI items).toS) s.heap.objs.size aS (ns := ns) hi hlen hb (items.size - 0) 0 _ (by omega) (Nat.zero_le _)
          ⟨⟨_, Heap.get?_push_size _ rfl, rfl, rfl⟩, (hl1.push _)⟩ (f0.moved fun o e => Heap.get?_push_of_some _ e) ?_
        intro s' hm hS'
        obtain ⟨h', g', d', tk', os'⟩ := s'
        have eg : g' = s.gens := hm.gens
        have ed : d' = s.drawn := hm.drawn
        have eo : os' = s.os := hm.os
        subst eg ed eo
        show wpAny _ _ _ _ _ _
        refine wpAny_pure (show wpAny _ _ (ret Value.none) _ _ _ from wpAny_pure ⟨rfl, h', tk', rfl, hS', fun b o hb e => ?_⟩)
        refine hm.heap b o (fun z => ?_) (Heap.get?_push_of_some _ (Heap.get?_push_of_some _ e))
        rcases List.mem_cons.mp z with z | z
        · exact Nat.ne_of_lt hb z
        · have := List.mem_singleton.mp z
          rw [Heap.size_push] at this
          exact Nat.ne_of_lt (Nat.lt_succ_of_lt hb) this
      · cases r2 with
        | error e => exact hr2
        | ok fl2 =>
          cases fl2 with
          | ret r =>
            obtain ⟨rfl, h', tk, rfl, hS', hk'⟩ := hr2
            repeat (any_goals (first | assumption | wp_step))
            exact h _ _ hS' hk'
          | _ => exact hr2.elim
    | _ => exact hr.elim
theorem call_len {a : Addr} {σ : List Str} {Q : Value → Shared → Prop} (hS : SetS prog w s.heap a σ) (h : ∀ t tk, Q (.int σ.length t) { s with toks := tk }) : wpAny (model prog w) A (call (.builtin "len") [.ref a]) Q E s := by
  obtain ⟨o, es, ep, t, ho, hex, hd, _, _, hb, hf, hn⟩ := hS
  refine call_len_set ho hex hd hf (by unfold scanBound at hb; omega) ?_
  rw [hn]
  exact h _ _
end
end L2.Sx
namespace L2
open PySem PySem.Spec PyProof.Rows
section
variable {X : Cx} {e : Expr} {p p' pos pos' : Pos} {t : TE}
theorem strs_at {ns : List Str} : ∀ {us : List Value}, Vals (ns.map V.str) us → ∀ (i : Nat) (v : Value), us[i]? = some v → ∃ t, v = Value.str (ns.getD i ⟨#[]⟩) t := by
  induction ns with
  | nil => intro us r i v h; cases r; simp at h
  | cons n ns ih =>
    intro us r i v h
    cases r with
    | cons r rs =>
      obtain ⟨t, rfl⟩ := r
      cases i with
      | zero => exact ⟨t, by simpa using h.symm⟩
      | succ j => simpa using ih rs j v (by simpa using h)
theorem pe_lset (hc : X.calm = true) (g1 : Gl X "len") (m1 : X.mg "len" = none) (g2 : Gl X "set") (m2 : X.mg "set" = none) (he : PE X e t) (hst : ∀ es, starEach (e :: es) X.env = (false, eval e X.env) :: starEach es X.env) :
    PE X (.Call (.Name "len" p) [.Call (.Name "set" p') [e] [] pos'] [] pos) (fun σ H Q => t σ H fun v H1 => ∃ (l : Addr) (ns : List Str), v = .ref l ∧ SqL X.K H1 l (ns.map V.str) ∧ ns.length < 1000 ∧ Q (.int ((ns.foldl Sx.dd []).length : Nat)) H1) := by
  intro pins s σ H Q I h
  refine wpAny_Call_Name_kw (ld_blt (u := .builtin "len") I g1 m1 (by decide +kernel) ?_ (by decide) (by decide))
  refine PyProof.Rows.callWith_builtin1 ?_ rfl rfl
  show wpAny _ _ (spliced ((false, eval (.Call (.Name "set" p') [e] [] pos') X.env) :: backTo pos (starEach [] X.env))) _ _ s
  have key : wpAny (model X.prog X.w) X.A (eval (.Call (.Name "set" p') [e] [] pos') X.env) (fun u s1 => ∃ (a : Addr) (ns : List Str) (H1 : Hp), u = .ref a ∧ Inv X pins σ H1 s1 ∧ Sx.SetS X.prog X.w s1.heap a (ns.foldl Sx.dd []) ∧ Q (.int ((ns.foldl Sx.dd []).length : Nat)) H1) X.xe s := by
    refine wpAny_Call_Name_kw (ld_blt (u := .type "set") I g2 m2 (by decide +kernel) ?_ (by decide) (by decide))
    refine PyProof.Rows.callWith_type1 ?_ (hst []) rfl
    rw [hst []]
    show wpAny _ _ (spliced ((false, eval e X.env) :: backTo pos' (starEach [] X.env))) _ _ s
    refine Calls.spliced_cons (thn (he pins s σ H _ I h) fun u s1 ⟨x, H1, I1, r1, l, ns, ex, hq, hn, q1⟩ => ?_)
    subst ex
    cases r1
    refine Calls.spliced_nil ?_
    obtain ⟨its, r', pl, hz⟩ := I1.list hq
    have hl := r'.length
    rw [List.length_map] at hl
    refine Sx.call_set (I1.ok.hd hc) pl.isList (fun i v hv => strs_at r' i v (by simpa using hv)) (by rw [List.size_toArray]; exact hl) (by rw [List.size_toArray]; unfold scanBound; omega) fun h' tk hS hk => ⟨_, ns, H1, rfl, I1.kept (t' := tk) fun b o e => hk b o (Heap.lt_size e) e, hS, q1⟩
  refine Calls.spliced_cons (thn key fun u s1 ⟨a, ns, H1, eu, I1, hS, q1⟩ => ?_)
  subst eu
  refine Calls.spliced_nil ?_
  exact Sx.call_len hS fun t tk => ⟨.int _, H1, I1.tok _, ⟨_, rfl⟩, q1⟩
end
end L2
namespace L2
open PySem PySem.Spec PyProof.Rows
inductive D where
  | non | bl (b : Bool) | int (i : Int) | str (x : Str) | tup (ds : List D) | lst (own : Bool) (ds : List D) | exc (c : Str)
  deriving Inhabited
mutual
noncomputable def er : D → D
  | .tup ds => .tup (ers ds)
  | .lst _ ds => .lst false (ers ds)
  | .non => .non
  | .bl b => .bl b
  | .int i => .int i
  | .str x => .str x
  | .exc c => .exc c
noncomputable def ers : List D → List D
  | [] => []
  | d :: ds => er d :: ers ds
end
mutual
noncomputable def lfree : D → Bool
  | .tup ds => lfrees ds
  | .lst _ _ => false
  | .non => true
  | .bl _ => true
  | .int _ => true
  | .str _ => true
  | .exc _ => true
noncomputable def lfrees : List D → Bool
  | [] => true
  | d :: ds => lfree d && lfrees ds
end
theorem ers_map : ∀ ds : List D, ers ds = ds.map er
  | [] => rfl
  | d :: ds => by rw [ers, ers_map ds]; rfl
theorem lfrees_all : ∀ ds : List D, lfrees ds = ds.all lfree
  | [] => rfl
  | d :: ds => by rw [lfrees, lfrees_all ds]; rfl
theorem ers_length (ds : List D) : (ers ds).length = ds.length := by rw [ers_map, List.length_map]
mutual
theorem er_lfree : ∀ {d : D}, lfree d = true → er d = d
  | .non, _ => rfl
  | .bl _, _ => rfl
  | .int _, _ => rfl
  | .str _, _ => rfl
  | .exc _, _ => rfl
  | .tup ds, h => by rw [er, ers_lfrees (ds := ds) h]
  | .lst o ds, h => by cases (show false = true from h)
theorem ers_lfrees : ∀ {ds : List D}, lfrees ds = true → ers ds = ds
  | [], _ => rfl
  | d :: ds, h => by
    have h' : (lfree d && lfrees ds) = true := h
    rw [Bool.and_eq_true] at h'
    rw [ers, er_lfree h'.1, ers_lfrees h'.2]
end
inductive Exc where
  | stuck | exc (c : Str)
noncomputable abbrev Res (α : Type) := Except Exc α
noncomputable abbrev stk {α : Type} : Res α := .error .stuck
noncomputable def bnd {α β : Type} (x : Res α) (f : α → Res β) : Res β := match x with
  | .ok a => f a
  | .error e => .error e
noncomputable def grd {α : Type} (c : Bool) (x : Res α) : Res α := if c = true then x else stk
noncomputable def PO' {α : Type} (ex : Str → Prop) (x : Res α) (k : α → Prop) : Prop := match x with
  | .ok a => k a
  | .error (.exc c) => ex c
  | .error .stuck => False
theorem PO'.bnd {α β : Type} {ex : Str → Prop} {x : Res α} {f : α → Res β} {k : β → Prop} (h : PO' ex (bnd x f) k) : PO' ex x fun a => PO' ex (f a) k := by
  cases x with
  | ok a => exact h
  | error e => cases e <;> exact h
theorem PO'.grd {α : Type} {ex : Str → Prop} {c : Bool} {x : Res α} {k : α → Prop} (h : PO' ex (grd c x) k) : c = true ∧ PO' ex x k := by
  unfold L2.grd at h
  cases c with
  | true => exact ⟨rfl, h⟩
  | false => exact False.elim h
theorem PO'.mono {α : Type} {ex : Str → Prop} {x : Res α} {k k' : α → Prop} (h : PO' ex x k) (m : ∀ a, k a → k' a) : PO' ex x k' := by
  cases x with
  | ok a => exact m a h
  | error e => cases e <;> exact h
theorem PO'.mk {α β : Type} {ex : Str → Prop} {x : Res α} {f : α → Res β} {k : β → Prop} (h : PO' ex x fun a => PO' ex (f a) k) : PO' ex (L2.bnd x f) k := by
  cases x with
  | ok a => exact h
  | error e => cases e <;> exact h
theorem PO'.eq {α : Type} {ex : Str → Prop} {x : Res α} {k : α → Prop} (h : PO' ex x k) : PO' ex x fun a => x = .ok a ∧ k a := by
  cases x with
  | ok a => exact ⟨rfl, h⟩
  | error e => cases e <;> exact h
theorem PO'.ok {α : Type} {ex : Str → Prop} {a : α} {k : α → Prop} (h : PO' ex (.ok a : Res α) k) : k a := h
theorem PO'.no {α : Type} {ex : Str → Prop} {k : α → Prop} (h : PO' ex (stk : Res α) k) : False := h
theorem KL.sq {K : PySem.W.Frag} {H : Hp} {a : Addr} {xs : List V} (h : KL K a xs) : SqL K H a xs := by
  obtain ⟨its, n, h1, h2, h3⟩ := h
  exact .inr ⟨_, its.toArray, n, h1, rfl, rfl, rfl, by simpa using h2, by simpa using h3⟩
theorem Ls.sq {K : PySem.W.Frag} {H : Hp} {a : Addr} {xs : List V} (h : Ls K H a xs) : SqL K H a xs := by
  rcases h with h | h
  · exact .inl h
  · exact h.sq
theorem Inv.ls {X : Cx} {pins : List (Addr × Obj)} {σ : St} {H : Hp} {s : Shared} {a : Addr} {xs : List V} (I : Inv X pins σ H s) (h : Ls X.K H a xs) :
    xs.length ≤ sizeLine ∧ ∃ (its : List Value) (n : Nat), Vals xs its ∧ s.heap.get? a = some { cls := .type "list", data := .seq its.toArray n } := by
  rcases h with h | ⟨its, n, h1, h2, h3⟩
  · obtain ⟨z, its, n, r, e⟩ := h.ok I.hok
    exact ⟨z, its, n, r, e⟩
  · exact ⟨by rw [h3.length]; exact h2, its, n, h3, I.kIn _ _ h1⟩
noncomputable def nameIn (K : PySem.W.Frag) (C : Addr) : Option Str := match K.lookup C with
  | some ⟨_, _, .cls cd, _⟩ => some cd.name
  | _ => none
noncomputable def XU : HO := .ext fun _ => True
noncomputable def XO (K : PySem.W.Frag) (H : Hp) (a : Addr) (c : Str) : Prop := ∃ (C : Addr) (o : Obj) (vs : Array Value), PySem.W.nsIn K mainGlobals c = some (some (.ref C)) ∧ nameIn K C = some c ∧ H a = some (.frz o XU) ∧ o.cls = .ref C ∧ o.data = .fields vs
noncomputable def SqE (K : PySem.W.Frag) (H : Hp) (a : Addr) : List V ⊕ Str → Prop
  | .inl xs => SqT K H a xs
  | .inr c => XO K H a c
mutual
inductive HRep (K : PySem.W.Frag) (S : Addr → Prop) (H : Hp) : V → D → Prop where
  | non : HRep K S H .non .non
  | bl (b : Bool) : HRep K S H (.bl b) (.bl b)
  | int (i : Int) : HRep K S H (.int i) (.int i)
  | str (x : Str) : HRep K S H (.str x) (.str x)
  | exc {a : Addr} {c : Str} : SqE K H a (.inr c) → HRep K S H (.ref a) (.exc c)
  | tup {a : Addr} {xs : List V} {ds : List D} : SqT K H a xs → HReps K S H xs ds → HRep K S H (.ref a) (.tup ds)
  | lst {a : Addr} {xs : List V} {o : Bool} {ds : List D} : S a → Rd H a (.lst xs) → HReps K S H xs ds → HRep K S H (.ref a) (.lst o ds)
  | lstK {a : Addr} {xs : List V} {o : Bool} {ds : List D} : KL K a xs → HReps K S H xs ds → HRep K S H (.ref a) (.lst o ds)
inductive HReps (K : PySem.W.Frag) (S : Addr → Prop) (H : Hp) : List V → List D → Prop where
  | nil : HReps K S H [] []
  | cons {v : V} {d : D} {vs : List V} {ds : List D} : HRep K S H v d → HReps K S H vs ds → HReps K S H (v :: vs) (d :: ds)
end
mutual
inductive MRep (K : PySem.W.Frag) (F : Addr → Prop) (H : Hp) : V → D → List Addr → Prop where
  | non : MRep K F H .non .non []
  | bl (b : Bool) : MRep K F H (.bl b) (.bl b) []
  | int (i : Int) : MRep K F H (.int i) (.int i) []
  | str (x : Str) : MRep K F H (.str x) (.str x) []
  | exc {a : Addr} {c : Str} : SqE K H a (.inr c) → MRep K F H (.ref a) (.exc c) []
  | tup {a : Addr} {xs : List V} {ds : List D} {f : List Addr} : SqT K H a xs → MReps K F H xs ds f → MRep K F H (.ref a) (.tup ds) f
  | lstS {a : Addr} {xs : List V} {ds : List D} : F a → Rd H a (.lst xs) → MReps K F H xs ds [] → MRep K F H (.ref a) (.lst false ds) []
  | lstK {a : Addr} {xs : List V} {ds : List D} : KL K a xs → MReps K F H xs ds [] → MRep K F H (.ref a) (.lst false ds) []
  | lstO {a : Addr} {xs : List V} {ds : List D} {f : List Addr} : ¬ F a → H a = some (.lst xs) → MReps K F H xs ds f → MRep K F H (.ref a) (.lst true ds) (a :: f)
inductive MReps (K : PySem.W.Frag) (F : Addr → Prop) (H : Hp) : List V → List D → List Addr → Prop where
  | nil : MReps K F H [] [] []
  | cons {v : V} {d : D} {f : List Addr} {vs : List V} {ds : List D} {g : List Addr} : MRep K F H v d f → MReps K F H vs ds g → MReps K F H (v :: vs) (d :: ds) (f ++ g)
end
theorem Same.rd {H H' : Hp} {a : Addr} {u : HO} (e : Same H H') (h : Rd H a u) : Rd H' a u := by
  rcases h with h | ⟨o, h⟩
  · exact .inl (e _ _ h)
  · exact .inr ⟨o, e _ _ h⟩
theorem Same.seqT {K : PySem.W.Frag} {H H' : Hp} {a : Addr} {xs : List V ⊕ Str} (e : Same H H') (h : SqE K H a xs) : SqE K H' a xs := by
  cases xs with
  | inl xs =>
    rcases h with h | h
    · exact .inl (e.rd h)
    · exact .inr h
  | inr c =>
    obtain ⟨C, o, vs, h0, h1, h2, h3⟩ := h
    exact ⟨C, o, vs, h0, h1, e _ _ h2, h3⟩
theorem SqE.upd {K : PySem.W.Frag} {H : Hp} {a l : Addr} {xs : List V ⊕ Str} {ys zs : List V} (hl : H l = some (.lst ys)) (h : SqE K H a xs) : SqE K (upd H l (.lst zs)) a xs := by
  cases xs with
  | inl xs =>
    rcases h with h | h
    · have : a ≠ l := by
        rintro rfl
        rcases h with h | ⟨o, h⟩ <;> (rw [hl] at h; cases h)
      refine .inl ?_
      unfold Rd
      rw [upd_ne this]
      exact h
    · exact .inr h
  | inr c =>
    obtain ⟨C, o, vs, h0, h1, h2, h3⟩ := h
    have : a ≠ l := by
      rintro rfl
      rw [hl] at h2; cases h2
    exact ⟨C, o, vs, h0, h1, by rw [upd_ne this]; exact h2, h3⟩
theorem Rd.some {H : Hp} {a : Addr} {u : HO} (h : Rd H a u) : H a ≠ none := by
  rcases h with h | ⟨o, h⟩ <;> (rw [h]; simp)
section
variable {K : PySem.W.Frag} {S S' F F' : Addr → Prop} {H H' : Hp}
theorem HRep.step (hl : ∀ a xs, S a → Rd H a (.lst xs) → S' a ∧ Rd H' a (.lst xs)) (ht : ∀ a xs, SqE K H a xs → SqE K H' a xs) {v : V} {d : D} (h : HRep K S H v d) : HRep K S' H' v d :=
  HRep.rec (motive_1 := fun v d _ => HRep K S' H' v d) (motive_2 := fun v d _ => HReps K S' H' v d) .non .bl .int .str (fun h => .exc (ht _ (.inr _) h)) (fun h1 _ i => .tup (ht _ (.inl _) h1) i)
    (fun h0 h1 _ i => .lst (hl _ _ h0 h1).1 (hl _ _ h0 h1).2 i) (fun h1 _ i => .lstK h1 i) .nil (fun _ _ i j => .cons i j) h
theorem HReps.step (hl : ∀ a xs, S a → Rd H a (.lst xs) → S' a ∧ Rd H' a (.lst xs)) (ht : ∀ a xs, SqE K H a xs → SqE K H' a xs) {v : List V} {d : List D} (h : HReps K S H v d) : HReps K S' H' v d :=
  HReps.rec (motive_1 := fun v d _ => HRep K S' H' v d) (motive_2 := fun v d _ => HReps K S' H' v d) .non .bl .int .str (fun h => .exc (ht _ (.inr _) h)) (fun h1 _ i => .tup (ht _ (.inl _) h1) i)
    (fun h0 h1 _ i => .lst (hl _ _ h0 h1).1 (hl _ _ h0 h1).2 i) (fun h1 _ i => .lstK h1 i) .nil (fun _ _ i j => .cons i j) h
theorem HRep.mono {v : V} {d : D} (h : HRep K S H v d) (hS : ∀ a, S a → S' a) (e : Same H H') : HRep K S' H' v d := h.step (fun a xs s r => ⟨hS a s, e.rd r⟩) fun a xs s => e.seqT s
theorem HReps.mono {v : List V} {d : List D} (h : HReps K S H v d) (hS : ∀ a, S a → S' a) (e : Same H H') : HReps K S' H' v d := h.step (fun a xs s r => ⟨hS a s, e.rd r⟩) fun a xs s => e.seqT s
theorem HRep.tight {v : V} {d : D} (h : HRep K S H v d) : HRep K (fun a => S a ∧ H a ≠ none) H v d := h.step (fun a xs s r => ⟨⟨s, r.some⟩, r⟩) fun a xs s => s
theorem HReps.tight {v : List V} {d : List D} (h : HReps K S H v d) : HReps K (fun a => S a ∧ H a ≠ none) H v d := h.step (fun a xs s r => ⟨⟨s, r.some⟩, r⟩) fun a xs s => s
theorem HRep.er {v : V} {d : D} (h : HRep K S H v d) : HRep K S H v (L2.er d) :=
  HRep.rec (motive_1 := fun v d _ => HRep K S H v (L2.er d)) (motive_2 := fun v d _ => HReps K S H v (L2.ers d)) .non .bl .int .str (fun h => .exc h) (fun h1 _ i => .tup h1 i) (fun h0 h1 _ i => .lst h0 h1 i) (fun h1 _ i => .lstK h1 i) .nil (fun _ _ i j => .cons i j) h
theorem HReps.ers {v : List V} {d : List D} (h : HReps K S H v d) : HReps K S H v (L2.ers d) :=
  HReps.rec (motive_1 := fun v d _ => HRep K S H v (L2.er d)) (motive_2 := fun v d _ => HReps K S H v (L2.ers d)) .non .bl .int .str (fun h => .exc h) (fun h1 _ i => .tup h1 i) (fun h0 h1 _ i => .lst h0 h1 i) (fun h1 _ i => .lstK h1 i) .nil (fun _ _ i j => .cons i j) h
theorem HRep.frozen {v : V} {d : D} (h : HRep K F H v d) : MRep K F H v (L2.er d) [] :=
  HRep.rec (motive_1 := fun v d _ => MRep K F H v (L2.er d) []) (motive_2 := fun v d _ => MReps K F H v (L2.ers d) []) .non .bl .int .str (fun h => .exc h) (fun h1 _ i => .tup h1 i) (fun h0 h1 _ i => .lstS h0 h1 i) (fun h1 _ i => .lstK h1 i) .nil (fun _ _ i j => .cons (f := []) (g := []) i j) h
theorem HReps.frozen {v : List V} {d : List D} (h : HReps K F H v d) : MReps K F H v (L2.ers d) [] :=
  HReps.rec (motive_1 := fun v d _ => MRep K F H v (L2.er d) []) (motive_2 := fun v d _ => MReps K F H v (L2.ers d) []) .non .bl .int .str (fun h => .exc h) (fun h1 _ i => .tup h1 i) (fun h0 h1 _ i => .lstS h0 h1 i) (fun h1 _ i => .lstK h1 i) .nil (fun _ _ i j => .cons (f := []) (g := []) i j) h
theorem and2 {a b : Bool} (h : (a && b) = true) : a = true ∧ b = true := by rwa [Bool.and_eq_true] at h
theorem HRep.free {v : V} {d : D} (n : lfree d = true) (h : HRep K S H v d) : MRep K F H v d [] :=
  HRep.rec (motive_1 := fun v d _ => lfree d = true → MRep K F H v d []) (motive_2 := fun v d _ => lfrees d = true → MReps K F H v d []) (fun _ => .non) (fun b _ => .bl b) (fun b _ => .int b) (fun b _ => .str b) (fun h _ => .exc h) (fun h1 _ i n => .tup h1 (i n)) (fun _ _ _ _ n => nomatch n) (fun _ _ _ n => nomatch n) (fun _ => .nil) (fun _ _ i j n => .cons (f := []) (g := []) (i (and2 n).1) (j (and2 n).2)) h n
theorem HReps.free {v : List V} {d : List D} (n : lfrees d = true) (h : HReps K S H v d) : MReps K F H v d [] :=
  HReps.rec (motive_1 := fun v d _ => lfree d = true → MRep K F H v d []) (motive_2 := fun v d _ => lfrees d = true → MReps K F H v d []) (fun _ => .non) (fun b _ => .bl b) (fun b _ => .int b) (fun b _ => .str b) (fun h _ => .exc h) (fun h1 _ i n => .tup h1 (i n)) (fun _ _ _ _ n => nomatch n) (fun _ _ _ n => nomatch n) (fun _ => .nil) (fun _ _ i j n => .cons (f := []) (g := []) (i (and2 n).1) (j (and2 n).2)) h n
theorem nilF {p : Addr → Prop} : ∀ a ∈ ([] : List Addr), p a := fun _ h => nomatch h
theorem MRep.read {v : V} {d : D} {f : List Addr} (hF : ∀ a, F a → S a) (hf : ∀ a ∈ f, S a) (h : MRep K F H v d f) : HRep K S H v d :=
  MRep.rec (motive_1 := fun v d f _ => (∀ a ∈ f, S a) → HRep K S H v d) (motive_2 := fun v d f _ => (∀ a ∈ f, S a) → HReps K S H v d) (fun _ => .non) (fun b _ => .bl b) (fun b _ => .int b) (fun b _ => .str b) (fun h _ => .exc h) (fun h1 _ i hf => .tup h1 (i hf))
    (fun h0 h1 _ i _ => .lst (hF _ h0) h1 (i nilF)) (fun h1 _ i _ => .lstK h1 (i nilF)) (fun _ h1 _ i hf => .lst (hf _ (.head _)) (.inl h1) (i fun b hb => hf b (.tail _ hb))) (fun _ => .nil)
    (fun _ _ i j hf => .cons (i fun a ha => hf a (List.mem_append_left _ ha)) (j fun a ha => hf a (List.mem_append_right _ ha))) h hf
theorem MReps.read {v : List V} {d : List D} {f : List Addr} (hF : ∀ a, F a → S a) (hf : ∀ a ∈ f, S a) (h : MReps K F H v d f) : HReps K S H v d :=
  MReps.rec (motive_1 := fun v d f _ => (∀ a ∈ f, S a) → HRep K S H v d) (motive_2 := fun v d f _ => (∀ a ∈ f, S a) → HReps K S H v d) (fun _ => .non) (fun b _ => .bl b) (fun b _ => .int b) (fun b _ => .str b) (fun h _ => .exc h) (fun h1 _ i hf => .tup h1 (i hf))
    (fun h0 h1 _ i _ => .lst (hF _ h0) h1 (i nilF)) (fun h1 _ i _ => .lstK h1 (i nilF)) (fun _ h1 _ i hf => .lst (hf _ (.head _)) (.inl h1) (i fun b hb => hf b (.tail _ hb))) (fun _ => .nil)
    (fun _ _ i j hf => .cons (i fun a ha => hf a (List.mem_append_left _ ha)) (j fun a ha => hf a (List.mem_append_right _ ha))) h hf
theorem some_ne {α : Type} {x : Option α} {y : α} (h : x = some y) : x ≠ none := fun e => nomatch h.symm.trans e
theorem MRep.step (hl : ∀ a xs, F a → Rd H a (.lst xs) → F' a ∧ Rd H' a (.lst xs)) (ht : ∀ a xs, SqE K H a xs → SqE K H' a xs) {v : V} {d : D} {f : List Addr} (k : ∀ a ∈ f, ¬ F a → H a ≠ none → ¬ F' a ∧ H' a = H a)
    (h : MRep K F H v d f) : MRep K F' H' v d f :=
  MRep.rec (motive_1 := fun v d f _ => (∀ a ∈ f, ¬ F a → H a ≠ none → ¬ F' a ∧ H' a = H a) → MRep K F' H' v d f) (motive_2 := fun v d f _ => (∀ a ∈ f, ¬ F a → H a ≠ none → ¬ F' a ∧ H' a = H a) → MReps K F' H' v d f) (fun _ => .non) (fun b _ => .bl b) (fun b _ => .int b) (fun b _ => .str b)
    (fun h _ => .exc (ht _ (.inr _) h)) (fun h1 _ i k => .tup (ht _ (.inl _) h1) (i k)) (fun h0 h1 _ i _ => .lstS (hl _ _ h0 h1).1 (hl _ _ h0 h1).2 (i nilF)) (fun h1 _ i _ => .lstK h1 (i nilF))
    (fun h0 h1 _ i k => .lstO (k _ (.head _) h0 (some_ne h1)).1 ((k _ (.head _) h0 (some_ne h1)).2.trans h1) (i fun b hb => k b (.tail _ hb))) (fun _ => .nil)
    (fun _ _ i j k => .cons (i fun a ha => k a (List.mem_append_left _ ha)) (j fun a ha => k a (List.mem_append_right _ ha))) h k
theorem MReps.step (hl : ∀ a xs, F a → Rd H a (.lst xs) → F' a ∧ Rd H' a (.lst xs)) (ht : ∀ a xs, SqE K H a xs → SqE K H' a xs) {v : List V} {d : List D} {f : List Addr} (k : ∀ a ∈ f, ¬ F a → H a ≠ none → ¬ F' a ∧ H' a = H a)
    (h : MReps K F H v d f) : MReps K F' H' v d f :=
  MReps.rec (motive_1 := fun v d f _ => (∀ a ∈ f, ¬ F a → H a ≠ none → ¬ F' a ∧ H' a = H a) → MRep K F' H' v d f) (motive_2 := fun v d f _ => (∀ a ∈ f, ¬ F a → H a ≠ none → ¬ F' a ∧ H' a = H a) → MReps K F' H' v d f) (fun _ => .non) (fun b _ => .bl b) (fun b _ => .int b) (fun b _ => .str b)
    (fun h _ => .exc (ht _ (.inr _) h)) (fun h1 _ i k => .tup (ht _ (.inl _) h1) (i k)) (fun h0 h1 _ i _ => .lstS (hl _ _ h0 h1).1 (hl _ _ h0 h1).2 (i nilF)) (fun h1 _ i _ => .lstK h1 (i nilF))
    (fun h0 h1 _ i k => .lstO (k _ (.head _) h0 (some_ne h1)).1 ((k _ (.head _) h0 (some_ne h1)).2.trans h1) (i fun b hb => k b (.tail _ hb))) (fun _ => .nil)
    (fun _ _ i j k => .cons (i fun a ha => k a (List.mem_append_left _ ha)) (j fun a ha => k a (List.mem_append_right _ ha))) h k
theorem ownC {p : Addr → Prop} {x : Addr} {f : List Addr} (h : p x) (i : ∀ a ∈ f, p a) : ∀ a ∈ x :: f, p a := by
  intro b hb
  rcases List.mem_cons.mp hb with rfl | hb
  · exact h
  · exact i b hb
theorem ownA {p : Addr → Prop} {f g : List Addr} (h : ∀ a ∈ f, p a) (i : ∀ a ∈ g, p a) : ∀ a ∈ f ++ g, p a := fun b hb => (List.mem_append.mp hb).elim (h b) (i b)
theorem MRep.own {v : V} {d : D} {f : List Addr} (h : MRep K F H v d f) : ∀ a ∈ f, ¬ F a ∧ ∃ xs, H a = some (.lst xs) :=
  MRep.rec (motive_1 := fun _ _ f _ => ∀ a ∈ f, ¬ F a ∧ ∃ xs, H a = some (.lst xs)) (motive_2 := fun _ _ f _ => ∀ a ∈ f, ¬ F a ∧ ∃ xs, H a = some (.lst xs)) nilF (fun _ => nilF) (fun _ => nilF) (fun _ => nilF) (fun _ => nilF) (fun _ _ i => i) (fun _ _ _ _ => nilF) (fun _ _ _ => nilF)
    (fun h0 h1 _ i => ownC ⟨h0, _, h1⟩ i) nilF (fun _ _ i j => ownA i j) h
theorem MReps.own {v : List V} {d : List D} {f : List Addr} (h : MReps K F H v d f) : ∀ a ∈ f, ¬ F a ∧ ∃ xs, H a = some (.lst xs) :=
  MReps.rec (motive_1 := fun _ _ f _ => ∀ a ∈ f, ¬ F a ∧ ∃ xs, H a = some (.lst xs)) (motive_2 := fun _ _ f _ => ∀ a ∈ f, ¬ F a ∧ ∃ xs, H a = some (.lst xs)) nilF (fun _ => nilF) (fun _ => nilF) (fun _ => nilF) (fun _ => nilF) (fun _ _ i => i) (fun _ _ _ _ => nilF) (fun _ _ _ => nilF)
    (fun h0 h1 _ i => ownC ⟨h0, _, h1⟩ i) nilF (fun _ _ i j => ownA i j) h
theorem HReps.ind {P : List V → List D → Prop} (n : P [] []) (c : ∀ v d vs ds, HRep K S H v d → HReps K S H vs ds → P vs ds → P (v :: vs) (d :: ds)) {vs : List V} {ds : List D} (h : HReps K S H vs ds) : P vs ds :=
  HReps.rec (motive_1 := fun _ _ _ => True) (motive_2 := fun v d _ => P v d) trivial (fun _ => trivial) (fun _ => trivial) (fun _ => trivial) (fun _ => trivial) (fun _ _ _ => trivial) (fun _ _ _ _ => trivial) (fun _ _ _ => trivial) n (fun a b _ j => c _ _ _ _ a b j) h
theorem MReps.ind {P : List V → List D → List Addr → Prop} (n : P [] [] []) (c : ∀ v d f vs ds g, MRep K F H v d f → MReps K F H vs ds g → P vs ds g → P (v :: vs) (d :: ds) (f ++ g)) {vs : List V} {ds : List D} {f : List Addr} (h : MReps K F H vs ds f) : P vs ds f :=
  MReps.rec (motive_1 := fun _ _ _ _ => True) (motive_2 := fun v d f _ => P v d f) trivial (fun _ => trivial) (fun _ => trivial) (fun _ => trivial) (fun _ => trivial) (fun _ _ _ => trivial) (fun _ _ _ _ => trivial) (fun _ _ _ => trivial) (fun _ _ _ _ => trivial) n (fun a b _ j => c _ _ _ _ _ _ a b j) h
theorem HReps.length {vs : List V} {ds : List D} (h : HReps K S H vs ds) : vs.length = ds.length :=
  HReps.ind (P := fun v d => v.length = d.length) rfl (fun _ _ _ _ _ _ j => congrArg (· + 1) j) h
theorem HReps.get {i : Nat} {vs : List V} {ds : List D} {d : D} (h : HReps K S H vs ds) (e : ds[i]? = some d) : ∃ v, vs[i]? = some v ∧ HRep K S H v d :=
  HReps.ind (P := fun vs ds => ∀ i d, ds[i]? = some d → ∃ v, vs[i]? = some v ∧ HRep K S H v d) (fun i d e => nomatch (show none = some d from e)) (fun v d _ _ a _ j i d e => by
    cases i with
    | zero => exact ⟨_, rfl, Option.some.inj e ▸ a⟩
    | succ i => exact j i d e) h i d e
theorem HReps.getV {i : Nat} {vs : List V} {ds : List D} {v : V} (h : HReps K S H vs ds) (e : vs[i]? = some v) : ∃ d, ds[i]? = some d ∧ HRep K S H v d :=
  HReps.ind (P := fun vs ds => ∀ i v, vs[i]? = some v → ∃ d, ds[i]? = some d ∧ HRep K S H v d) (fun i d e => nomatch (show none = some d from e)) (fun v d _ _ a _ j i d e => by
    cases i with
    | zero => exact ⟨_, rfl, Option.some.inj e ▸ a⟩
    | succ i => exact j i d e) h i v e
theorem HReps.append {vs ws : List V} {ds es : List D} (h : HReps K S H vs ds) (h' : HReps K S H ws es) : HReps K S H (vs ++ ws) (ds ++ es) :=
  HReps.ind (P := fun v d => HReps K S H (v ++ ws) (d ++ es)) h' (fun _ _ _ _ a _ j => .cons a j) h
theorem HReps.take {vs : List V} {ds : List D} (n : Nat) (h : HReps K S H vs ds) : HReps K S H (vs.take n) (ds.take n) :=
  HReps.ind (P := fun v d => ∀ n, HReps K S H (v.take n) (d.take n)) (fun n => by cases n <;> exact .nil) (fun _ _ _ _ a _ j n => by
    cases n with
    | zero => exact .nil
    | succ n => exact .cons a (j n)) h n
theorem HReps.drop {vs : List V} {ds : List D} (n : Nat) (h : HReps K S H vs ds) : HReps K S H (vs.drop n) (ds.drop n) :=
  HReps.ind (P := fun v d => ∀ n, HReps K S H (v.drop n) (d.drop n)) (fun n => by cases n <;> exact .nil) (fun _ _ _ _ a b j n => by
    cases n with
    | zero => exact .cons a b
    | succ n => exact j n) h n
theorem MReps.length {vs : List V} {ds : List D} {f : List Addr} (h : MReps K F H vs ds f) : vs.length = ds.length :=
  MReps.ind (P := fun v d _ => v.length = d.length) rfl (fun _ _ _ _ _ _ _ _ j => congrArg (· + 1) j) h
theorem MReps.append {vs ws : List V} {ds es : List D} {f g : List Addr} (h : MReps K F H vs ds f) (h' : MReps K F H ws es g) : MReps K F H (vs ++ ws) (ds ++ es) (f ++ g) :=
  MReps.ind (P := fun v d f => MReps K F H (v ++ ws) (d ++ es) (f ++ g)) h' (fun _ _ _ _ _ _ a _ j => by
    rw [List.append_assoc]
    exact .cons a j) h
theorem HRep.lstR {v : V} {o : Bool} {ds : List D} (h : HRep K S H v (.lst o ds)) : ∃ a xs, v = .ref a ∧ SqL K H a xs ∧ HReps K S H xs ds := by
  cases h with
  | lst h0 h1 h2 => exact ⟨_, _, rfl, .inl h1, h2⟩
  | lstK h1 h2 => exact ⟨_, _, rfl, h1.sq, h2⟩
theorem HRep.lstL {v : V} {o : Bool} {ds : List D} (h : HRep K S H v (.lst o ds)) : ∃ a xs, v = .ref a ∧ Ls K H a xs ∧ HReps K S H xs ds := by
  cases h with
  | lst h0 h1 h2 => exact ⟨_, _, rfl, .inl h1, h2⟩
  | lstK h1 h2 => exact ⟨_, _, rfl, .inr h1, h2⟩
theorem HRep.tupR {v : V} {ds : List D} (h : HRep K S H v (.tup ds)) : ∃ a xs, v = .ref a ∧ SqT K H a xs ∧ HReps K S H xs ds := by
  cases h with
  | tup h1 h2 => exact ⟨_, _, rfl, h1, h2⟩
theorem HRep.intR {v : V} {i : Int} (h : HRep K S H v (.int i)) : v = .int i := by cases h; rfl
theorem HRep.blR {v : V} {i : Bool} (h : HRep K S H v (.bl i)) : v = .bl i := by cases h; rfl
theorem HRep.strR {v : V} {i : Str} (h : HRep K S H v (.str i)) : v = .str i := by cases h; rfl
theorem HRep.nonR {v : V} (h : HRep K S H v .non) : v = .non := by cases h; rfl
theorem HReps.ints {vs : List V} {ns : List Int} (h : HReps K S H vs (ns.map .int)) : vs = ns.map .int :=
  HReps.ind (P := fun v d => ∀ ns : List Int, d = ns.map .int → v = ns.map .int) (fun ns e => by
    cases ns with
    | nil => rfl
    | cons n ns => exact nomatch e) (fun _ _ _ _ a _ j ns e => by
    cases ns with
    | nil => exact nomatch e
    | cons n ns =>
      obtain ⟨h1, h2⟩ := List.cons.inj e
      subst h1
      rw [j ns h2, a.intR]
      rfl) h ns rfl
theorem HReps.strs {vs : List V} {ns : List Str} (h : HReps K S H vs (ns.map .str)) : vs = ns.map .str :=
  HReps.ind (P := fun v d => ∀ ns : List Str, d = ns.map .str → v = ns.map .str) (fun ns e => by
    cases ns with
    | nil => rfl
    | cons n ns => exact nomatch e) (fun _ _ _ _ a _ j ns e => by
    cases ns with
    | nil => exact nomatch e
    | cons n ns =>
      obtain ⟨h1, h2⟩ := List.cons.inj e
      subst h1
      rw [j ns h2, a.strR]
      rfl) h ns rfl
theorem HReps.ofInts : ∀ (ns : List Int), HReps K S H (ns.map .int) (ns.map .int)
  | [] => .nil
  | n :: ns => .cons (.int n) (HReps.ofInts ns)
end
theorem Same.upd {H : Hp} {a : Addr} {o : HO} (h : H a = none) : Same H (upd H a o) := fun b u e => by
  rw [upd_ne (ne_of_none e h)]
  exact e
end L2
namespace L2
open PySem PySem.Spec PyProof.Rows
inductive BOp where
  | add | sub | mul | fdiv | mod
  deriving DecidableEq
inductive COp where
  | eq | ne | lt | le | isn
  deriving DecidableEq
inductive Kd where
  | tuple
  deriving DecidableEq
inductive Bi where
  | len | list | sum
  deriving DecidableEq
inductive Mt where
  | join
  deriving DecidableEq
inductive Tg where
  | nm (i : Nat) | pr (i j : Nat)
structure Gm where
  N : List Str
  kd : List NameKind
  gl : List Nat
  df : Bool
  cm : Bool := true
  rs : Bool := true
mutual
inductive IR where
  | c (d : D)
  | g (n : Nat) (d : D)
  | v (i : Nat)
  | bin (op : BOp) (a b : IR)
  | cmp (op : COp) (a b : IR)
  | chain (op op' : COp) (a b c : IR)
  | or_ (a b : IR)
  | and_ (a b : IR)
  | not_ (a : IR)
  | tup (es : List IR)
  | lst (es : List IR)
  | idx (a i : IR)
  | sl (a : IR) (lo hi : Option IR)
  | call (f : Nat) (es : List IR)
  | bi (f : Bi) (es : List IR)
  | lset (a : IR)
  | isi (a : IR) (k : Kd)
  | isx (a : IR) (ns : List Nat) (tb : List (Str × Bool))
  | mth (m : Mt) (o : IR) (es : List IR)
  | comp (G : Gm) (fr : List Nat) (tg : Tg) (src : Sr) (ifs : List IR) (elt : IR)
inductive Sr where
  | rng1 (n : IR) | rng2 (a b : IR) | val (e : IR)
end
inductive IS where
  | asg (tg : Tg) (e : IR)
  | setix (i : Nat) (k e : IR)
  | app (i : Nat) (e : IR)
  | appx (i k : Nat) (e : IR)
  | clrx (i k : Nat)
  | exp (e : IR)
  | ret (e : IR)
  | if_ (t : IR) (a b : List IS)
  | for_ (tg : Tg) (src : Sr) (body : List IS)
  | raise_ (n : Nat) (c : Str) (w : Str)
  | tryx (body : List IS) (n : Nat) (cs : List Str) (i : Nat) (h : List IS)
noncomputable abbrev Ev := List (Option D)
inductive Fl where
  | nx (τ : Ev) | rt (d : D)
noncomputable def cutG {α : Type} (xs : List α) (lo hi : Option Int) : List α := (xs.drop (HT.sIx xs.length 0 lo)).take (HT.sIx xs.length xs.length hi - HT.sIx xs.length 0 lo)
noncomputable def szOk (n : Nat) : Bool := decide (n ≤ sizeLine)
noncomputable def szLt (n : Nat) : Bool := decide (n < sizeLine)
noncomputable def opB : BOp → D → D → Res D
  | .add, .int a, .int b => .ok (.int (a + b))
  | .add, .str a, .str b => grd (szOk (a.length + b.length)) (.ok (.str (a ++ b)))
  | .add, .lst _ a, .lst _ b => grd (szOk (a.length + b.length)) (.ok (.lst true (a ++ b)))
  | .sub, .int a, .int b => .ok (.int (a - b))
  | .mul, .int a, .int b => grd (decide (-(2 ^ 64) < a ∧ a < 2 ^ 64) || decide (-(2 ^ 64) < b ∧ b < 2 ^ 64)) (.ok (.int (a * b)))
  | .mul, .lst _ a, .int b => grd (decide (0 ≤ b ∧ b ≤ 16000 ∧ a.length ≤ 1000)) (.ok (.lst true (List.flatten (List.replicate b.toNat a))))
  | .fdiv, .int a, .int b => grd (decide (0 < b ∧ b < 1073741824)) (.ok (.int (a / b)))
  | .mod, .int a, .int b => grd (decide (0 < b)) (.ok (.int (a % b)))
  | _, _, _ => stk
noncomputable def opIx : D → D → Res D
  | .lst _ ds, .int i => match atI ds i with
    | some d => .ok d
    | none => stk
  | .tup ds, .int i => match atI ds i with
    | some d => .ok d
    | none => stk
  | .str z, .int i => grd (szOk z.length) (match atI z.cps.toList i with
    | some c => .ok (.str ⟨#[c]⟩)
    | none => stk)
  | _, _ => stk
noncomputable def opSl : D → Option Int → Option Int → Res D
  | .lst _ ds, lo, hi => .ok (.lst true (cutG ds lo hi))
  | .str z, lo, hi => grd (szOk z.length) (.ok (.str (Txt.slice z lo hi)))
  | _, _, _ => stk
noncomputable def truD : D → Res Bool
  | .bl b => .ok b
  | _ => stk
noncomputable def eqsG (f : D → D → Res Bool) : List D → List D → Res Bool
  | [], [] => .ok true
  | a :: r, b :: t => bnd (f a b) fun x => bnd (eqsG f r t) fun y => .ok (x && y)
  | _, _ => .ok false
noncomputable def eqN : Nat → D → D → Res Bool
  | 0, _, _ => stk
  | _ + 1, .non, .non => .ok true
  | _ + 1, .int a, .int b => .ok (a == b)
  | _ + 1, .str a, .str b => .ok (a == b)
  | n + 1, .tup a, .tup b => eqsG (eqN n) a b
  | n + 1, .lst _ a, .lst _ b => eqsG (eqN n) a b
  | _ + 1, _, _ => stk
noncomputable def isNon : D → Bool
  | .non => true
  | _ => false
noncomputable def notX : D → Bool
  | .exc _ => false
  | _ => true
noncomputable def opC : COp → D → D → Res Bool
  | .eq, a, b => eqN 40 a b
  | .ne, a, b => bnd (eqN 40 a b) fun r => .ok !r
  | .lt, .int a, .int b => .ok (decide (a < b))
  | .le, .int a, .int b => .ok (decide (a ≤ b))
  | .isn, a, .non => .ok (!isNon a)
  | _, _, _ => stk
noncomputable def asStrs : List D → Option (List Str)
  | [] => some []
  | .str i :: r => (asStrs r).map (i :: ·)
  | _ :: _ => none
noncomputable def asInts : List D → Option (List Int)
  | [] => some []
  | .int i :: r => (asInts r).map (i :: ·)
  | _ :: _ => none
noncomputable def isiD : Kd → D → Bool
  | .tuple, .tup _ => true
  | _, _ => false
noncomputable def isxD (tb : List (Str × Bool)) : D → Res D
  | .exc c => match tb.lookup c with
    | some b => .ok (.bl b)
    | none => stk
  | _ => stk
noncomputable def opBi : Bi → List D → Res D
  | .len, [.str x] => grd (szOk x.length) (.ok (.int x.length))
  | .len, [.lst _ ds] => .ok (.int ds.length)
  | .list, [.lst _ ds] => .ok (.lst true ds)
  | .sum, [.lst _ ds] => match asInts ds with
    | some ns => grd (decide (ns.length ≤ 1000000)) (.ok (.int ns.sum))
    | none => stk
  | _, _ => stk
noncomputable def lsetD : D → Res D
  | .lst _ ds => match asStrs ds with
    | some ys => grd (decide (ys.length < 1000)) (.ok (.int ((ys.foldl Sx.dd []).length : Nat)))
    | none => stk
  | _ => stk
noncomputable def isStrD : D → Bool
  | .str _ => true
  | _ => false
noncomputable def opMt : Mt → D → List D → Res D
  | .join, .str x, [.lst _ ds] => match asStrs ds with
    | some ys => grd (decide ((ys.map (·.length)).sum + ys.length * x.length ≤ 16777216)) (.ok (.str (Txt.join x ys)))
    | none => stk
  | _, _, _ => stk
noncomputable def itemsD : D → Res (List D)
  | .lst _ ds => .ok ds
  | _ => stk
noncomputable def rngD (a b : Int) : List D := (List.range (b - a).toNat).map fun k => .int (a + (k : Nat))
noncomputable def rngOk (i : Int) : Bool := decide (-(2 ^ 62) ≤ i ∧ i < 2 ^ 62)
noncomputable def fmapM {α β : Type} (f : α → Res (Option β)) : List α → Res (List β)
  | [] => .ok []
  | x :: xs => bnd (f x) fun
    | some d => bnd (fmapM f xs) fun r => .ok (d :: r)
    | none => fmapM f xs
noncomputable def noX {α : Type} : Res α → Res α
  | .error _ => stk
  | .ok a => .ok a
noncomputable def setT : Tg → D → Ev → Res Ev
  | .nm i, d, τ => .ok (τ.set i (some d))
  | .pr i j, .tup ds, τ => match ds with
    | [a, b] => .ok ((τ.set i (some a)).set j (some b))
    | _ => stk
  | _, _, _ => stk
noncomputable def slotD (τ : Ev) (i : Nat) : Option D := (τ[i]?).join
mutual
noncomputable def vars : IR → List Nat
  | .c _ => []
  | .g _ _ => []
  | .v i => [i]
  | .bin _ a b => vars a ++ vars b
  | .cmp _ a b => vars a ++ vars b
  | .chain _ _ a b c => vars a ++ vars b ++ vars c
  | .or_ a b => vars a ++ vars b
  | .and_ a b => vars a ++ vars b
  | .not_ a => vars a
  | .tup es => varss es
  | .lst es => varss es
  | .idx a i => vars a ++ vars i
  | .sl a lo hi => vars a ++ varsO lo ++ varsO hi
  | .call _ es => varss es
  | .bi _ es => varss es
  | .lset a => vars a
  | .isi a _ => vars a
  | .isx a _ _ => vars a
  | .mth _ o es => vars o ++ varss es
  | .comp _ fr _ src _ _ => fr ++ varsS src
noncomputable def varss : List IR → List Nat
  | [] => []
  | e :: es => vars e ++ varss es
noncomputable def varsO : Option IR → List Nat
  | none => []
  | some e => vars e
noncomputable def varsS : Sr → List Nat
  | .rng1 n => vars n
  | .rng2 a b => vars a ++ vars b
  | .val e => vars e
end
mutual
noncomputable def evR (cl : Nat → List D → Res D) : IR → Ev → Res D
  | .c d, _ => .ok d
  | .g _ d, _ => .ok d
  | .v i, τ => match slotD τ i with
    | some d => .ok d
    | none => stk
  | .bin op a b, τ => bnd (evR cl a τ) fun x => bnd (evR cl b τ) fun y => opB op x y
  | .cmp op a b, τ => bnd (evR cl a τ) fun x => bnd (evR cl b τ) fun y => bnd (opC op x y) fun r => .ok (.bl r)
  | .chain op op' a b c, τ => bnd (evR cl a τ) fun x => bnd (evR cl b τ) fun y => bnd (opC op x y) fun r =>
    if r = true then bnd (evR cl c τ) fun z => bnd (opC op' y z) fun r' => .ok (.bl r') else .ok (.bl false)
  | .or_ a b, τ => bnd (evR cl a τ) fun x => bnd (truD x) fun r => if r = true then .ok x else evR cl b τ
  | .and_ a b, τ => bnd (evR cl a τ) fun x => bnd (truD x) fun r => if r = true then evR cl b τ else .ok x
  | .not_ a, τ => bnd (evR cl a τ) fun x => bnd (truD x) fun r => .ok (.bl !r)
  | .tup es, τ => bnd (evRs cl es τ) fun ds => grd (szOk ds.length) (.ok (.tup ds))
  | .lst es, τ => bnd (evRs cl es τ) fun ds => grd (szOk ds.length) (.ok (.lst true ds))
  | .idx a i, τ => bnd (evR cl a τ) fun x => bnd (evR cl i τ) fun y => opIx x y
  | .sl a lo hi, τ => bnd (evR cl a τ) fun x => bnd (evRO cl lo τ) fun l => bnd (evRO cl hi τ) fun h => opSl x l h
  | .call f es, τ => bnd (evRs cl es τ) fun ds => cl f (ers ds)
  | .bi f es, τ => bnd (evRs cl es τ) fun ds => opBi f ds
  | .lset a, τ => bnd (evR cl a τ) lsetD
  | .isi a k, τ => bnd (evR cl a τ) fun x => grd (notX x) (.ok (.bl (isiD k x)))
  | .isx a _ tb, τ => bnd (evR cl a τ) (isxD tb)
  | .mth m o es, τ => bnd (evR cl o τ) fun x => grd (isStrD x) (bnd (evRs cl es τ) fun ds => opMt m x ds)
  | .comp G fr tg src ifs elt, τ => bnd (evSr cl src τ) fun its => grd (szLt its.length) (bnd (noX (fmapM (fun x => bnd (setT tg x (fr.map (slotD τ) ++ List.replicate (G.N.length - fr.length) none)) fun τ1 =>
      bnd (evTs cl ifs τ1) fun r => if r = true then bnd (evR cl elt τ1) fun d => .ok (some d) else .ok none) its)) fun ds => .ok (.lst true ds))
noncomputable def evRs (cl : Nat → List D → Res D) : List IR → Ev → Res (List D)
  | [], _ => .ok []
  | e :: es, τ => bnd (evR cl e τ) fun d => bnd (evRs cl es τ) fun ds => .ok (d :: ds)
noncomputable def evRO (cl : Nat → List D → Res D) : Option IR → Ev → Res (Option Int)
  | none, _ => .ok none
  | some e, τ => bnd (evR cl e τ) fun
    | .int i => .ok (some i)
    | _ => stk
noncomputable def evTs (cl : Nat → List D → Res D) : List IR → Ev → Res Bool
  | [], _ => .ok true
  | e :: es, τ => bnd (bnd (evR cl e τ) truD) fun r => if r = true then evTs cl es τ else .ok false
noncomputable def evSr (cl : Nat → List D → Res D) : Sr → Ev → Res (List D)
  | .rng1 n, τ => bnd (evR cl n τ) fun
    | .int i => grd (rngOk i) (.ok (rngD 0 i))
    | _ => stk
  | .rng2 a b, τ => bnd (evR cl a τ) fun x => bnd (evR cl b τ) fun y => match x, y with
    | .int i, .int j => grd (rngOk i && rngOk j) (.ok (rngD i j))
    | _, _ => stk
  | .val e, τ => bnd (evR cl e τ) itemsD
end
noncomputable def evT (cl : Nat → List D → Res D) (t : IR) (τ : Ev) : Res Bool := bnd (evR cl t τ) truD
noncomputable def frzA (is : List Nat) : Nat → Ev → Ev
  | _, [] => []
  | k, o :: τ => (if is.contains k then o.map er else o) :: frzA is (k + 1) τ
noncomputable abbrev frz (is : List Nat) (τ : Ev) : Ev := frzA is 0 τ
mutual
noncomputable def sh (b : Bool) : D → Bool
  | .tup ds => shs b ds
  | .lst o ds => (o || (b && ds.isEmpty)) && shs b ds
  | _ => true
noncomputable def shs (b : Bool) : List D → Bool
  | [] => true
  | d :: ds => sh b d && shs b ds
end
mutual
noncomputable def nes : D → Bool
  | .tup ds => ness ds
  | .lst _ ds => !ds.isEmpty && ness ds
  | _ => true
noncomputable def ness : List D → Bool
  | [] => true
  | d :: ds => nes d && ness ds
end
noncomputable def apartD (d : D) (ds : List D) : Bool := sh false d || (sh true d && ness ds)
noncomputable def newList? : IR → Bool
  | .comp _ _ _ _ _ _ => true
  | .bi .list _ => true
  | _ => false
noncomputable def keepD (e : IR) (d : D) (τ : Ev) : D × Ev :=
  if lfree d = true then (d, τ)
  else match newList? e, d with
    | true, .lst _ ds => if lfrees ds = true then (.lst true ds, τ) else (.lst true (ers ds), frz (vars e) τ)
    | _, _ => (er d, frz (vars e) τ)
mutual
noncomputable def evO (cl : Nat → List D → Res D) (mv : Bool) : IR → Ev → Res (D × Ev)
  | .v i, τ => match slotD τ i with
    | some d => if mv = true then .ok (d, τ.set i none) else .ok (er d, τ.set i (some (er d)))
    | none => stk
  | .tup es, τ => bnd (evOs cl mv es τ) fun p => grd (szOk p.1.length) (.ok (.tup p.1, p.2))
  | .lst es, τ => bnd (evOs cl mv es τ) fun p => grd (szOk p.1.length) (.ok (.lst true p.1, p.2))
  | .call f es, τ => bnd (evRs cl es τ) fun ds => bnd (cl f (ers ds)) fun d => if lfree d = true then .ok (d, τ) else if apartD d ds = true then .ok (d, τ) else .ok (d, frz (varss es) τ)
  | e, τ => bnd (evR cl e τ) fun d => .ok (keepD e d τ)
noncomputable def evOs (cl : Nat → List D → Res D) (mv : Bool) : List IR → Ev → Res (List D × Ev)
  | [], τ => .ok ([], τ)
  | e :: es, τ => bnd (evO cl mv e τ) fun p => bnd (evOs cl mv es p.2) fun q => .ok (p.1 :: q.1, q.2)
end
noncomputable def forM (body : D → Ev → Res Fl) : List D → Ev → Res Fl
  | [], τ => .ok (.nx τ)
  | x :: xs, τ => bnd (body x τ) fun
    | .nx τ' => forM body xs τ'
    | .rt d => .ok (.rt d)
noncomputable def srcO (cl : Nat → List D → Res D) (s : Sr) (τ : Ev) : Res (List D × Ev) := bnd (evSr cl s τ) fun its => match s with
  | .rng1 _ => .ok (its, τ)
  | s => .ok (ers its, frz (varsS s) τ)
mutual
noncomputable def evS (cl : Nat → List D → Res D) : IS → Ev → Res Fl
  | .asg tg e, τ => bnd (evO cl false e τ) fun p => bnd (setT tg p.1 p.2) fun τ' => .ok (.nx τ')
  | .setix i k e, τ => bnd (evO cl false e τ) fun p => match slotD p.2 i with
    | some (.lst true ds) => bnd (evR cl k p.2) fun
      | .int z => (match ixN ds.length z with
        | some j => .ok (.nx (p.2.set i (some (.lst true (ds.set j p.1)))))
        | none => stk)
      | _ => stk
    | _ => stk
  | .app i e, τ => match slotD τ i with
    | some (.lst _ _) => bnd (evO cl false e τ) fun p => (match slotD p.2 i with
      | some (.lst true ds) => grd (szLt ds.length) (.ok (.nx (p.2.set i (some (.lst true (ds ++ [p.1]))))))
      | _ => stk)
    | _ => stk
  | .appx i k e, τ => match slotD τ i with
    | some (.tup ds) => (match ds[k]? with
      | some (.lst true xs) => bnd (evR cl e τ) fun _ => grd (szLt xs.length) (.ok (.nx (τ.set i none)))
      | _ => stk)
    | _ => stk
  | .clrx i k, τ => match slotD τ i with
    | some (.tup ds) => (match ds[k]? with
      | some (.lst true xs) => grd (lfrees xs) (.ok (.nx (τ.set i (some (.tup (ds.set k (.lst true [])))))))
      | _ => stk)
    | _ => stk
  | .exp e, τ => bnd (evR cl e τ) fun _ => .ok (.nx τ)
  | .ret e, τ => bnd (evO cl true e τ) fun p => .ok (.rt p.1)
  | .if_ t a b, τ => bnd (evT cl t τ) fun r => if r = true then evSs cl a τ else evSs cl b τ
  | .for_ tg s body, τ => bnd (srcO cl s τ) fun p => forM (fun x τ => bnd (setT tg x τ) fun τ' => evSs cl body τ') p.1 p.2
  | .raise_ _ c _, _ => .error (.exc c)
  | .tryx body _ cs i h, τ => match evSs cl body τ with
    | .ok (.nx τ') => .ok (.nx τ')
    | .error (.exc c) => grd (cs.contains c) (bnd (noX (evSs cl h ((List.replicate τ.length none).set i (some (.exc c))))) fun
      | .nx τ' => .ok (.nx (τ'.set i none))
      | _ => stk)
    | _ => stk
noncomputable def evSs (cl : Nat → List D → Res D) : List IS → Ev → Res Fl
  | [], τ => .ok (.nx τ)
  | s :: r, τ => bnd (evS cl s τ) fun
    | .nx τ' => evSs cl r τ'
    | .rt d => .ok (.rt d)
end
structure Fn where
  np : Nat
  G : Gm
  body : List IS
noncomputable def runF (cl : Nat → List D → Res D) (fn : Fn) (ds : List D) : Res D :=
  grd (decide (ds.length = fn.np)) (bnd (evSs cl fn.body (ds.map some ++ List.replicate (fn.G.N.length - fn.np) none)) fun
    | .nx _ => .ok .non
    | .rt d => .ok d)
noncomputable abbrev Tb := Nat → Option Fn
noncomputable def callF (T : Tb) : Nat → Nat → List D → Res D
  | 0, _, _ => stk
  | n + 1, f, ds => match T f with
    | some fn => runF (callF T n) fn ds
    | none => stk
theorem evR_v {cl : Nat → List D → Res D} {i : Nat} {τ : Ev} : evR cl (.v i) τ = (match slotD τ i with | some d => .ok d | none => stk) := rfl
theorem evO_v {cl : Nat → List D → Res D} {i : Nat} {τ : Ev} {mv : Bool} : evO cl mv (.v i) τ = (match slotD τ i with | some d => if mv = true then .ok (d, τ.set i none) else .ok (er d, τ.set i (some (er d))) | none => stk) := rfl
end L2
namespace L2
open PySem PySem.Spec PyProof.Rows PySem.SeqAt
section
variable {X : Cx} {pins : List (Addr × Obj)} {σ : St} {H : Hp} {S : Addr → Prop} {s : Shared}
theorem Inv.not_both (I : Inv X pins σ H s) {a : Addr} {xs ys : List V} (h1 : SqL X.K H a xs) (h2 : SqT X.K H a ys) : False := by
  obtain ⟨its, _, ⟨o, n, e, c, _⟩, _⟩ := I.list h1
  obtain ⟨its', _, ⟨o', e', c', _⟩, _⟩ := I.tuple h2
  rw [e] at e'; cases e'
  rw [c] at c'
  injection c' with c'
  exact absurd c' (by decide)
theorem Inv.exc_at (I : Inv X pins σ H s) {a : Addr} {c : Str} (h : SqE X.K H a (.inr c)) : ∃ C o vs, PySem.W.nsIn X.K mainGlobals c = some (some (.ref C)) ∧ nameIn X.K C = some c ∧ s.heap.get? a = some o ∧ o.cls = .ref C ∧ o.data = .fields vs := by
  obtain ⟨C, o, vs, h0, h1, h2, h3, h4⟩ := h
  exact ⟨C, o, vs, h0, h1, (I.hok a _ h2).1, h3, h4⟩
theorem Inv.exc_one (I : Inv X pins σ H s) {a : Addr} {c c' : Str} (h : SqE X.K H a (.inr c)) (k : SqE X.K H a (.inr c')) : c = c' := by
  obtain ⟨C, o, vs, _, n1, e, c1, _⟩ := I.exc_at h
  obtain ⟨C', o', vs', _, n2, e', c2, _⟩ := I.exc_at k
  rw [e] at e'; cases e'
  rw [c1] at c2; cases c2
  rw [n1] at n2; cases n2
  rfl
theorem Inv.exc_tup (I : Inv X pins σ H s) {a : Addr} {c : Str} {xs : List V} (h : SqE X.K H a (.inr c)) (k : SqT X.K H a xs) : False := by
  obtain ⟨C, o, vs, _, _, e, c1, _⟩ := I.exc_at h
  obtain ⟨its', _, ⟨o', e', c', _⟩, _⟩ := I.tuple k
  rw [e] at e'; cases e'
  rw [c1] at c'; cases c'
theorem Inv.exc_lst (I : Inv X pins σ H s) {a : Addr} {c : Str} {xs : List V} (h : SqE X.K H a (.inr c)) (k : SqL X.K H a xs) : False := by
  obtain ⟨C, o, vs, _, _, e, c1, _⟩ := I.exc_at h
  obtain ⟨its', _, ⟨o', n, e', c', _⟩, _⟩ := I.list k
  rw [e] at e'; cases e'
  rw [c1] at c'; cases c'
mutual
theorem HRep.one (I : Inv X pins σ H s) : ∀ {v : V} {d e : D}, HRep X.K S H v d → HRep X.K S H v e → er d = er e
  | _, _, _, .non, h => by cases h; rfl
  | _, _, _, .bl b, h => by cases h; rfl
  | _, _, _, .int i, h => by cases h; rfl
  | _, _, _, .str x, h => by cases h; rfl
  | _, _, _, .exc h0, h => by
    cases h with
    | exc k1 => exact congrArg D.exc (I.exc_one h0 k1)
    | tup k1 k2 => exact (I.exc_tup h0 k1).elim
    | lst k0 k1 k2 => exact (I.exc_lst h0 (.inl k1)).elim
    | lstK k1 k2 => exact (I.exc_lst h0 k1.sq).elim
  | _, _, _, .tup h1 h2, h => by
    cases h with
    | exc k1 => exact (I.exc_tup k1 h1).elim
    | tup k1 k2 =>
      have e := I.tuple_inj h1 k1
      subst e
      rw [er, er, HReps.one I h2 k2]
    | lst k0 k1 k2 => exact (I.not_both (.inl k1) h1).elim
    | lstK k1 k2 => exact (I.not_both k1.sq h1).elim
  | _, _, _, .lst h0 h1 h2, h => by
    cases h with
    | exc k1 => exact (I.exc_lst k1 (.inl h1)).elim
    | tup k1 k2 => exact (I.not_both (.inl h1) k1).elim
    | lst k0 k1 k2 =>
      have e := I.list_inj (.inl h1) (.inl k1)
      subst e
      rw [er, er, HReps.one I h2 k2]
    | lstK k1 k2 =>
      have e := I.list_inj (.inl h1) k1.sq
      subst e
      rw [er, er, HReps.one I h2 k2]
  | _, _, _, .lstK h1 h2, h => by
    cases h with
    | exc k1 => exact (I.exc_lst k1 h1.sq).elim
    | tup k1 k2 => exact (I.not_both h1.sq k1).elim
    | lst k0 k1 k2 =>
      have e := I.list_inj h1.sq (.inl k1)
      subst e
      rw [er, er, HReps.one I h2 k2]
    | lstK k1 k2 =>
      have e := I.list_inj h1.sq k1.sq
      subst e
      rw [er, er, HReps.one I h2 k2]
theorem HReps.one (I : Inv X pins σ H s) : ∀ {vs : List V} {ds es : List D}, HReps X.K S H vs ds → HReps X.K S H vs es → ers ds = ers es
  | _, _, _, .nil, h => by cases h; rfl
  | _, _, _, .cons h1 h2, h => by
    cases h with
    | cons k1 k2 => rw [ers, ers, HRep.one I h1 k1, HReps.one I h2 k2]
end
end
theorem bnd_ok {α β : Type} {x : Res α} {f : α → Res β} {b : β} (h : bnd x f = .ok b) : ∃ a, x = .ok a ∧ f a = .ok b := by
  cases x with
  | error e => cases h
  | ok a => exact ⟨a, rfl, h⟩
theorem grd_ok {α : Type} {c : Bool} {x : Res α} {b : α} (h : grd c x = .ok b) : c = true ∧ x = .ok b := by
  unfold grd at h
  cases c with
  | true => exact ⟨rfl, h⟩
  | false => cases h
theorem eqsG_refl {f : D → D → Res Bool} (hf : ∀ d e r, f d e = .ok r → er d = er e → r = true) : ∀ {ds es : List D} {r : Bool}, eqsG f ds es = .ok r → ers ds = ers es → r = true
  | [], [], r, h, _ => by cases h; rfl
  | [], _ :: _, _, _, h => by rw [ers, ers] at h; cases h
  | _ :: _, [], _, _, h => by rw [ers, ers] at h; cases h
  | a :: ds, b :: es, r, h, h' => by
    rw [ers, ers] at h'
    injection h' with e1 e2
    obtain ⟨x, hx, h⟩ := bnd_ok (show bnd (f a b) (fun x => bnd (eqsG f ds es) fun y => .ok (x && y)) = .ok r from h)
    obtain ⟨y, hy, h⟩ := bnd_ok h
    cases h
    rw [hf a b x hx e1, eqsG_refl hf hy e2]
    rfl
theorem eqN_refl : ∀ (n : Nat) (d e : D) (r : Bool), eqN n d e = .ok r → er d = er e → r = true
  | 0, _, _, _, h, _ => by cases h
  | n + 1, d, e, r, h, h' => by
    cases d with
    | tup ds =>
      cases e with
      | tup es =>
        rw [er, er] at h'
        injection h' with e1
        exact eqsG_refl (eqN_refl n) h e1
      | _ => cases h
    | lst o ds =>
      cases e with
      | lst o' es =>
        rw [er, er] at h'
        injection h' with _ e1
        exact eqsG_refl (eqN_refl n) h e1
      | _ => cases h
    | non =>
      cases e with
      | non => cases h; rfl
      | _ => cases h
    | int b =>
      cases e with
      | int c => rw [er, er] at h'; injection h' with e1; subst e1; cases h; simp
      | _ => cases h
    | str b =>
      cases e with
      | str c => rw [er, er] at h'; injection h' with e1; subst e1; cases h; simp
      | _ => cases h
    | _ => cases e <;> cases h
theorem eqsG_len {f : D → D → Res Bool} : ∀ {ds es : List D} {r : Bool}, eqsG f ds es = .ok r → ds.length ≠ es.length → r = false
  | [], [], _, _, h => absurd rfl h
  | [], _ :: _, _, h, _ => by cases h; rfl
  | _ :: _, [], _, h, _ => by cases h; rfl
  | a :: ds, b :: es, r, h, n => by
    obtain ⟨x, hx, h⟩ := bnd_ok (show bnd (f a b) (fun x => bnd (eqsG f ds es) fun y => .ok (x && y)) = .ok r from h)
    obtain ⟨y, hy, h⟩ := bnd_ok h
    cases h
    rw [eqsG_len hy (fun z => n (by rw [List.length_cons, List.length_cons, z]))]
    simp
theorem eqsG_at {f : D → D → Res Bool} : ∀ {ds es : List D} {r : Bool}, eqsG f ds es = .ok r → ds.length = es.length →
    ∃ e : Nat → Bool, (∀ j a b, ds[j]? = some a → es[j]? = some b → f a b = .ok (e j)) ∧ r = (List.range ds.length).all e
  | [], [], r, h, _ => by cases h; exact ⟨fun _ => true, fun j a b h => by simp at h, rfl⟩
  | [], _ :: _, _, _, h => by cases h
  | _ :: _, [], _, _, h => by cases h
  | a :: ds, b :: es, r, h, n => by
    obtain ⟨x, hx, h⟩ := bnd_ok (show bnd (f a b) (fun x => bnd (eqsG f ds es) fun y => .ok (x && y)) = .ok r from h)
    obtain ⟨y, hy, h⟩ := bnd_ok h
    cases h
    obtain ⟨e, h1, h2⟩ := eqsG_at hy (by simpa using n)
    refine ⟨fun j => match j with | 0 => x | k + 1 => e k, fun j a' b' e1 e2 => ?_, ?_⟩
    · cases j with
      | zero => simp at e1 e2; subst e1 e2; exact hx
      | succ k => exact h1 k a' b' (by simpa using e1) (by simpa using e2)
    · rw [h2, List.length_cons, List.range_succ_eq_map, List.all_cons, List.all_map]
      rfl
section
variable {X : Cx} {pins : List (Addr × Obj)} {σ : St} {H : Hp} {S : Addr → Prop} {s : Shared}
structure EqAll (A : Around) (s : Shared) (v u : Value) (r : Bool) : Prop where
  eq : EqAt A s v u r
  rc : RcAt A s v u r
  ne : RcNeAt A s v u (!r)
theorem items_eq (n : Nat) (A : Around) (ih : ∀ (x y : V) (v u : Value) (d e : D) (r : Bool), HRep X.K S H x d → HRep X.K S H y e → RelV x v → RelV y u → eqN n d e = .ok r → EqAt A.in1 s v u r)
    {xs ys : List V} {ds es : List D} {its its' : List Value} {r : Bool} (rv : Vals xs its) (rv' : Vals ys its') (h2 : HReps X.K S H xs ds) (k2 : HReps X.K S H ys es) (hr : eqsG (eqN n) ds es = .ok r) :
    ∃ e : Nat → Bool, (∀ j (q1 : j < its.toArray.size) (q2 : j < its'.toArray.size), EqAt A.in1 s its.toArray[j] its'.toArray[j] (e j)) ∧ r = ((List.range (min its.toArray.size its'.toArray.size)).all e && its.toArray.size == its'.toArray.size) := by
  have l1 := h2.length
  have l2 := k2.length
  have l3 := rv.length
  have l4 := rv'.length
  have pair : ∀ j (j1 : j < its.toArray.size) (j2 : j < its'.toArray.size) (b : Bool) (d1 : j < ds.length) (d2 : j < es.length), eqN n ds[j] es[j] = .ok b → EqAt A.in1 s its.toArray[j] its'.toArray[j] b := by
    intro j j1 j2 b d1 d2 hb
    obtain ⟨x', e1, m1⟩ := h2.get (i := j) (d := ds[j]) (by simp)
    obtain ⟨y', e2, m2⟩ := k2.get (i := j) (d := es[j]) (by simp)
    obtain ⟨v', ev, rv1⟩ := rv.get e1
    obtain ⟨u', eu, ru1⟩ := rv'.get e2
    have hv : its.toArray[j] = v' := by
      have := (List.getElem?_eq_some_iff.mp ev).2
      simpa using this
    have hu' : its'.toArray[j] = u' := by
      have := (List.getElem?_eq_some_iff.mp eu).2
      simpa using this
    rw [hv, hu']
    exact ih x' y' v' u' _ _ _ m1 m2 rv1 ru1 hb
  have z1 : its.toArray.size = ds.length := by simp; omega
  have z2 : its'.toArray.size = es.length := by simp; omega
  by_cases hl : ds.length = es.length
  · obtain ⟨e, q1, q2⟩ := eqsG_at hr hl
    refine ⟨e, fun j j1 j2 => pair j j1 j2 _ (by omega) (by omega) (q1 j _ _ (by simp) (by simp)), ?_⟩
    rw [q2, z1, z2, hl]
    simp
  · have hr' := eqsG_len hr hl
    have each : ∀ (ds es : List D) (r : Bool), eqsG (eqN n) ds es = .ok r → ∀ j (q1 : j < ds.length) (q2 : j < es.length), ∃ b, eqN n ds[j] es[j] = .ok b := by
      intro ds
      induction ds with
      | nil => intro es r _ j q1; simp at q1
      | cons a ds ih =>
        intro es r h j q1 q2
        cases es with
        | nil => simp at q2
        | cons b es =>
          obtain ⟨x, hx, h⟩ := bnd_ok (show bnd (eqN n a b) (fun x => bnd (eqsG (eqN n) ds es) fun y => .ok (x && y)) = .ok r from h)
          obtain ⟨y, hy, h⟩ := bnd_ok h
          cases j with
          | zero => exact ⟨x, hx⟩
          | succ k => exact ih es y hy k (by simpa using q1) (by simpa using q2)
    refine ⟨fun j => if q : j < ds.length ∧ j < es.length then ((match eqN n (ds[j]'q.1) (es[j]'q.2) with | .ok b => b | .error _ => false)) else false, fun j j1 j2 => ?_, ?_⟩
    · have d1 : j < ds.length := by omega
      have d2 : j < es.length := by omega
      obtain ⟨b, hb⟩ := each ds es r hr j d1 d2
      have q := pair j j1 j2 b d1 d2 hb
      show EqAt A.in1 s its.toArray[j] its'.toArray[j] (dite _ _ _)
      rw [dif_pos (show j < ds.length ∧ j < es.length from ⟨d1, d2⟩), hb]
      exact q
    · rw [hr']
      have : (its.toArray.size == its'.toArray.size) = false := by
        rw [beq_eq_false_iff_ne, z1, z2]
        exact hl
      rw [this, Bool.and_false]
theorem lists_eq (I : Inv X pins σ H s) (n : Nat) (A : Around) (ih : ∀ (x y : V) (v u : Value) (d e : D) (r : Bool), HRep X.K S H x d → HRep X.K S H y e → RelV x v → RelV y u → eqN n d e = .ok r → EqAt A.in1 s v u r)
    {a b : Addr} {o o' : Bool} {xs ys : List V} {ds es : List D} {r : Bool} (ha : SqL X.K H a xs) (hb : SqL X.K H b ys) (h2 : HReps X.K S H xs ds) (k2 : HReps X.K S H ys es)
    (m1 : HRep X.K S H (.ref a) (.lst o ds)) (m2 : HRep X.K S H (.ref b) (.lst o' es)) (hr : eqsG (eqN n) ds es = .ok r) (hu0 : A.units < cLine) : EqAll A s (.ref a) (.ref b) r := by
  obtain ⟨its, rv, p, _⟩ := I.list ha
  obtain ⟨its', rv', p', _⟩ := I.list hb
  obtain ⟨e, he, hre⟩ := items_eq n A ih rv rv' h2 k2 hr
  have both : RcAt A s (.ref a) (.ref b) r ∧ RcNeAt A s (.ref a) (.ref b) (!r) := by
    by_cases hl : its.toArray.size = its'.toArray.size
    · have hre' : r = (List.range its.toArray.size).all e := by
        rw [hre, ← hl, Nat.min_self]
        simp
      rw [hre']
      exact ⟨.lists p.isList p'.isList hl hu0 he, .lists p.isList p'.isList hl hu0 he⟩
    · have hne : (its.toArray.size != its'.toArray.size) = true := by simpa using hl
      have hre' : r = false := by
        rw [hre]
        have : (its.toArray.size == its'.toArray.size) = false := by rw [beq_eq_false_iff_ne]; exact hl
        rw [this, Bool.and_false]
      rw [hre']
      exact ⟨.lists_lengths p.isList p'.isList hne hu0, .lists_lengths p.isList p'.isList hne hu0⟩
  refine ⟨?_, both.1, both.2⟩
  by_cases hab : a = b
  · subst hab
    have hd := HRep.one I m1 m2
    rw [er, er] at hd
    injection hd with _ hd
    rw [eqsG_refl (eqN_refl n) hr hd]
    exact .same _
  · exact .of_refs hab both.1
set_option maxHeartbeats 4000000 in
theorem eqN_ok (I : Inv X pins σ H s) : ∀ (n : Nat) (A : Around) (x y : V) (v u : Value) (d e : D) (r : Bool), HRep X.K S H x d → HRep X.K S H y e → RelV x v → RelV y u → eqN n d e = .ok r →
    A.units + n < cLine → EqAll A s v u r
  | 0, _, _, _, _, _, _, _, _, _, _, _, _, h, _ => by cases h
  | n + 1, A, x, y, v, u, d, e, r, hx, hy, rx, ry, h, hu => by
    have hu0 : A.units < cLine := by omega
    have hu1 : A.in1.units + n < cLine := by show A.units + 1 + n < cLine; omega
    have ih : ∀ (x y : V) (v u : Value) (d e : D) (r : Bool), HRep X.K S H x d → HRep X.K S H y e → RelV x v → RelV y u → eqN n d e = .ok r → EqAt A.in1 s v u r :=
      fun x y v u d e r a1 a2 a3 a4 a5 => (eqN_ok I n A.in1 x y v u d e r a1 a2 a3 a4 a5 hu1).eq
    cases d with
    | non =>
      cases e with
      | non => cases hx.nonR; cases rx; cases hy.nonR; cases ry; cases h; exact ⟨.same _, .none_none, .none_none⟩
      | _ => cases h
    | int i =>
      cases e with
      | int i' => cases hx.intR; obtain ⟨t1, rfl⟩ := rx; cases hy.intR; obtain ⟨t2, rfl⟩ := ry; cases h; exact ⟨.int_int _ _ _ _, .int_int _ _ _ _, .int_int _ _ _ _⟩
      | _ => cases h
    | str z =>
      cases e with
      | str z' => cases hx.strR; obtain ⟨t1, rfl⟩ := rx; cases hy.strR; obtain ⟨t2, rfl⟩ := ry; cases h; exact ⟨.str_str _ _ _ _, .str_str _ _ _ _, .str_str _ _ _ _⟩
      | _ => cases h
    | tup ds =>
      cases e with
      | tup es =>
        have hx' := hx
        have hy' := hy
        obtain ⟨a1, xs1, rfl, q1, m1⟩ := hx.tupR; cases rx; obtain ⟨its1, rv1, p1, _⟩ := I.tuple q1
        obtain ⟨a2, xs2, rfl, q2, m2⟩ := hy.tupR; cases ry; obtain ⟨its2, rv2, p2, _⟩ := I.tuple q2
        have hr : eqsG (eqN n) ds es = .ok r := h
        obtain ⟨e, he, hre⟩ := items_eq n A ih rv1 rv2 m1 m2 hr
        refine ⟨?_, ?_, ?_⟩
        · by_cases hab : a1 = a2
          · subst hab
            have hd := HRep.one I hx' hy'
            rw [er, er] at hd
            injection hd with hd
            rw [eqsG_refl (eqN_refl n) hr hd]
            exact .same _
          · rw [hre]
            exact .of_refs hab (.tuples p1 p2 hu0 he)
        · rw [hre]
          exact .tuples p1 p2 hu0 he
        · rw [hre]
          exact .tuples p1 p2 hu0 he
      | _ => cases h
    | lst o ds =>
      cases e with
      | lst o' es =>
        have hx' := hx
        have hy' := hy
        obtain ⟨a1, xs1, rfl, q1, m1⟩ := hx.lstR; cases rx
        obtain ⟨a2, xs2, rfl, q2, m2⟩ := hy.lstR; cases ry
        exact lists_eq I n A ih q1 q2 m1 m2 hx' hy' h hu0
      | _ => cases h
    | _ => cases e <;> cases h
end
end L2
namespace L2
open PySem PySem.Spec PyProof.Rows PySem.SeqAt
noncomputable abbrev nw (S : Addr → Prop) (H : Hp) : Addr → Prop := fun a => S a ∨ H a = none
noncomputable abbrev Kk (K : PySem.W.Frag) (S : Addr → Prop) (H : Hp) (Q : VK) : D → Prop := fun d => ∀ w H', Same H H' → HRep K (nw S H) H' w d → Q w H'
theorem HRep.nw {K : PySem.W.Frag} {S : Addr → Prop} {H : Hp} {v : V} {d : D} (h : HRep K S H v d) : HRep K (nw S H) H v d := h.mono (fun _ => .inl) (.refl _)
theorem HReps.nw {K : PySem.W.Frag} {S : Addr → Prop} {H : Hp} {v : List V} {d : List D} (h : HReps K S H v d) : HReps K (L2.nw S H) H v d := h.mono (fun _ => .inl) (.refl _)
theorem newT {K : PySem.W.Frag} {S : Addr → Prop} {H : Hp} {p : Addr} {vs : List V} {ds : List D} (hp : H p = none) (h : HReps K S H vs ds) : HRep K (nw S H) (upd H p (.tup vs)) (.ref p) (.tup ds) :=
  .tup (.inl (.inl upd_same)) (h.mono (fun _ => .inl) (.upd hp))
theorem newL {K : PySem.W.Frag} {S : Addr → Prop} {H : Hp} {p : Addr} {vs : List V} {ds : List D} {o : Bool} (hp : H p = none) (h : HReps K S H vs ds) : HRep K (nw S H) (upd H p (.lst vs)) (.ref p) (.lst o ds) :=
  .lst (.inr hp) (.inl upd_same) (h.mono (fun _ => .inl) (.upd hp))
noncomputable def bop : BOp → Operator
  | .add => .Add | .sub => .Sub | .mul => .Mult | .fdiv => .FloorDiv | .mod => .Mod
noncomputable def cop : COp → CmpOp
  | .eq => .Eq | .ne => .NotEq | .lt => .Lt | .le => .LtE | .isn => .IsNot
noncomputable def rBin (K : PySem.W.Frag) (ex : Str → Prop) (op : BOp) : R2 := fun x y H Q => ∃ S d e, HRep K S H x d ∧ HRep K S H y e ∧ PO' ex (opB op d e) (Kk K S H Q)
noncomputable def rCmp (K : PySem.W.Frag) (ex : Str → Prop) (op : COp) : R2 := fun x y H Q => ∃ S d e, HRep K S H x d ∧ HRep K S H y e ∧ PO' ex (opC op d e) fun r => Q (.bl r) H
section
variable {X : Cx} {ex : Str → Prop}
theorem szOk_le {n : Nat} (h : szOk n = true) : n ≤ sizeLine := of_decide_eq_true h
theorem szLt_lt {n : Nat} (h : szLt n = true) : n < sizeLine := of_decide_eq_true h
theorem op_catL : OpR X (binaryOp .Add) (fun x y H Q => ∃ l b xs zs, x = .ref l ∧ y = .ref b ∧ Ls X.K H l xs ∧ Ls X.K H b zs ∧ xs.length + zs.length ≤ sizeLine ∧ ∀ p, H p = none → Q (.ref p) (upd H p (.lst (xs ++ zs)))) := by
  intro pins s σ H x y v u Q I rx ry h
  obtain ⟨l, b, xs, zs, rfl, rfl, hH, hB, hz, q⟩ := h
  cases rx
  cases ry
  obtain ⟨hl, its, n, r, e⟩ := I.ls hH
  obtain ⟨hl2, its2, n2, r2, e'⟩ := I.ls hB
  have e1 := r.length
  have e2 := r2.length
  refine PySem.P.add_list e e' ?_ (by rw [List.size_toArray, List.size_toArray]; omega)
  have ea : its.toArray ++ its2.toArray = (its ++ its2).toArray := by simp
  rw [ea]
  exact ⟨.ref _, _, I.lnew (t' := s.toks) (r.append r2) (by rw [List.length_append]; omega), rfl, q _ I.fresh⟩
theorem vals_rep {vs : List V} {its : List Value} (r : Vals vs its) : ∀ k : Nat, Vals (List.replicate k vs).flatten (List.replicate k its).flatten := r.rep
theorem op_repL : OpR X (binaryOp .Mult) (fun x y H Q => ∃ l k xs, x = .ref l ∧ y = .int k ∧ Ls X.K H l xs ∧ 0 ≤ k ∧ k ≤ 16000 ∧ xs.length ≤ 1000 ∧ ∀ p, H p = none → Q (.ref p) (upd H p (.lst (List.replicate k.toNat xs).flatten))) := by
  intro pins s σ H x y v u Q I rx ry h
  obtain ⟨l, k, xs, rfl, rfl, hH, h1, h2, hx, q⟩ := h
  cases rx
  obtain ⟨t, rfl⟩ := ry
  obtain ⟨hl, its, n, r, e⟩ := I.ls hH
  have el := r.length
  have hz : xs.length * k.toNat ≤ 1000 * 16000 := Nat.mul_le_mul hx (by omega)
  have big : 1000 * 16000 ≤ sizeLine := by decide
  have hsz : its.toArray.size * k.toNat ≤ sizeLine := by rw [List.size_toArray, ← el]; omega
  have c1 : ¬ its.toArray.size * k.toNat > (2 ^ 63 - 1) / 8 := by
    have : (sizeLine : Nat) ≤ (2 ^ 63 - 1) / 8 := by decide
    omega
  have c2 : ¬ (!Builtin.List.listFitsIndex k) = true := by
    rw [fitsIndex_both (by omega) (by omega)]
    exact Bool.false_ne_true
  have c3 : ¬ Builtin.List.listTooLong (its.toArray.size * k.toNat) = true := by
    rw [notLongL hsz]
    exact Bool.false_ne_true
  have f0 : ∀ m : Nat, List.foldl (fun a b => a ++ b) #[] (List.replicate m its.toArray) = (List.replicate m its).flatten.toArray := fun m => by
    have z := foldl_rep its m []
    rw [List.nil_append] at z
    exact z
  have f1 : List.foldl (fun a b => a ++ b) #[] (List.replicate (if its.toArray.isEmpty = true then 0 else k.toNat) its.toArray) = (List.replicate k.toNat its).flatten.toArray := by
    rw [f0]
    cases its with
    | nil => simp
    | cons _ _ => rw [if_neg (by simp)]
  refine wpAny_binaryOp_repeat_ref (T := "list") (U := "int") (by decide) ⟨_, e, rfl⟩ (fun s' => typeIs_int s' k t) noFill_list_mul F.fills_int_mul F.slot_int_rmul repeat_list F.slot_int_index.lookup (call_meets F.slot_int_rmul (typeIs_int s k t) F.entry_int_rmul (F.args_int_rmul_2 _ _) (int___rmul___int_list k t l its.toArray n) ⟨e, rfl, ⟨_, e, rfl⟩, call_meets F.slot_list_mul ⟨_, e, rfl⟩ F.entry_list_mul (F.args_list_mul_2 _ _) (AutoListH.list___mul___list_int_3 l its.toArray n k t c2 c1 c3) ⟨e, ?_⟩⟩)
  rw [f1]
  exact ⟨.ref _, _, I.lnew (t' := s.toks) (vals_rep r k.toNat) (by rw [len_rep, Nat.mul_comm]; omega), rfl, q _ I.fresh⟩
theorem HReps.rep {K : PySem.W.Frag} {S : Addr → Prop} {H : Hp} {vs : List V} {ds : List D} (m : HReps K S H vs ds) : ∀ k : Nat, HReps K S H (List.replicate k vs).flatten (List.replicate k ds).flatten
  | 0 => .nil
  | k + 1 => by
    rw [List.replicate_succ, List.replicate_succ, List.flatten_cons, List.flatten_cons]
    exact m.append (HReps.rep m k)
theorem opB_ok (op : BOp) : OpR X (binaryOp (bop op)) (rBin X.K ex op) := by
  intro pins s σ H x y v u Q I rx ry h
  obtain ⟨S, d, e, hx, hy, h⟩ := h
  have stuck : ∀ {P : Prop}, opB op d e = stk → P := fun z => by rw [z] at h; exact h.no.elim
  cases op with
  | add =>
    cases d with
    | int a =>
      cases e with
      | int b => cases hx.intR; cases hy.intR; exact op_add pins s σ H _ _ v u Q I rx ry ⟨a, b, rfl, rfl, h.ok _ _ (.refl _) (.int _)⟩
      | _ => exact stuck rfl
    | str a =>
      cases e with
      | str b =>
        cases hx.strR; cases hy.strR
        obtain ⟨g, h⟩ := PO'.grd h
        exact op_add_str pins s σ H _ _ v u Q I rx ry ⟨a, b, rfl, rfl, szOk_le g, h.ok _ _ (.refl _) (.str _)⟩
      | _ => exact stuck rfl
    | lst o a =>
      cases e with
      | lst o' b =>
        obtain ⟨p, xs, rfl, q1, m1⟩ := hx.lstL
        obtain ⟨p', ys, rfl, q2, m2⟩ := hy.lstL
        obtain ⟨g, h⟩ := PO'.grd h
        have g' := szOk_le g
        have l1 := m1.length
        have l2 := m2.length
        exact op_catL pins s σ H _ _ v u Q I rx ry ⟨p, p', xs, ys, rfl, rfl, q1, q2, by omega, fun z hz => h.ok _ _ (.upd hz) (newL hz (m1.append m2))⟩
      | _ => exact stuck rfl
    | _ => exact stuck rfl
  | sub =>
    cases d with
    | int a =>
      cases e with
      | int b => cases hx.intR; cases hy.intR; exact op_sub pins s σ H _ _ v u Q I rx ry ⟨a, b, rfl, rfl, h.ok _ _ (.refl _) (.int _)⟩
      | _ => exact stuck rfl
    | _ => exact stuck rfl
  | mul =>
    cases d with
    | int a =>
      cases e with
      | int b =>
        cases hx.intR; cases hy.intR
        obtain ⟨g, h⟩ := PO'.grd h
        rw [Bool.or_eq_true] at g
        exact op_mul pins s σ H _ _ v u Q I rx ry ⟨a, b, rfl, rfl, g.elim (fun z => .inl (of_decide_eq_true z)) (fun z => .inr (of_decide_eq_true z)), h.ok _ _ (.refl _) (.int _)⟩
      | _ => exact stuck rfl
    | lst o a =>
      cases e with
      | int b =>
        obtain ⟨p, xs, rfl, q1, m1⟩ := hx.lstL
        cases hy.intR
        obtain ⟨g, h⟩ := PO'.grd h
        have g' := of_decide_eq_true g
        have l1 := m1.length
        exact op_repL pins s σ H _ _ v u Q I rx ry ⟨p, b, xs, rfl, rfl, q1, g'.1, g'.2.1, by rw [l1]; exact g'.2.2, fun z hz => h.ok _ _ (.upd hz) (newL hz (m1.rep _))⟩
      | _ => exact stuck rfl
    | _ => exact stuck rfl
  | fdiv =>
    cases d with
    | int a =>
      cases e with
      | int b =>
        cases hx.intR; cases hy.intR
        obtain ⟨g, h⟩ := PO'.grd h
        exact op_fdiv pins s σ H _ _ v u Q I rx ry ⟨a, b, rfl, rfl, show 0 < b ∧ b < 1073741824 from of_decide_eq_true g, h.ok _ _ (.refl _) (.int _)⟩
      | _ => exact stuck rfl
    | _ => exact stuck rfl
  | mod =>
    cases d with
    | int a =>
      cases e with
      | int b =>
        cases hx.intR; cases hy.intR
        obtain ⟨g, h⟩ := PO'.grd h
        exact op_mod pins s σ H _ _ v u Q I rx ry ⟨a, b, rfl, rfl, of_decide_eq_true g, h.ok _ _ (.refl _) (.int _)⟩
      | _ => exact stuck rfl
    | _ => exact stuck rfl
theorem PO'.eqN {ex : Str → Prop} : ∀ {n : Nat} {d e : D} {k : Bool → Prop}, PO' ex (L2.eqN n d e) k → ∃ r, L2.eqN n d e = .ok r ∧ k r := by
  have no : ∀ (n : Nat) (d e : D) (c : Str), L2.eqN n d e ≠ .error (.exc c) := by
    intro n
    have seqs : ∀ (f : D → D → Res Bool), (∀ d e c, f d e ≠ .error (.exc c)) → ∀ (ds es : List D) (c : Str), eqsG f ds es ≠ .error (.exc c) := by
      intro f hf ds
      induction ds with
      | nil => intro es c h; cases es <;> cases h
      | cons a ds ih =>
        intro es c h
        cases es with
        | nil => cases h
        | cons b es =>
          have h' : L2.bnd (f a b) (fun x => L2.bnd (eqsG f ds es) fun y => .ok (x && y)) = .error (.exc c) := h
          cases q : f a b with
          | error z => rw [q] at h'; exact hf a b c (by rw [q]; exact h')
          | ok x =>
            rw [q] at h'
            have h2 : L2.bnd (eqsG f ds es) (fun y => .ok (x && y)) = .error (.exc c) := h'
            cases q2 : eqsG f ds es with
            | error z => rw [q2] at h2; exact ih es c (by rw [q2]; exact h2)
            | ok y => rw [q2] at h2; cases h2
    induction n with
    | zero => intro d e c h; cases h
    | succ n ih =>
      intro d e c h
      cases d <;> cases e <;> first | cases h | exact seqs _ ih _ _ _ h
  intro n d e k h
  cases q : L2.eqN n d e with
  | ok r => rw [q] at h; exact ⟨r, rfl, h⟩
  | error z =>
    rw [q] at h
    cases z with
    | stuck => exact h.no.elim
    | exc c => exact absurd q (no n d e c)
theorem opC_ok (hu : X.A.units + 42 < cLine) (op : COp) : OpR X (compareOp (cop op)) (rCmp X.K ex op) := by
  intro pins s σ H x y v u Q I rx ry h
  obtain ⟨S, d, e, hx, hy, h⟩ := h
  have stuck : ∀ {P : Prop}, opC op d e = stk → P := fun z => by rw [z] at h; exact h.no.elim
  have fin : ∀ {b : Bool}, Q (.bl b) H → EP X pins σ Q (.bool b) s := fun q => ⟨.bl _, H, I, rfl, q⟩
  cases op with
  | eq =>
    obtain ⟨r, h1, h2⟩ := PO'.eqN (show PO' ex (eqN 40 d e) _ from h)
    exact (eqN_ok I 40 X.A x y v u d e r hx hy rx ry h1 (by omega)).rc _ _ _ _ (fin h2)
  | ne =>
    obtain ⟨r, h1, h2⟩ := PO'.eqN (PO'.bnd (show PO' ex (bnd (eqN 40 d e) fun r => .ok !r) _ from h))
    exact (eqN_ok I 40 X.A x y v u d e r hx hy rx ry h1 (by omega)).ne _ _ _ _ (fin h2.ok)
  | isn =>
    cases e with
    | non =>
      cases hy.nonR; cases ry
      have ev : isNon d = (v == Value.none) := by
        cases hx with
        | non => cases rx; rfl
        | bl b => cases rx; rfl
        | int i => obtain ⟨t, rfl⟩ := rx; rfl
        | str z => obtain ⟨t, rfl⟩ := rx; rfl
        | tup _ _ => cases rx; rfl
        | lst _ _ _ => cases rx; rfl
        | lstK _ _ => cases rx; rfl
        | exc _ => cases rx; rfl
      have h' : Q (.bl (!isNon d)) H := by cases d <;> exact h
      rw [ev] at h'
      exact isnot_none_gen (fin h')
    | _ => cases d <;> exact stuck rfl
  | lt =>
    cases d with
    | int a =>
      cases e with
      | int b => cases hx.intR; cases hy.intR; obtain ⟨t, rfl⟩ := rx; obtain ⟨t', rfl⟩ := ry; exact lt_int (fin h.ok)
      | _ => exact stuck rfl
    | _ => exact stuck rfl
  | le =>
    cases d with
    | int a =>
      cases e with
      | int b => cases hx.intR; cases hy.intR; obtain ⟨t, rfl⟩ := rx; obtain ⟨t', rfl⟩ := ry; exact le_int (fin h.ok)
      | _ => exact stuck rfl
    | _ => exact stuck rfl
theorem truD_ok {pins : List (Addr × Obj)} {s : Shared} {σ : St} {H : Hp} {S : Addr → Prop} {x : V} {v : Value} {d : D} {Q : Bool → Hp → Prop} (I : Inv X pins σ H s) (rx : RelV x v) (hx : HRep X.K S H x d) (h : PO' ex (truD d) fun b => Q b H) :
    wpAny (model X.prog X.w) X.A (truthy v) (TP X pins σ Q) X.xe s := by
  refine tru_ok pins s σ H x v Q I rx ?_
  cases d with
  | bl b => cases hx.blR; exact ⟨b, rfl, h⟩
  | _ => exact h.no.elim
theorem atI_rep {K : PySem.W.Frag} {S : Addr → Prop} {H : Hp} {vs : List V} {ds : List D} {i : Int} {d : D} (m : HReps K S H vs ds) (h : atI ds i = some d) : ∃ v, atI vs i = some v ∧ HRep K S H v d := by
  unfold atI at h ⊢
  rw [m.length]
  cases q : ixN ds.length i with
  | none => rw [q] at h; cases h
  | some j => rw [q] at h; exact m.get h
noncomputable def rIdx (K : PySem.W.Frag) (ex : Str → Prop) : R2 := fun x y H Q => ∃ S d e, HRep K S H x d ∧ HRep K S H y e ∧ PO' ex (opIx d e) (Kk K S H Q)
theorem opIx_ok : IxR X (rIdx X.K ex) := by
  intro value slice pins s σ H x y v u Q I rx ry h hs
  obtain ⟨S, d, e, hx, hy, h⟩ := h
  refine ix_seq value slice pins s σ H x y v u Q I rx ry ?_ hs
  have stuck : ∀ {P : Prop}, opIx d e = stk → P := fun z => by rw [z] at h; exact h.no.elim
  cases e with
  | int i =>
    cases hy.intR
    cases d with
    | lst o ds =>
      obtain ⟨a, xs, rfl, q, m⟩ := hx.lstR
      have h' : PO' ex (match atI ds i with | some d => .ok d | none => stk) (Kk X.K S H Q) := h
      cases z : atI ds i with
      | none => rw [z] at h'; exact h'.no.elim
      | some d =>
        rw [z] at h'
        obtain ⟨w, ew, mw⟩ := atI_rep m z
        exact .inl ⟨a, xs, i, w, rfl, rfl, q, ew, h'.ok _ _ (.refl _) mw.nw⟩
    | tup ds =>
      obtain ⟨a, xs, rfl, q, m⟩ := hx.tupR
      have h' : PO' ex (match atI ds i with | some d => .ok d | none => stk) (Kk X.K S H Q) := h
      cases z : atI ds i with
      | none => rw [z] at h'; exact h'.no.elim
      | some d =>
        rw [z] at h'
        obtain ⟨w, ew, mw⟩ := atI_rep m z
        exact .inr (.inl ⟨a, xs, i, w, rfl, rfl, q, ew, h'.ok _ _ (.refl _) mw.nw⟩)
    | str z =>
      cases hx.strR
      obtain ⟨g, h⟩ := PO'.grd h
      cases q : atI z.cps.toList i with
      | none => rw [q] at h; exact h.no.elim
      | some c =>
        rw [q] at h
        exact .inr (.inr ⟨z, i, c, rfl, rfl, szOk_le g, q, h.ok _ _ (.refl _) (.str _)⟩)
    | _ => exact stuck rfl
  | _ => cases d <;> exact stuck rfl
noncomputable def rSli (K : PySem.W.Frag) (ex : Str → Prop) : V → Option Int → Option Int → Hp → VK → Prop := fun x lo hi H Q => ∃ S d, HRep K S H x d ∧ PO' ex (opSl d lo hi) (Kk K S H Q)
theorem sl_str : SlR X (fun x lo hi H Q => ∃ z, x = .str z ∧ z.length ≤ sizeLine ∧ Q (.str (Txt.slice z lo hi)) H) := by
  intro pins s σ H x v vl vu lo hi sl Q I rx hs pl pu h
  obtain ⟨z, rfl, hz, q⟩ := h
  obtain ⟨t, rfl⟩ := rx
  refine ⟨"str", _, F.slot_str_getitem.lookup, typeIs_str s z t, ?_⟩
  have fin : ∀ (l u : Option (Int × Tok)), vl = partValue l → vu = partValue u → l.map (·.1) = lo → u.map (·.1) = hi → wpAny (model X.prog X.w) X.A (getItem (.str z t) (.ref sl)) (EP X pins σ Q) X.xe s := by
    intro l u e1 e2 e3 e4
    subst e1 e2 e3 e4
    refine wpAny_getItem_str_slice (l := l) (u := u) (st := none) hs rfl ?_
    exact post_val_or_str ⟨Nat.le_trans (Txt.slice_le z _ _) hz, fun t' k => ⟨.str _, H, I.tok _, ⟨_, rfl⟩, q⟩⟩
  cases pl with
  | none =>
    cases pu with
    | none => exact fin none none rfl rfl rfl rfl
    | int j t' => exact fin none (some (j, t')) rfl rfl rfl rfl
  | int i t' =>
    cases pu with
    | none => exact fin (some (i, t')) none rfl rfl rfl rfl
    | int j t'' => exact fin (some (i, t')) (some (j, t'')) rfl rfl rfl rfl
end
end L2
namespace L2
open PySem PySem.Spec PyProof.Rows PySem.W
section
variable {prog : Program} {w : World} {A : Around} {E : Value → Shared → Prop} {K : Frag} {x C : Addr} {hh : Heap} {g : Array GenState} {d : Drawn} {t : Nat} {os : OsState}
structure ExcAt (K : Frag) (C : Addr) : Prop where
  ga : findIn K (.ref C) "__getattribute__" = some (some (.builtin "BaseException.__getattribute__"))
  no : findIn K (.ref C) "__getattr__" = some none
  cl : findIn K (.ref C) "__class__" = some (some (.builtin "object.__class__"))
  be : mroIn K C (.type "BaseException") = some true
  ob : mroIn K C (.type "object") = some true
  is : (clsIn K C).isSome = true
noncomputable def IX (h : Heap) (x C : Addr) : Prop := ∃ o, h.get? x = some o ∧ o.cls = .ref C
theorem IX.type {M : Model} {h : Heap} (I : IX h x C) : Looks M h (typeOf (.ref x)) (.ref C) := by
  obtain ⟨o, h1, h2⟩ := I
  exact h2 ▸ (Looks.ld h1).andThen .now
open Builtin Builtin.ObjectAttr Builtin.Getset_descriptor in
theorem exc_cget {R : Result → Shared → Prop} {tp : Value} (X : K.In hh) (I : IX hh x C) (hm : mroIn K C (.type "object") = some true) (hq : R (.ok (.ret (.ref C))) ⟨hh, g, d, t, os⟩) :
    codeAny (model prog w) A (.call (.builtin "getset_descriptor.__get__") ⟨[.builtin "object.__class__", .ref x, tp], []⟩) R ⟨hh, g, d, t, os⟩ := by
  have y0 := I.type (M := model prog w)
  have y1 := looks_mroIn (M := model prog w) X hm
  refine codeAny_call_builtin KF.slot_gs.plain KF.entry_gs (KF.slot_gs.check _ _ _ _ _ _ _ _ KF.type_class (KF.args_gs _ _ _) ?_); unfold Builtin.«getset_descriptor.__get__» descrGet; rw [dga_obj]
  refine wpAny_bind (wpAny_pure ?_); unfold descrGetter descrCheckInstance descrNameAndClass isInstance
  simp only [KF.owner_class]; repeat lk
  refine ⟨Code.quiet_builtin _ (by decide +kernel), codeAny_builtin KF.entry_class ?_⟩; unfold Builtin.«object.__class__» shownTypeOf
  repeat lk
  exact hq
theorem exc_entry (a : ExcAt K C) {tk : Tok} {Q : Fin → Shared → Prop} (X : K.In hh) (I : IX hh x C) (hq : Q (.done (.ret (.ref C))) ⟨hh, g, d, t, os⟩) :
    wpAny (model prog w) A (Builtin.«object.__getattribute__» ⟨[.ref x, .str "__class__" tk], []⟩) Q E ⟨hh, g, d, t, os⟩ := by
  have y0 := I.type (M := model prog w)
  have y1 := looks_findIn (M := model prog w) X a.cl
  have y5 := F.typeOf_object_class; have y6 := F.slot_gs_get.lookup; have y7 := F.slot_gs_set.lookup
  repeat (any_goals (first | assumption | with_reducible refine Looks.at (by assumption) ?_ | wp_step))
  refine exc_cget X I a.ob ?_
  repeat (any_goals (first | assumption | wp_step))
theorem exc_check (a : ExcAt K C) {M : Model} {nameV : Value} {Q : Unit → Shared → Prop} (X : K.In hh) (I : IX hh x C) (hq : Q () ⟨hh, g, d, t, os⟩) :
    wpAny M A (checkBuiltinCall "BaseException.__getattribute__" ⟨[.ref x, nameV], []⟩) Q E ⟨hh, g, d, t, os⟩ := by
  have e1 : builtinKind "BaseException.__getattribute__" = some .slot := by decide +kernel
  have e2 : splitId "BaseException.__getattribute__" = some ("BaseException", "__getattribute__") := by decide +kernel
  have y0 := I.type (M := M)
  have y1 := looks_mroIn (M := M) X a.be
  have ha := F.args_bexc_ga (.ref x) nameV
  simp only [checkBuiltinCall, e1, e2]
  refine wpAny_bind ?_
  unfold isInstance
  repeat (any_goals (first | assumption | with_reducible refine Looks.at (by assumption) ?_ | wp_step))
theorem exc_by (a : ExcAt K C) {tk : Tok} {fill : Bool} {Q : Value → Shared → Prop} (X : K.In hh) (I : IX hh x C) (hq : Q (.ref C) ⟨hh, g, d, t, os⟩) :
    wpAny (model prog w) A (getAttrBy (.ref x) (.str "__class__" tk) fill) Q E ⟨hh, g, d, t, os⟩ := by
  have y0 := I.type (M := model prog w)
  have y1 := looks_findIn (M := model prog w) X a.ga
  have y2 := looks_findIn (M := model prog w) X a.no
  have f3 := F.attr_ValueError.ga.bind (.ref x)
  have y4 : (onTheHeap (Value.ref C) && Value.builtin "BaseException.__getattribute__" == Value.builtin "object.__getattribute__") = false := by rw [show (Value.builtin "BaseException.__getattribute__" == Value.builtin "object.__getattribute__") = false by decide +kernel]; rfl
  repeat (any_goals (first | assumption | with_reducible refine Looks.at (by assumption) ?_ | wp_step))
  refine codeAny_call_builtin F.attr_ValueError.ga.plain F.entry_bexc_ga (exc_check a X I (exc_entry a X I ?_))
  repeat (any_goals (first | assumption | wp_step))
theorem exc_attr (a : ExcAt K C) {Q : Option Value → Shared → Prop} (X : K.In hh) (I : IX hh x C) (hq : Q (some (.ref C)) ⟨hh, g, d, t + 1, os⟩) :
    wpAny (model prog w) A (getAttr? (.ref x) "__class__") Q E ⟨hh, g, d, t, os⟩ := by
  unfold getAttr? getAttrBy?
  repeat (any_goals (first | assumption | with_reducible apply exc_by a X I | wp_step))
theorem kitx_exc (a : ExcAt K C) : KitX K (.ref x) (.ref C) (fun h => IX h x C) where
  ty := fun _ _ _ I => I.type
  it := fun _ _ X _ => by
    have z := a.is
    unfold clsIn at z
    split at z
    · rename_i ho
      intro A' Q' E' s' k q
      unfold isType loadHead
      exact wpAny_bind (wpAny_loadPart (k _ _ (X _ _ ho)) (wpAny_pure q))
    · cases z
  ne := fun h tp dd its n sl X htp => by
    have z := a.is
    refine Bool.eq_false_iff.mpr fun q => ?_
    have e : C = tp := Value.ref.inj (beq_iff_eq.mp q)
    subst e
    unfold clsIn at z
    split at z
    · rename_i ho
      cases (X _ _ ho).symm.trans htp
    · cases z
  ca := fun {_ _ _ _ _ s} X I k => by
    obtain ⟨hh, g, d, t, os⟩ := s
    exact exc_attr a X I k
end
end L2
namespace L2
open PySem PySem.Spec PyProof.Rows PySem.SeqAt
section
variable {X : Cx} {ex : Str → Prop}
theorem cut_rep {K : PySem.W.Frag} {S : Addr → Prop} {H : Hp} {vs : List V} {ds : List D} (lo hi : Option Int) (m : HReps K S H vs ds) : HReps K S H (cutV vs lo hi) (cutG ds lo hi) := by
  unfold cutV cutG
  rw [m.length]
  exact (m.drop _).take _
theorem opSl_ok : SlR X (rSli X.K ex) := by
  intro pins s σ H x v vl vu lo hi sl Q I rx hs pl pu h
  obtain ⟨S, d, hx, h⟩ := h
  cases d with
  | lst o ds =>
    obtain ⟨a, xs, rfl, q, m⟩ := hx.lstR
    exact sl_list pins s σ H _ v vl vu lo hi sl Q I rx hs pl pu ⟨a, xs, rfl, q, fun p hp => h.ok _ _ (.upd hp) (newL hp (cut_rep lo hi m))⟩
  | str z =>
    cases hx.strR
    obtain ⟨g, h⟩ := PO'.grd h
    exact sl_str pins s σ H _ v vl vu lo hi sl Q I rx hs pl pu ⟨z, rfl, szOk_le g, h.ok _ _ (.refl _) (.str _)⟩
  | _ => exact h.no.elim
theorem strsAre_ofV {ns : List Str} : ∀ {us : List Value}, Vals (ns.map V.str) us → StrsAre us ns := by
  induction ns with
  | nil => intro us r; rw [List.map_nil] at r; cases r; exact .nil
  | cons n ns ih =>
    intro us r
    rw [List.map_cons] at r
    cases r with
    | cons r1 r2 =>
      obtain ⟨t, e⟩ := r1
      subst e
      exact .cons n t (ih r2)
theorem asStrs_map {ds : List D} {ns : List Str} (h : asStrs ds = some ns) : ds = ns.map .str := by
  induction ds generalizing ns with
  | nil => cases h; rfl
  | cons d r ih =>
    cases d with
    | str i =>
      have h' : (asStrs r).map (i :: ·) = some ns := h
      cases q : asStrs r with
      | none => rw [q] at h'; cases h'
      | some ms =>
        rw [q] at h'
        cases h'
        rw [ih q]
        rfl
    | _ => cases h
theorem asInts_map {ds : List D} {ns : List Int} (h : asInts ds = some ns) : ds = ns.map .int := by
  induction ds generalizing ns with
  | nil => cases h; rfl
  | cons d r ih =>
    cases d with
    | int i =>
      have h' : (asInts r).map (i :: ·) = some ns := h
      cases q : asInts r with
      | none => rw [q] at h'; cases h'
      | some ms =>
        rw [q] at h'
        cases h'
        rw [ih q]
        rfl
    | _ => cases h
theorem call_sumL (hc : X.calm = true) : CallR X (.builtin "sum") (fun xs H Q => ∃ (p : Addr) (ns : List Int), xs = [.ref p] ∧ SqL X.K H p (ns.map V.int) ∧ Q (.int ns.sum) H) := by
  intro pins s σ H xs us Q I r h
  obtain ⟨p, ns, rfl, hq, q⟩ := h
  obtain ⟨u, rfl, rx⟩ := vals1 r
  cases rx
  obtain ⟨its, rv, pl, hz⟩ := I.list hq
  have hi := intsAre_of rv
  refine call_sum_walkG (wpAny_pyIter_list pl.isList ?_)
  have hlt : p < s.heap.objs.size := by
    obtain ⟨o, e, _⟩ := pl.isList
    exact Heap.lt_size e
  refine ⟨s.heap.objs.size, _, _, _, _, _, fun i => ns.getD i 0, rfl, Walks.list (A := X.A.in1) (show X.A.in1.handled = none from I.ok.hd hc) s.heap.objs.size p (Nat.ne_of_lt hlt) its.toArray, ⟨⟨_, Heap.get?_push_size _ rfl, rfl, rfl⟩, ?_⟩, ?_, ?_, ?_⟩
  · obtain ⟨o, e, c, n, d⟩ := pl.isList
    exact ⟨o, Heap.get?_push_of_some _ e, c, n, d⟩
  · intro b hb
    have : b = s.heap.objs.size ∨ b = p := by simpa using hb
    have hs : (s.heap.push { cls := .type "list_iterator", data := .fields #[.ref p, .int 0 0] }).objs.size = s.heap.objs.size + 1 := Heap.size_push ..
    show b < (s.heap.push _).objs.size
    rw [Heap.size_push]
    rcases this with rfl | rfl
    · exact Nat.lt_succ_self _
    · exact Nat.lt_succ_of_lt hlt
  · intro i v hv
    have hv' : its[i]? = some v := by simpa using hv
    have key : ∀ {us : List Value} {ns : List Int}, IntsAre us ns → ∀ i v, us[i]? = some v → ∃ t, v = Value.int (ns.getD i 0) t := by
      intro us ns hI
      induction hI with
      | nil => intro i v z; simp at z
      | cons n t _ ih =>
        intro i v z
        cases i with
        | zero => simp at z; exact ⟨t, by rw [← z]; simp⟩
        | succ j => simpa using ih j v (by simpa using z)
    exact key hi i v hv'
  · intro h' tk t' kp
    refine ⟨.int ns.sum, H, ?_, ⟨t', ?_⟩, q⟩
    · refine I.kept (t' := tk) fun b o e => kp b o ?_ (Heap.get?_push_of_some _ e)
      intro hm
      have hb : b = s.heap.objs.size := by simpa using hm
      subst hb
      exact absurd (Heap.lt_size e) (Nat.lt_irrefl _)
    · have hl := rv.length
      rw [List.length_map] at hl
      rw [preSum_getD, show its.toArray.size = ns.length by simp [hl], List.take_length]
noncomputable def biName : Bi → Str
  | .len => "len" | .list => "list" | .sum => "sum"
noncomputable def biTy : Bi → Bool
  | .list => true
  | _ => false
noncomputable def biId : Bi → String
  | .len => "len" | .list => "list" | .sum => "sum"
noncomputable def biVal (f : Bi) : Value := if biTy f = true then .type (biId f) else .builtin (biId f)
theorem bi_boot (f : Bi) : bootBuiltins (biName f) = some (biVal f) := by cases f <;> decide +kernel
noncomputable def rBi (K : PySem.W.Frag) (ex : Str → Prop) (f : Bi) : List V → Hp → VK → Prop := fun xs H Q => ∃ S ds, HReps K S H xs ds ∧ PO' ex (opBi f ds) (Kk K S H Q)
theorem HReps.one1 {K : PySem.W.Frag} {S : Addr → Prop} {H : Hp} {xs : List V} {d : D} (h : HReps K S H xs [d]) : ∃ x, xs = [x] ∧ HRep K S H x d := by
  cases h with
  | cons h1 h2 => cases h2; exact ⟨_, rfl, h1⟩
theorem opBi_ok (hc : X.calm = true) (f : Bi) : CallR X (biVal f) (rBi X.K ex f) := by
  intro pins s σ H xs us Q I r h
  obtain ⟨S, ds, hx, h⟩ := h
  have stuck : ∀ {P : Prop}, opBi f ds = stk → P := fun z => by rw [z] at h; exact h.no.elim
  cases ds with
  | nil => exact stuck (by cases f <;> rfl)
  | cons d ds =>
  cases ds with
  | cons e r' => exact stuck (by cases f <;> first | rfl | (cases d <;> rfl))
  | nil =>
    obtain ⟨x, rfl, hd⟩ := hx.one1
    cases f with
    | len =>
      cases d with
      | str z => cases hd.strR; obtain ⟨g, h⟩ := PO'.grd h; exact call_len pins s σ H _ us Q I r ⟨_, _, rfl, ⟨szOk_le g, rfl⟩, h.ok _ _ (.refl _) (.int _)⟩
      | lst o ds =>
        obtain ⟨a, ys, rfl, q, m⟩ := hd.lstR
        exact call_len pins s σ H _ us Q I r ⟨_, ds.length, rfl, .inl ⟨ys, q, m.length.symm⟩, h.ok _ _ (.refl _) (.int _)⟩
      | _ => exact stuck rfl
    | sum =>
      cases d with
      | lst o ds =>
        obtain ⟨a, ys, rfl, q, m⟩ := hd.lstR
        have h' : PO' ex (match asInts ds with | some ns => grd (decide (ns.length ≤ 1000000)) (.ok (.int ns.sum)) | none => stk) (Kk X.K S H Q) := h
        cases z : asInts ds with
        | none => rw [z] at h'; exact h'.no.elim
        | some ns =>
          rw [z] at h'
          obtain ⟨_, h'⟩ := PO'.grd h'
          rw [asInts_map z] at m
          rw [m.ints] at q
          exact call_sumL hc pins s σ H _ us Q I r ⟨a, ns, rfl, q, h'.ok _ _ (.refl _) (.int _)⟩
      | _ => exact stuck rfl
    | list =>
      cases d with
      | lst o ds =>
        obtain ⟨a, ys, rfl, q, m⟩ := hd.lstR
        exact call_list_of pins s σ H _ us Q I r ⟨a, ys, rfl, .inl q, fun p hp => h.ok _ _ (.upd hp) (newL hp m)⟩
      | _ => exact stuck rfl
noncomputable def kdName : Kd → Str
  | .tuple => "tuple"
noncomputable def kdTy : Kd → Value
  | .tuple => .type "tuple"
theorem kd_boot (k : Kd) : bootBuiltins (kdName k) = some (kdTy k) := by cases k <;> decide +kernel
noncomputable def dTy : D → Value
  | .non => .type "NoneType" | .bl _ => .type "bool" | .int _ => .type "int" | .str _ => .type "str" | .tup _ => .type "tuple" | .lst _ _ => .type "list" | .exc _ => .none
theorem kit_dTy (K : PySem.W.Frag) (k : Kd) (d : D) (hn : notX d = true) : PySem.W.kitOne K (dTy d) (kdTy k) = some (isiD k d) := by
  cases k <;> cases d <;> first | rfl | cases hn
theorem isiD_ok {pins : List (Addr × Obj)} {s : Shared} {σ : St} {H : Hp} {S : Addr → Prop} {x : V} {v : Value} {d : D} {Q : VK} (I : Inv X pins σ H s) (rx : RelV x v) (hx : HRep X.K S H x d) (k : Kd) (hn : notX d = true) (h : Q (.bl (isiD k d)) H) :
    wpAny (model X.prog X.w) X.A (call (.builtin "isinstance") [v, kdTy k]) (EP X pins σ Q) X.xe s := by
  have e := kit_dTy X.K k d hn
  have fin : ∀ tk, EP X pins σ Q (.bool (isiD k d)) { s with toks := tk } := fun tk => ⟨.bl _, H, I.tok _, rfl, h⟩
  cases d with
  | non => cases hx.nonR; cases rx; exact PySem.W.kia_one PySem.W.kitx_none I.kIn True.intro e (fun z => nomatch z) fin
  | bl b => cases hx.blR; cases rx; exact PySem.W.kia_one PySem.W.kitx_bool I.kIn True.intro e (fun z => nomatch z) fin
  | int b => cases hx.intR; obtain ⟨t, rfl⟩ := rx; exact PySem.W.kia_one PySem.W.kitx_int I.kIn True.intro e (fun z => nomatch z) fin
  | str b => cases hx.strR; obtain ⟨t, rfl⟩ := rx; exact PySem.W.kia_one PySem.W.kitx_str I.kIn True.intro e (fun z => nomatch z) fin
  | tup ds =>
    obtain ⟨a, ys, rfl, q, m⟩ := hx.tupR
    cases rx
    obtain ⟨its, _, ⟨o, h1, h2, _⟩, _⟩ := I.tuple q
    exact PySem.W.kia_one PySem.W.kitx_tuple I.kIn ⟨o, h1, h2⟩ e (fun z => nomatch z) fin
  | lst o ds =>
    obtain ⟨a, ys, rfl, q, m⟩ := hx.lstR
    cases rx
    obtain ⟨its, _, pl, _⟩ := I.list q
    obtain ⟨o, h1, h2, _⟩ := pl.isList
    exact PySem.W.kia_one PySem.W.kitx_list I.kIn ⟨o, h1, h2⟩ e (fun z => nomatch z) fin
  | exc c => cases hn
noncomputable def CV (X : Cx) (x : Str) (v : V) : Prop := (∃ C, v = .ref C ∧ X.mg x = some (.ref C)) ∨ (∃ T, v = .ty T ∧ X.mg x = none ∧ bootBuiltins x = some (.type T))
noncomputable def vv : V → Value
  | .ref C => .ref C
  | .ty T => .type T
  | _ => .none
theorem CV.rel {x : Str} {v : V} {u : Value} (h : CV X x v) (r : RelV v u) : u = vv v := by
  rcases h with ⟨C, rfl, _⟩ | ⟨T, rfl, _⟩ <;> exact r
theorem CV.refl {x : Str} {v : V} (h : CV X x v) : RelV v (vv v) := by
  rcases h with ⟨C, rfl, _⟩ | ⟨T, rfl, _⟩ <;> rfl
theorem CV.fn {x : Str} {v v' : V} (h : CV X x v) (h' : CV X x v') : v = v' := by
  rcases h with ⟨C, rfl, h1⟩ | ⟨T, rfl, h1, h2⟩ <;> rcases h' with ⟨C', rfl, k1⟩ | ⟨T', rfl, k1, k2⟩
  · rw [h1] at k1; cases k1; rfl
  · rw [h1] at k1; cases k1
  · rw [h1] at k1; cases k1
  · rw [h2] at k2; cases k2; rfl
theorem isx_one {pins : List (Addr × Obj)} {s : Shared} {σ : St} {H : Hp} {a C : Addr} {c : Str} {cv : Value} {b : Bool} {Q : VK} (I : Inv X pins σ H s) (h : SqE X.K H a (.inr c)) (hC : PySem.W.nsIn X.K mainGlobals c = some (some (.ref C))) (hA : ExcAt X.K C) (hk : PySem.W.kitOne X.K (.ref C) cv = some b) (q : Q (.bl b) H) :
    wpAny (model X.prog X.w) X.A (call (.builtin "isinstance") [.ref a, cv]) (EP X pins σ Q) X.xe s := by
  obtain ⟨C', o, vs, h1, _, h3, h4, _⟩ := I.exc_at h
  rw [hC] at h1
  cases h1
  exact PySem.W.kia_one (kitx_exc hA) I.kIn ⟨o, h3, h4⟩ hk (fun z => nomatch z) fun tk => ⟨.bl _, H, I.tok _, rfl, q⟩
theorem isx_two {pins : List (Addr × Obj)} {s : Shared} {σ : St} {H : Hp} {a p C : Addr} {c : Str} {v1 v2 : V} {b : Bool} {Q : VK} {x1 x2 : Str} (I : Inv X pins σ H s) (h : SqE X.K H a (.inr c)) (hC : PySem.W.nsIn X.K mainGlobals c = some (some (.ref C))) (hA : ExcAt X.K C) (c1 : CV X x1 v1) (c2 : CV X x2 v2) (hp : SqT X.K H p [v1, v2]) (hk : PySem.W.kitAny X.K (.ref C) [vv v1, vv v2] = some b) (q : Q (.bl b) H) :
    wpAny (model X.prog X.w) X.A (call (.builtin "isinstance") [.ref a, .ref p]) (EP X pins σ Q) X.xe s := by
  obtain ⟨C', o, vs, h1, _, h3, h4, _⟩ := I.exc_at h
  rw [hC] at h1
  cases h1
  obtain ⟨its, rv, ⟨ot, e1, e2, e3⟩, _⟩ := I.tuple hp
  obtain ⟨u1, u2, rfl, r1, r2⟩ := vals2 rv
  rw [← c1.rel r1, ← c2.rel r2] at hk
  obtain ⟨k1, k2, k3, k4⟩ := ot
  dsimp only at e2 e3
  subst e2
  obtain ⟨n, e3⟩ := e3
  subst e3
  exact PySem.W.kia_tup (kitx_exc hA) I.kIn ⟨o, h3, h4⟩ e1 hk (fun z => nomatch z) fun tk => ⟨.bl _, H, I.tok _, rfl, q⟩
noncomputable def mtName : Mt → Str
  | .join => "join"
noncomputable def mtId : Mt → String
  | .join => "str.join"
noncomputable def rMt (K : PySem.W.Frag) (ex : Str → Prop) (m : Mt) : V → List V → Hp → VK → Prop := fun x xs H Q => ∃ S d ds, HRep K S H x d ∧ HReps K S H xs ds ∧ PO' ex (opMt m d ds) (Kk K S H Q)
theorem opMt_str {m : Mt} {d : D} {ds : List D} {k : D → Prop} (h : PO' ex (opMt m d ds) k) : ∃ x, d = .str x := by
  cases m <;> cases d <;> first | exact ⟨_, rfl⟩ | exact h.no.elim
theorem opMt_ok (m : Mt) : MtR X (mtId m) (rMt X.K ex m) := by
  intro pins s σ H x xs v us Q I rx rs h
  obtain ⟨S, d, ds, hx, hs, h⟩ := h
  obtain ⟨z, rfl⟩ := opMt_str h
  cases hx.strR
  obtain ⟨t, rfl⟩ := rx
  have stuck : ∀ {P : Prop}, opMt m (.str z) ds = stk → P := fun z => by rw [z] at h; exact h.no.elim
  cases m
  cases ds with
  | nil => exact stuck rfl
  | cons d ds =>
  cases ds with
  | cons e r => exact stuck (by cases d <;> rfl)
  | nil =>
    obtain ⟨y, rfl, hd⟩ := hs.one1
    obtain ⟨u, rfl, ru⟩ := vals1 rs
    cases d with
    | lst o ds =>
      obtain ⟨a, ys, rfl, q, m⟩ := hd.lstR
      cases ru
      have h' : PO' ex (match asStrs ds with | some ys => grd (decide ((ys.map (·.length)).sum + ys.length * z.length ≤ 16777216)) (.ok (.str (Txt.join z ys))) | none => stk) (Kk X.K S H Q) := h
      cases w : asStrs ds with
      | none => rw [w] at h'; exact h'.no.elim
      | some ns =>
        rw [w] at h'
        obtain ⟨g, h'⟩ := PO'.grd h'
        rw [asStrs_map w] at m
        rw [m.strs] at q
        obtain ⟨its, rv, pl, _⟩ := I.list q
        exact join_list pl.isList (by simpa using strsAre_ofV rv) (of_decide_eq_true g) fun t' k => ⟨.str _, H, I.tok _, ⟨_, rfl⟩, h'.ok _ _ (.refl _) (.str _)⟩
    | _ => exact stuck rfl
end
end L2
namespace L2
open PySem PySem.Spec PyProof.Rows PySem.SeqAt
theorem ObjOk.at {P : Program} {w : World} {H : Hp} {h : Heap} {a : Addr} {o : HO} (x : ObjOk P w H h a o) : ∃ ob, h.get? a = some ob := by
  cases o with
  | lst xs => obtain ⟨_, _, _, _, e⟩ := x; exact ⟨_, e⟩
  | tup xs => obtain ⟨_, _, _, ob, e, _⟩ := x; exact ⟨_, e⟩
  | dK kvs => obtain ⟨_, _, _, _, o, _, _, e, _⟩ := x; exact ⟨_, e⟩
  | dT kvs => obtain ⟨_, _, _, _, o, _, _, e, _⟩ := x; exact ⟨_, e⟩
  | set S n => obtain ⟨o, _, _, _, e, _⟩ := x; exact ⟨_, e⟩
  | ins C dx fs => obtain ⟨_, _, _, e, _⟩ := x; exact ⟨_, e⟩
  | own y => exact x
  | xd fs => obtain ⟨_, ⟨_, _, _, e, _⟩, _⟩ := x; exact ⟨_, e⟩
  | rng lo hi => obtain ⟨_, _, _, e⟩ := x; exact ⟨_, e⟩
  | frz ob u => exact ⟨_, x.1⟩
  | tbl ps => exact ⟨_, x⟩
  | met f y => exact ⟨_, x⟩
  | ext φ => exact x.2.1
noncomputable def indep : HO → Bool
  | .lst _ => true
  | .tup _ => true
  | .ext _ => true
  | _ => false
theorem indep_ok {P : Program} {w : World} {H H' : Hp} {h : Heap} {a : Addr} {u : HO} (i : indep u = true) (x : ObjOk P w H h a u) : ObjOk P w H' h a u := by
  cases u with
  | lst _ => exact x
  | tup _ => exact x
  | ext _ => exact x
  | _ => cases i
noncomputable def hidC (h : Heap) (H : Hp) : Hp := fun b => match H b with
  | some (.lst xs) => (h.get? b).map fun o => .frz o (.lst xs)
  | some (.tup xs) => some (.tup xs)
  | some (.frz o u) => if indep u = true then some (.frz o u) else none
  | _ => none
noncomputable def resC (H H' : Hp) : Hp := fun b => match H b with
  | some o => some o
  | none => H' b
noncomputable def LTH (H : Hp) : Prop := ∀ b o, H b = some o → (∃ ob u, o = .frz ob u) ∨ ∃ xs, o = .tup xs
theorem hid_lt (h : Heap) (H : Hp) : LTH (hidC h H) := fun b o e => by
  unfold hidC at e
  split at e
  · obtain ⟨ob, _, rfl⟩ := Option.map_eq_some_iff.mp e
    exact .inl ⟨_, _, rfl⟩
  · cases e; exact .inr ⟨_, rfl⟩
  · split at e
    · cases e; exact .inl ⟨_, _, rfl⟩
    · cases e
  · cases e
structure Pers (h : Heap) (Hc H' : Hp) : Prop where
  frzs : ∀ b o u, Hc b = some (.frz o u) → H' b = some (.frz o u)
  tups : ∀ b xs, Hc b = some (.tup xs) → H' b = some (.tup xs)
  free : ∀ b o, h.get? b = some o → Hc b = none → H' b = none
inductive Bk (h : Heap) (H H' : Hp) (b : Addr) : HO → Prop where
  | lst {xs : List V} {ob : Obj} : h.get? b = some ob → H' b = some (.frz ob (.lst xs)) → Bk h H H' b (.lst xs)
  | tup {xs : List V} : H' b = some (.tup xs) → Bk h H H' b (.tup xs)
  | frz {o : Obj} {u : HO} : indep u = true → H' b = some (.frz o u) → Bk h H H' b (.frz o u)
  | oth {o : HO} {ob : Obj} : h.get? b = some ob → hidC h H b = none → H' b = none → (∀ xs, o ≠ .lst xs) → (∀ xs, o ≠ .tup xs) → Bk h H H' b o
section
variable {P : Program} {w : World} {H H' : Hp} {h g : Heap}
theorem bk_of (x : HOk P w H h) (p : Pers h (hidC h H) H') {b : Addr} {o : HO} (e : H b = some o) : Bk h H H' b o := by
  obtain ⟨ob, he⟩ := (x b o e).at
  have hc : hidC h H b = (match (some o : Option HO) with
    | some (.lst xs) => (h.get? b).map fun o => .frz o (.lst xs)
    | some (.tup xs) => some (.tup xs)
    | some (.frz o u) => if indep u = true then some (.frz o u) else none
    | _ => none) := by unfold hidC; rw [e]
  cases o with
  | lst xs =>
    have hc : hidC h H b = (h.get? b).map fun o => .frz o (.lst xs) := hc
    rw [he] at hc
    exact .lst he (p.frzs _ _ _ hc)
  | tup xs => exact .tup (p.tups _ _ hc)
  | frz o' u =>
    have hc : hidC h H b = if indep u = true then some (.frz o' u) else none := hc
    by_cases i : indep u = true
    · rw [if_pos i] at hc
      exact .frz i (p.frzs _ _ _ hc)
    · rw [if_neg i] at hc
      exact .oth he hc (p.free _ _ he hc) (fun _ z => by cases z) (fun _ z => by cases z)
  | _ => exact .oth he hc (p.free _ _ he hc) (fun _ z => by cases z) (fun _ z => by cases z)
theorem hid_ok (x : HOk P w H h) : HOk P w (hidC h H) h := fun b o e => by
  cases q : H b with
  | none => unfold hidC at e; rw [q] at e; cases e
  | some u =>
    have y := x b u q
    unfold hidC at e
    rw [q] at e
    cases u with
    | lst xs =>
      obtain ⟨ob, he⟩ := y.at
      have e : (h.get? b).map (fun o => HO.frz o (.lst xs)) = some o := e
      rw [he] at e
      cases e
      exact ⟨he, y⟩
    | tup xs => cases e; exact y
    | frz o' u =>
      have e : (if indep u = true then some (HO.frz o' u) else none) = some o := e
      by_cases i : indep u = true
      · rw [if_pos i] at e; cases e; exact ⟨y.1, indep_ok i y.2⟩
      · rw [if_neg i] at e; cases e
    | _ => cases e
theorem hid_none (e : H a = none) : hidC h H a = none := by unfold hidC; rw [e]
theorem res_some {b : Addr} {o : HO} (e : H b = some o) : resC H H' b = some o := by unfold resC; rw [e]
theorem res_none {b : Addr} (e : H b = none) : resC H H' b = H' b := by unfold resC; rw [e]
theorem res_same : Same H (resC H H') := fun b o e => res_some e
theorem res_ok (x : HOk P w H h) (y : HOk P w H' g) (p : Pers h (hidC h H) H') {fs : List Addr} (keep : ∀ b o, h.get? b = some o → hidC h H b = none → b ∉ fs → g.get? b = some o) (fr : ∀ b ∈ fs, H b = none) : HOk P w (resC H H') g := by
  have tp : ∀ c xs, H' c = some (.tup xs) → resC H H' c = some (.tup xs) := fun c xs e => by
    cases q : H c with
    | none => rw [res_none q]; exact e
    | some o =>
      rw [res_some q]
      cases bk_of x p q with
      | lst _ z => rw [z] at e; cases e
      | tup z => rw [z] at e; exact e
      | frz _ z => rw [z] at e; cases e
      | oth _ _ z _ _ => rw [z] at e; cases e
  intro b o e
  cases q : H b with
  | some o' =>
    rw [res_some q] at e
    cases e
    cases bk_of x p q with
    | lst h1 z =>
      have h2 := (y b _ z).1
      obtain ⟨a1, its, n, a2, a3⟩ := x b _ q
      rw [h1] at a3
      exact ⟨a1, its, n, a2, by rw [h2, ← a3]⟩
    | tup z => exact y b _ z
    | frz i z => exact ⟨(y b _ z).1, indep_ok i (y b _ z).2⟩
    | oth h1 h2 z n1 n2 =>
      refine (x b _ q).stay (fun c u hc hu => ?_) (fun c hc => res_some hc) fun c xs hc => res_some hc
      rcases hc with rfl | hc
      · exact keep _ _ hu h2 fun z => by rw [fr _ z] at q; cases q
      · refine keep _ _ hu ?_ fun z => by rw [fr _ z] at hc; cases hc
        unfold hidC
        rw [hc]
  | none =>
    rw [res_none q] at e
    refine (y b o e).stay (fun _ _ _ z => z) (fun c hc => ?_) tp
    cases q' : H c with
    | none => rw [res_none q']; exact hc
    | some o' =>
      exfalso
      cases bk_of x p q' with
      | lst _ z => rw [z] at hc; cases hc
      | tup z => rw [z] at hc; cases hc
      | frz _ z => rw [z] at hc; cases hc
      | oth _ _ z _ _ => rw [z] at hc; cases hc
theorem un_pers {fs : List Addr} (u : Un fs [] (hidC h H) H' h g) : Pers h (hidC h H) H' := ⟨u.frzs, u.tups, fun b o e n => u.free b o e n (by simp)⟩
theorem res_un {fs : List Addr} (x : HOk P w H h) (u : Un fs [] (hidC h H) H' h g) : Un fs [] H (resC H H') h g where
  keep := fun b o e n f i => u.keep b o e (hid_none n) f i
  slot := fun b o e n f i => u.slot b o e (hid_none n) f i
  free := fun b o e n i => by rw [res_none n]; exact u.free b o e (hid_none n) i
  there := u.there
  tups := fun b xs e => res_some e
  frzs := fun b o v e => res_some e
  tbls := fun b ps e => ⟨#[], by rw [res_some e]; simp⟩
end
end L2
namespace L2
open PySem PySem.Spec PyProof.Rows PySem.SeqAt
noncomputable def bnames : List Str := ["len", "sum", "min", "max", "sorted", "list", "tuple", "ord", "int", "all", "any", "str", "set", "abs", "isinstance", "range", "bool", "reversed"]
noncomputable def biNum : Bi → Nat
  | .len => 0 | .list => 5 | .sum => 1
noncomputable def kdNum : Kd → Nat
  | .tuple => 6
theorem bi_num (f : Bi) : bnames[biNum f]? = some (biName f) := by cases f <;> rfl
theorem kd_num (f : Kd) : bnames[kdNum f]? = some (kdName f) := by cases f <;> rfl
noncomputable def dbeq : D → D → Bool
  | .int a, .int b => a == b
  | .str a, .str b => a == b
  | _, _ => false
theorem dbeq_eq {a b : D} (h : dbeq a b = true) : a = b := by
  cases a with
  | int a =>
    cases b with
    | int b => rw [eq_of_beq (show (a == b) = true from h)]
    | _ => cases h
  | str a =>
    cases b with
    | str b => rw [eq_of_beq (show (a == b) = true from h)]
    | _ => cases h
  | _ => cases h
structure Sg where
  nm : List Str
  kst : List (Nat × D)
  fns : List Nat
  cls : List Nat := []
  xt : List (Str × Nat × Bool) := []
  pl : List Nat := []
  rc : List (Nat × Str) := []
  xm : List (Str × Nat) := []
noncomputable def Sg.name (Z : Sg) (n : Nat) : Option Str := (bnames ++ Z.nm)[n]?
noncomputable def Gm.glc (G : Gm) (n : Nat) : Bool := G.cm && G.gl.contains n
theorem glc_gl {G : Gm} {n : Nat} (h : G.glc n = true) : G.gl.contains n = true := by
  unfold Gm.glc at h; rw [Bool.and_eq_true] at h; exact h.2
theorem glc_cm {G : Gm} {n : Nat} (h : G.glc n = true) : G.cm = true := by
  unfold Gm.glc at h; rw [Bool.and_eq_true] at h; exact h.1
noncomputable def Sg.fnc (Z : Sg) (G : Gm) (f : Nat) : Bool := Z.fns.contains f && (G.cm || Z.pl.contains f)
theorem fnc_fn {Z : Sg} {G : Gm} {f : Nat} (h : Z.fnc G f = true) : f ∈ Z.fns ∧ (G.cm = true ∨ f ∈ Z.pl) := by
  unfold Sg.fnc at h
  rw [Bool.and_eq_true, Bool.or_eq_true] at h
  exact ⟨by simpa using h.1, h.2.elim .inl fun z => .inr (by simpa using z)⟩
noncomputable def notStar : Expr → Bool
  | .Starred .. => false
  | _ => true
noncomputable def notSlice : Expr → Bool
  | .Slice .. => false
  | _ => true
noncomputable def notCall0 : Expr → Bool
  | .Call _ [] [] _ => false
  | _ => true
noncomputable def chkV (G : Gm) (i : Nat) (x : Str) : Bool := G.N[i]? == some x && (G.kd[i]? == some .local || G.kd[i]? == some .cell || G.kd[i]? == some .free)
noncomputable def chkG (Z : Sg) (G : Gm) (n : Nat) (x : Str) : Bool := Z.name n == some x && G.gl.contains n
noncomputable def chkC : D → Const → Bool
  | .int i, .int j => i == j
  | .str x, .str y => x == y
  | .bl a, .bool b => a == b
  | .non, .none => true
  | _, _ => false
noncomputable def chkN (G : Gm) (i : Nat) (x : Str) : Bool := G.N[i]? == some x && (G.kd[i]? == some .local || (G.df && G.kd[i]? == some .cell))
noncomputable def tgs : Tg → List Nat
  | .nm i => [i]
  | .pr i j => [i, j]
noncomputable def chkScope (Z : Sg) (G : Gm) (scope : Scope) (G' : Gm) (fr : List Nat) : Bool :=
  (G.cm && scope.kind == .function) && !G'.df && G'.kd.length == G'.N.length
  && scope.names.all (fun y => y.2 != .cell) && scope.names.all (fun y => y.2 != .local || scope.names.lookup y.1 == some .local)
  && scope.names.all (fun y => y.2 != .free || (List.range G.N.length).any fun i => G.N[i]? == some y.1 && (G.kd[i]? == some .cell || G.kd[i]? == some .free))
  && (List.range fr.length).all (fun j => G'.N[j]? == (fr[j]?).bind (G.N[·]?) && ((G'.N[j]?).bind (scope.names.lookup ·) == some .free) && ((fr[j]?).bind (G.kd[·]?) == some .cell || (fr[j]?).bind (G.kd[·]?) == some .free)
      && (G'.kd[j]? == some (if ((fr[j]?).bind (G.kd[·]?) == some .cell) then .cell else .free)))
  && decide (fr.length ≤ G'.N.length)
  && ((List.range G'.N.length).drop fr.length).all (fun j => (G'.N[j]?).bind (scope.names.lookup ·) == some .local && G'.kd[j]? == some .local)
  && G'.N.all (fun x => !(x == "__debug__") && !(x == "__classdict__"))
  && decide (G'.N.Nodup)
  && G'.gl.all (fun n => match Z.name n with | some x => scope.names.lookup x == some .globalImplicit | none => false)
theorem no_h {P : Prop} (h : false = true) : P := by cases h
noncomputable def on1 {α : Type} (k : α → Bool) : List α → Bool
  | [] => false
  | a :: r => r.isEmpty && k a
theorem on1_ok {α : Type} {k : α → Bool} {l : List α} (h : on1 k l = true) : ∃ a, l = [a] ∧ k a = true := by
  cases l with
  | nil => exact no_h h
  | cons a r =>
    cases r with
    | nil => exact ⟨a, rfl, h⟩
    | cons _ _ => exact no_h h
noncomputable def on2 {α : Type} (k : α → α → Bool) : List α → Bool
  | [] => false
  | a :: r => on1 (k a) r
theorem on2_ok {α : Type} {k : α → α → Bool} {l : List α} (h : on2 k l = true) : ∃ a b, l = [a, b] ∧ k a b = true := by
  cases l with
  | nil => exact no_h h
  | cons a r =>
    obtain ⟨b, rfl, h⟩ := on1_ok (show on1 (k a) r = true from h)
    exact ⟨a, b, rfl, h⟩
noncomputable def onG (k : Expr → Expr → List Expr → Bool) (c : Comprehension) : Bool := c.is_async == 0 && k c.target c.iter c.ifs
noncomputable def gen1 (gens : List Comprehension) (k : Expr → Expr → List Expr → Bool) : Bool := on1 (onG k) gens
theorem gen1_ok {gens : List Comprehension} {k : Expr → Expr → List Expr → Bool} (h : gen1 gens k = true) : ∃ t it fs, gens = [⟨t, it, fs, 0⟩] ∧ k t it fs = true := by
  obtain ⟨⟨t, it, fs, n⟩, rfl, h⟩ := on1_ok h
  have h' : (n == 0 && k t it fs) = true := h
  rw [Bool.and_eq_true] at h'
  rw [eq_of_beq h'.1]
  exact ⟨t, it, fs, rfl, h'.2⟩
noncomputable def nmv (k : Str → Bool) : Expr → Bool
  | .Name z _ => k z
  | _ => false
theorem nmv_ok {k : Str → Bool} {e : Expr} (h : nmv k e = true) : ∃ z p, e = .Name z p ∧ k z = true := by
  cases e with
  | Name z p => exact ⟨z, p, rfl, h⟩
  | _ => exact no_h h
noncomputable def tpv (k : List Expr → Bool) : Expr → Bool
  | .Tuple es _ _ => k es
  | _ => false
theorem tpv_ok {k : List Expr → Bool} {e : Expr} (h : tpv k e = true) : ∃ es c p, e = .Tuple es c p ∧ k es = true := by
  cases e with
  | Tuple es c p => exact ⟨es, c, p, rfl, h⟩
  | _ => exact no_h h
noncomputable def ctv (k : Const → Bool) : Expr → Bool
  | .Constant c _ _ => k c
  | _ => false
theorem ctv_ok {k : Const → Bool} {e : Expr} (h : ctv k e = true) : ∃ c j p, e = .Constant c j p ∧ k c = true := by
  cases e with
  | Constant c j p => exact ⟨c, j, p, rfl, h⟩
  | _ => exact no_h h
noncomputable def bov (k : Expr → Operator → Expr → Bool) : Expr → Bool
  | .BinOp l o r _ => k l o r
  | _ => false
theorem bov_ok {k : Expr → Operator → Expr → Bool} {e : Expr} (h : bov k e = true) : ∃ l o r p, e = .BinOp l o r p ∧ k l o r = true := by
  cases e with
  | BinOp l o r p => exact ⟨l, o, r, p, rfl, h⟩
  | _ => exact no_h h
noncomputable def cpv (k : Expr → List CmpOp → List Expr → Bool) : Expr → Bool
  | .Compare l o r _ => k l o r
  | _ => false
theorem cpv_ok {k : Expr → List CmpOp → List Expr → Bool} {e : Expr} (h : cpv k e = true) : ∃ l o r p, e = .Compare l o r p ∧ k l o r = true := by
  cases e with
  | Compare l o r p => exact ⟨l, o, r, p, rfl, h⟩
  | _ => exact no_h h
noncomputable def isOr : BoolOp → Bool
  | .Or => true
  | _ => false
noncomputable def orv (k : List Expr → Pos → Bool) : Expr → Bool
  | .BoolOp o es p => isOr o && k es p
  | _ => false
theorem orv_ok {k : List Expr → Pos → Bool} {e : Expr} (h : orv k e = true) : ∃ es p, e = .BoolOp .Or es p ∧ k es p = true := by
  cases e with
  | BoolOp o es p =>
    cases o with
    | Or => exact ⟨es, p, rfl, h⟩
    | And => exact no_h h
  | _ => exact no_h h
noncomputable def anv (k : List Expr → Pos → Bool) : Expr → Bool
  | .BoolOp o es p => !isOr o && k es p
  | _ => false
theorem anv_ok {k : List Expr → Pos → Bool} {e : Expr} (h : anv k e = true) : ∃ es p, e = .BoolOp .And es p ∧ k es p = true := by
  cases e with
  | BoolOp o es p =>
    cases o with
    | And => exact ⟨es, p, rfl, h⟩
    | Or => exact no_h h
  | _ => exact no_h h
noncomputable def isNot : UnaryOp → Bool
  | .Not => true
  | _ => false
noncomputable def ntv (k : Expr → Bool) : Expr → Bool
  | .UnaryOp o e _ => isNot o && k e
  | _ => false
theorem ntv_ok {k : Expr → Bool} {e : Expr} (h : ntv k e = true) : ∃ l p, e = .UnaryOp .Not l p ∧ k l = true := by
  cases e with
  | UnaryOp o l p =>
    cases o with
    | Not => exact ⟨l, p, rfl, h⟩
    | _ => exact no_h h
  | _ => exact no_h h
noncomputable def lsv (k : List Expr → Bool) : Expr → Bool
  | .List es _ => k es
  | _ => false
theorem lsv_ok {k : List Expr → Bool} {e : Expr} (h : lsv k e = true) : ∃ es p, e = .List es p ∧ k es = true := by
  cases e with
  | List es p => exact ⟨es, p, rfl, h⟩
  | _ => exact no_h h
noncomputable def sbv (k : Expr → Expr → Bool) : Expr → Bool
  | .Subscript o s _ => k o s
  | _ => false
theorem sbv_ok {k : Expr → Expr → Bool} {e : Expr} (h : sbv k e = true) : ∃ o s p, e = .Subscript o s p ∧ k o s = true := by
  cases e with
  | Subscript o s p => exact ⟨o, s, p, rfl, h⟩
  | _ => exact no_h h
noncomputable def slv (k : Option Expr → Option Expr → Bool) : Expr → Bool
  | .Slice l u st _ => st.isNone && k l u
  | _ => false
theorem slv_ok {k : Option Expr → Option Expr → Bool} {e : Expr} (h : slv k e = true) : ∃ l u p, e = .Slice l u none p ∧ k l u = true := by
  cases e with
  | Slice l u st p =>
    cases st with
    | none => exact ⟨l, u, p, rfl, h⟩
    | some _ => exact no_h h
  | _ => exact no_h h
noncomputable def clv (k : Expr → List Expr → Pos → Bool) : Expr → Bool
  | .Call f args kws p => kws.isEmpty && k f args p
  | _ => false
theorem clv_ok {k : Expr → List Expr → Pos → Bool} {e : Expr} (h : clv k e = true) : ∃ f args p, e = .Call f args [] p ∧ k f args p = true := by
  cases e with
  | Call f args kws p =>
    cases kws with
    | nil => exact ⟨f, args, p, rfl, h⟩
    | cons _ _ => exact no_h h
  | _ => exact no_h h
noncomputable def cnv (k : Str → List Expr → Bool) (e : Expr) : Bool := clv (fun f args _ => nmv (fun x => k x args) f) e
theorem cnv_ok {k : Str → List Expr → Bool} {e : Expr} (h : cnv k e = true) : ∃ x q args p, e = .Call (.Name x q) args [] p ∧ k x args = true := by
  obtain ⟨f, args, p, rfl, h⟩ := clv_ok h
  obtain ⟨x, q, rfl, h⟩ := nmv_ok h
  exact ⟨x, q, args, p, rfl, h⟩
noncomputable def atv (k : Expr → Str → Pos → Bool) : Expr → Bool
  | .Attribute o n p => k o n p
  | _ => false
theorem atv_ok {k : Expr → Str → Pos → Bool} {e : Expr} (h : atv k e = true) : ∃ o n p, e = .Attribute o n p ∧ k o n p = true := by
  cases e with
  | Attribute o n p => exact ⟨o, n, p, rfl, h⟩
  | _ => exact no_h h
noncomputable def lcv (k : Expr → List Comprehension → Scope → Bool) : Expr → Bool
  | .ListComp e g s _ => k e g s
  | _ => false
theorem lcv_ok {k : Expr → List Comprehension → Scope → Bool} {e : Expr} (h : lcv k e = true) : ∃ el g s p, e = .ListComp el g s p ∧ k el g s = true := by
  cases e with
  | ListComp el g s p => exact ⟨el, g, s, p, rfl, h⟩
  | _ => exact no_h h
noncomputable def chkT (G : Gm) : Tg → Expr → Bool
  | .nm i, e => nmv (fun x => chkN G i x) e
  | .pr i j, e => G.cm && tpv (on2 fun a b => nmv (fun x => chkN G i x) a && nmv (fun x => chkN G j x) b) e
noncomputable def rest1 (k : Expr → Bool) (b : BoolOp) (p : Pos) : List Expr → Bool
  | [] => false
  | e :: r => if r.isEmpty then k e else k (.BoolOp b (e :: r) p)
noncomputable def chkCl (Z : Sg) (G : Gm) : List Nat → Expr → Bool
  | [n], e => nmv (fun z => chkG Z G n z && Z.cls.contains n) e
  | [n, m], e => tpv (on2 fun a b => nmv (fun z => chkG Z G n z && Z.cls.contains n) a && nmv (fun y => chkG Z G m y && Z.cls.contains m) b) e
  | _, _ => false
noncomputable def tbOk (Z : Sg) : List Nat → Str × Bool → Bool
  | [n], p => Z.xt.contains (p.1, n, p.2)
  | [n, m], p => Z.xt.contains (p.1, n, false) && Z.xt.contains (p.1, m, p.2)
  | _, _ => false
mutual
noncomputable def chk (Z : Sg) (G : Gm) : IR → Expr → Bool
  | .c d, e => ctv (fun k => chkC d k) e
  | .g n d, e => nmv (fun x => chkG Z G n x && Z.kst.any fun p => p.1 == n && dbeq p.2 d) e
  | .v i, e => nmv (fun x => chkV G i x) e
  | .bin op a b, e => bov (fun l o r => o == bop op && chk Z G a l && chk Z G b r) e
  | .cmp op a b, e => cpv (fun l os rs => on1 (fun o => on1 (fun r => o == cop op && chk Z G a l && chk Z G b r && !behindInMarks o r) rs) os) e
  | .chain op op' a b c, e => cpv (fun l os rs => on2 (fun o o' => on2 (fun m r => o == cop op && o' == cop op' && chk Z G a l && chk Z G b m && chk Z G c r && !lastMarks [o, o'] [m, r]) rs) os) e
  | .or_ a b, e => orv (fun es p => match es with
    | [] => false
    | l :: rs => chk Z G a l && rest1 (fun r => chk Z G b r) .Or p rs) e
  | .and_ a b, e => anv (fun es p => match es with
    | [] => false
    | l :: rs => chk Z G a l && rest1 (fun r => chk Z G b r) .And p rs) e
  | .lset a, e => cnv (fun x args => on1 (fun e' => cnv (fun y as => on1 (fun l => x == "len" && y == "set" && G.glc 0 && G.glc 12 && notStar l && chk Z G a l) as) e') args) e
  | .not_ a, e => ntv (fun l => chk Z G a l) e
  | .tup es, e => tpv (fun l => chks Z G es l) e
  | .lst es, e => lsv (fun l => chks Z G es l) e
  | .sl a lo hi, e => sbv (fun o s => slv (fun l h => chk Z G a o && chkO Z G lo l && chkO Z G hi h) s) e
  | .idx a i, e => sbv (fun o s => notSlice s && chk Z G a o && chk Z G i s) e
  | .call f es, e => cnv (fun x args => chkG Z G f x && Z.fnc G f && chks Z G es args) e
  | .bi f es, e => cnv (fun x args => x == biName f && G.glc (biNum f) && chks Z G es args && !args.isEmpty) e
  | .isi a k, e => cnv (fun x args => on2 (fun o y => x == "isinstance" && G.gl.contains 14 && nmv (fun y => y == kdName k) y && G.gl.contains (kdNum k) && notStar o && chk Z G a o) args) e
  | .isx a ns tb, e => cnv (fun x args => on2 (fun o y => x == "isinstance" && G.gl.contains 14 && notStar o && chkCl Z G ns y && tb.all (tbOk Z ns) && chk Z G a o) args) e
  | .mth m o es, e => clv (fun f args cpos => atv (fun oe name apos => name == mtName m && notCall0 oe && apos.endLine == cpos.line && decide (args.length < 29) && !args.isEmpty && chk Z G o oe && chks Z G es args) f) e
  | .comp G' fr tg src ifs elt, e => lcv (fun el gens scope => gen1 gens fun t it fs => chkScope Z G scope G' fr && chkT G' tg t && (tgs tg).all (fun i => decide (fr.length ≤ i)) && chkSr Z G src it && chks Z G' ifs fs && chk Z G' elt el) e
noncomputable def chks (Z : Sg) (G : Gm) : List IR → List Expr → Bool
  | [], l => l.isEmpty
  | a :: es, l => match l with
    | [] => false
    | e :: l => notStar e && chk Z G a e && chks Z G es l
noncomputable def chkO (Z : Sg) (G : Gm) : Option IR → Option Expr → Bool
  | none, o => o.isNone
  | some a, o => match o with
    | none => false
    | some e => chk Z G a e
noncomputable def chkSr (Z : Sg) (G : Gm) : Sr → Expr → Bool
  | .rng1 n, e => cnv (fun x args => on1 (fun a => x == "range" && G.gl.contains 15 && notStar a && chk Z G n a) args) e
  | .rng2 a b, e => cnv (fun x args => on2 (fun l r => x == "range" && G.gl.contains 15 && notStar l && notStar r && chk Z G a l && chk Z G b r) args) e
  | .val a, e => chk Z G a e
end
noncomputable def bmV : List Value := [.type "ValueError", .type "Exception", .type "BaseException", .type "object"]
noncomputable def FOk (F : Addr → Prop) (H : Hp) : Prop := ∀ a, F a → H a ≠ none
structure Out (K : PySem.W.Frag) (F : Addr → Prop) (H : Hp) (F' : Addr → Prop) (H' : Hp) (v : V) (d : D) (fv : List Addr) : Prop where
  fok : FOk F' H'
  same : Same H H'
  rep : MRep K F' H' v d fv
  nod : fv.Nodup
  new : ∀ a ∈ fv, H a = none
  inn : ∀ a, F a → F' a
  out : ∀ a, F' a → F a ∨ H a = none
noncomputable def spF (K : PySem.W.Frag) (cl : Nat → List D → Res D) (xp : XK → Hp → Str → Prop) (f : Nat) (ps : List Str) : Sp := fun vs H Q E => vs.length = ps.length ∧ LTH H ∧ ∃ F ds, FOk F H ∧ HReps K F H vs ds ∧
  PO' (xp E H) (cl f (ers ds)) fun d => ∀ v H' F' fv, Out K F H F' H' v d fv → Q v H'
structure FnC (P : Program) (w : World) (K : PySem.W.Frag) (mg : Str → Option Value) (base : Heap) (CX : CXT) (A : Around) (cl : Nat → List D → Res D) (xp : XK → Hp → Str → Prop) (f : Nat) (x : Str) : Prop where
  ex : ∃ (k : Nat) (fa : Addr) (fd : FuncData) (ps : List Str), mg x = some (.ref fa) ∧ PySem.W.keepIn K (.ref fa) = true ∧ Binds K fd ps [] ∧ FnOk P w K mg base CX k fa fd ps (spF K cl xp f ps) ∧ Room k A ∧
    ∀ (ex : Str → Prop) ds (k : D → Prop), PO' ex (cl f ds) k → ds.length = ps.length
structure GOk (Z : Sg) (CX : CXT) (cl : Nat → List D → Res D) (xp : XK → Hp → Str → Prop) (X : Cx) (ex : Str → Prop) (G : Gm) : Prop where
  N : X.N = G.N
  nod : G.N.Nodup
  calm : G.cm = true → X.calm = true
  fk : X.env.scope.kind = .function
  un : X.A.units + 42 < cLine
  own : G.rs = true → PassesOwn (model X.prog X.w) X.A X.env X.xe
  kd : ∀ (i : Nat) (x : Str), G.N[i]? = some x → X.env.kindOf x = G.kd[i]?
  noD : ∀ (i : Nat) (x : Str), G.N[i]? = some x → (x == ("__debug__" : Str)) = false ∧ (x == ("__classdict__" : Str)) = false
  gl : ∀ n ∈ G.gl, ∀ x, Z.name n = some x → Gl X x
  nam : ∀ n x, Z.name n = some x → x ≠ "__name__" ∧ (x == ("__debug__" : Str)) = false
  df : G.df = true → ∀ x, X.fn x = true
  blt : ∀ (n : Nat) (x : Str), bnames[n]? = some x → X.mg x = none
  cst : ∀ n d x, (n, d) ∈ Z.kst → Z.name n = some x → ∃ u v, X.mg x = some u ∧ RelV v u ∧ ∀ S H, HRep X.K S H v d
  fns : ∀ f ∈ Z.fns, (G.cm = true ∨ f ∈ Z.pl) → ∀ x, Z.name f = some x → FnC X.prog X.w X.K X.mg X.base CX X.A cl xp f x
  xcv : ∀ n ∈ Z.cls, ∀ x, Z.name n = some x → ∃ v, CV X x v
  xcl : ∀ c n b x, (c, n, b) ∈ Z.xt → Z.name n = some x → ∃ C, PySem.W.nsIn X.K mainGlobals c = some (some (.ref C)) ∧ ExcAt X.K C ∧ ∀ v, CV X x v → PySem.W.kitOne X.K (.ref C) (vv v) = some b
  xmt : ∀ c n x, (c, n) ∈ Z.xm → Z.name n = some x → ∃ C C', PySem.W.nsIn X.K mainGlobals c = some (some (.ref C)) ∧ PySem.W.nsIn X.K mainGlobals x = some (some (.ref C')) ∧ nameIn X.K C = some c ∧ X.mg x = some (.ref C') ∧ PySem.W.exmOne X.K (.ref C) (.ref C') = some true
  xrs : ∀ n c, (n, c) ∈ Z.rc → Z.name n = some c ∧ ∃ C, X.mg c = some (.ref C) ∧ PySem.W.nsIn X.K mainGlobals c = some (some (.ref C)) ∧ PySem.W.excIn X.K C bmV "ValueError.__new__" = true
  rse : G.rs = true → ∀ (pins : List (Addr × Obj)) (σ : St) (H : Hp) (s : Shared) (c : Str) (C : Addr) (h' : Heap) (e : Addr) (vs : List Value), Inv X pins σ H s → ex c → PySem.W.nsIn X.K mainGlobals c = some (some (.ref C)) → Heap.MadeExcOf s.heap h' e (.ref C) vs → X.xe (.ref e) { s with heap := h' }
  exs : ∃ E : XK, Passes CX X E ∧ ∀ c H, ex c → xp E H c
  hid : ∀ (outer : List Env) (H : Hp) (s : Shared) (E : XK) (e : Value) (s' : Shared), HOk X.prog X.w H s.heap → (∀ b ∈ frs outer, H b = none) → CX outer (hidC s.heap H) s E e s' → CX outer H s E e s'
  exn : ∀ (H : Hp) (outer : List Env) (s : Shared) (e : Value) (s' : Shared), ¬ CX outer H s (fun _ _ _ => False) e s'
end L2
namespace L2
open PySem PySem.Spec PyProof.Rows PySem.SeqAt
section
variable {P : Program} {w : World} {H H' : Hp} {h : Heap} {K : PySem.W.Frag} {Fc F' : Addr → Prop}
theorem hid_rep {vs : List V} {ds : List D} (x : HOk P w H h) (m : HReps K Fc H vs ds) : HReps K (fun a => Fc a ∧ hidC h H a ≠ none) (hidC h H) vs ds := by
  refine (m.step (S' := Fc) (H' := hidC h H) (fun a xs f r => ⟨f, ?_⟩) fun a xs r => ?_).tight
  · rcases r with r | ⟨o, r⟩
    · obtain ⟨ob, he⟩ := (x a _ r).at
      refine .inr ⟨ob, ?_⟩
      unfold hidC
      rw [r]
      show (h.get? a).map _ = _
      rw [he]
      rfl
    · refine .inr ⟨o, ?_⟩
      unfold hidC
      rw [r]
      rfl
  · cases xs with
    | inl xs =>
      rcases r with (r | ⟨o, r⟩) | r
      · refine .inl (.inl ?_)
        unfold hidC
        rw [r]
      · refine .inl (.inr ⟨o, ?_⟩)
        unfold hidC
        rw [r]
        rfl
      · exact .inr r
    | inr c =>
      obtain ⟨C, o, vs, h0, h1, h2, h3⟩ := r
      refine ⟨C, o, vs, h0, h1, ?_, h3⟩
      unfold hidC
      rw [h2]
      rfl
theorem hid_free (x : HOk P w H h) (p : Pers h (hidC h H) H') {a : Addr} (n : hidC h H a = none) (e : H' a ≠ none) : H a = none := by
  cases q : H a with
  | none => rfl
  | some o =>
    obtain ⟨ob, he⟩ := (x a o q).at
    exact absurd (p.free a ob he n) e
theorem out_hid {v : V} {d : D} {fv : List Addr} (x : HOk P w H h) (fok : FOk Fc H) (p : Pers h (hidC h H) H') (o : Out K (fun a => Fc a ∧ hidC h H a ≠ none) (hidC h H) F' H' v d fv) : Out K Fc H (fun a => Fc a ∨ F' a) (resC H H') v d fv := by
  have new : ∀ a ∈ fv, H a = none := fun a ha => hid_free x p (o.new a ha) (by obtain ⟨_, xs, e⟩ := o.rep.own a ha; rw [e]; simp)
  refine ⟨fun a ha => ?_, res_same, o.rep.step (fun a xs f r => ⟨.inr f, ?_⟩) (fun a xs r => ?_) fun a ha nf hn => ⟨fun z => ?_, res_none (new a ha)⟩, o.nod, new, fun a ha => .inl ha, fun a ha => ?_⟩
  · cases q : H a with
    | some u => rw [res_some q]; simp
    | none =>
      rw [res_none q]
      rcases ha with ha | ha
      · exact absurd q (fok a ha)
      · exact o.fok a ha
  · cases q : H a with
    | none => unfold Rd; rw [res_none q]; exact r
    | some u =>
      unfold Rd
      rw [res_some q]
      cases bk_of x p q with
      | lst _ z =>
        rcases r with r | ⟨o', r⟩
        · rw [z] at r; cases r
        · rw [z] at r; cases r; exact .inl rfl
      | tup z => rcases r with r | ⟨o', r⟩ <;> (rw [z] at r; cases r)
      | frz _ z =>
        rcases r with r | ⟨o', r⟩
        · rw [z] at r; cases r
        · rw [z] at r; cases r; exact .inr ⟨_, rfl⟩
      | oth _ _ z _ _ => exact absurd z r.some
  · cases xs with
    | inl xs =>
      rcases r with r | r
      · refine .inl ?_
        cases q : H a with
        | none => unfold Rd; rw [res_none q]; exact r
        | some u =>
          unfold Rd
          rw [res_some q]
          cases bk_of x p q with
          | lst _ z => rcases r with r | ⟨o', r⟩ <;> (rw [z] at r; cases r)
          | tup z =>
            rcases r with r | ⟨o', r⟩
            · rw [z] at r; cases r; exact .inl rfl
            · rw [z] at r; cases r
          | frz _ z =>
            rcases r with r | ⟨o', r⟩
            · rw [z] at r; cases r
            · rw [z] at r; cases r; exact .inr ⟨_, rfl⟩
          | oth _ _ z _ _ => exact absurd z r.some
      · exact .inr r
    | inr c =>
      obtain ⟨C, ob, vs, h0, h1, h2, h3⟩ := r
      refine ⟨C, ob, vs, h0, h1, ?_, h3⟩
      cases q : H a with
      | none => rw [res_none q]; exact h2
      | some u =>
        rw [res_some q]
        cases bk_of x p q with
        | lst _ z => rw [z] at h2; cases h2
        | tup z => rw [z] at h2; cases h2
        | frz _ z => rw [z] at h2; cases h2; rfl
        | oth _ _ z _ _ => rw [z] at h2; cases h2
  · rcases z with z | z
    · exact fok a z (new a ha)
    · exact nf z
  · rcases ha with ha | ha
    · exact .inl ha
    · rcases o.out a ha with z | z
      · exact .inl z.1
      · exact .inr (hid_free x p z (o.fok a ha))
end
section
variable {X : Cx} {CX : CXT} {cl : Nat → List D → Res D} {xp : XK → Hp → Str → Prop}
theorem Inv.env0h {pins : List (Addr × Obj)} {σ : St} {H : Hp} {s : Shared} (I : Inv X pins σ H s) : Env0 X.prog X.w X.K X.mg X.base X.A X.stack s (hidC s.heap H) :=
  ⟨I.env0.frames, I.env0.mod, fun b o e => ⟨(I.env0.bs b o e).1, hid_none (I.env0.bs b o e).2⟩, I.env0.bsz, I.env0.funs, fun b hb => hid_none (I.env0.frf b hb), hid_ok I.hok, I.env0.bare⟩
theorem run_hid {k : Nat} {f : Nat} {fa : Addr} {fd : FuncData} {ps : List Str} {E : XK} {pins : List (Addr × Obj)} {σ : St} {H : Hp} {s : Shared} {Q : VK} {us : List Value} {vs : List V} {ds : List D} {Fc : Addr → Prop}
    (F : FnOk X.prog X.w X.K X.mg X.base CX k fa fd ps (spF X.K cl xp f ps)) (hr : Room k X.A) (hb : Binds X.K fd ps []) (hx : Passes CX X E)
    (hh : ∀ (outer : List Env) (H : Hp) (s : Shared) (E : XK) (e : Value) (s' : Shared), HOk X.prog X.w H s.heap → (∀ b ∈ frs outer, H b = none) → CX outer (hidC s.heap H) s E e s' → CX outer H s E e s')
    (I : Inv X pins σ H s) (r : Vals vs us) (hl : vs.length = ps.length) (fok : FOk Fc H) (m : HReps X.K Fc H vs ds)
    (q : PO' (xp E (hidC s.heap H)) (cl f (ers ds)) fun d => ∀ v H' F' fv, Out X.K Fc H F' H' v d fv → Q v H') : wpAny (model X.prog X.w) X.A (call (.ref fa) us) (EP X pins σ Q) X.xe s := by
  have hsp : spF X.K cl xp f ps vs (hidC s.heap H) (fun v H' => Pers s.heap (hidC s.heap H) H' → Q v (resC H H')) E :=
    ⟨hl, hid_lt _ _, _, ds, fun a h => h.2, hid_rep I.hok m, q.mono fun d hd v H' F' fv o p => hd v _ _ fv (out_hid I.hok fok p o)⟩
  have hl2 : (us ++ ([] : List Value)).length = ps.length := by rw [List.append_nil, ← r.length]; exact hl
  have bd := hb s us I.kIn hl2
  rw [List.append_nil] at bd
  refine wpAny_call (codeAny_mono (F.run X.A X.stack s (hidC s.heap H) ⟨us, []⟩ us vs _ E hr I.env0h bd r hsp) fun r' s' hq => ?_)
  cases r' with
  | error e => exact hx pins σ H s e s' I (hh X.stack H s E e s' I.hok I.env0.frf hq)
  | ok fl =>
    cases fl with
    | ret u =>
      obtain ⟨v, H', a1, a2, a3, a4, a5, a6⟩ := hq
      exact I.after (Q := Q) ⟨v, resC H H', a1, a2, res_un I.hok a3, res_ok I.hok a4 (un_pers a3) (fs := frs X.stack) (fun b o e n f => a3.keep b o e n f (by simp)) I.env0.frf, a5, a6 (un_pers a3)⟩
    | next => exact False.elim hq
    | brk => exact False.elim hq
    | cont => exact False.elim hq
end
end L2
namespace L2
open PySem PySem.Spec PyProof.Rows PySem.SeqAt
noncomputable def Slots (K : PySem.W.Frag) (S : Addr → Prop) (H : Hp) (σ : St) (τ : Ev) (is : List Nat) : Prop := ∀ i ∈ is, ∀ d, slotD τ i = some d → ∃ v, σ[i]? = some (some v) ∧ HRep K S H v d
theorem Slots.sub {K : PySem.W.Frag} {S : Addr → Prop} {H : Hp} {σ : St} {τ : Ev} {is js : List Nat} (h : Slots K S H σ τ is) (s : ∀ i ∈ js, i ∈ is) : Slots K S H σ τ js := fun i hi d e => h i (s i hi) d e
theorem Slots.left {K : PySem.W.Frag} {S : Addr → Prop} {H : Hp} {σ : St} {τ : Ev} {is js : List Nat} (h : Slots K S H σ τ (is ++ js)) : Slots K S H σ τ is := h.sub fun _ hi => List.mem_append_left _ hi
theorem Slots.right {K : PySem.W.Frag} {S : Addr → Prop} {H : Hp} {σ : St} {τ : Ev} {is js : List Nat} (h : Slots K S H σ τ (is ++ js)) : Slots K S H σ τ js := h.sub fun _ hi => List.mem_append_right _ hi
theorem Slots.go {K : PySem.W.Frag} {S : Addr → Prop} {H H' : Hp} {σ : St} {τ : Ev} {is : List Nat} (h : Slots K S H σ τ is) (e : Same H H') : Slots K (nw S H) H' σ τ is := fun i hi d z => by
  obtain ⟨v, h1, h2⟩ := h i hi d z
  exact ⟨v, h1, h2.mono (fun _ => .inl) e⟩
noncomputable def RD (K : PySem.W.Frag) (ex : Str → Prop) (is : List Nat) (f : Ev → Res D) : TE := fun σ H Q => ∃ S τ, Slots K S H σ τ is ∧ PO' ex (f τ) (Kk K S H Q)
noncomputable def RT (K : PySem.W.Frag) (ex : Str → Prop) (is : List Nat) (f : Ev → Res Bool) : TT := fun σ H Q => ∃ S τ, Slots K S H σ τ is ∧ PO' ex (f τ) fun b => ∀ H', Same H H' → Q b H'
noncomputable def RA (K : PySem.W.Frag) (ex : Str → Prop) (is : List Nat) (f : Ev → Res (List D)) : TA := fun σ H Q => ∃ S τ, Slots K S H σ τ is ∧ PO' ex (f τ) fun ds => ∀ vs H', Same H H' → HReps K (nw S H) H' vs ds → Q vs H'
noncomputable def ROp (K : PySem.W.Frag) (ex : Str → Prop) (is : List Nat) (f : Ev → Res (Option Int)) : TO := fun σ H Q => ∃ S τ, Slots K S H σ τ is ∧ PO' ex (f τ) fun o => ∀ H', Same H H' → Q o H'
inductive Wlk (K : PySem.W.Frag) (S : Addr → Prop) (H : Hp) : It → List D → Prop where
  | lst {a : Addr} {xs : List V} {ds : List D} : S a → Rd H a (.lst xs) → HReps K S H xs ds → Wlk K S H (Itl K a) ds
  | lstK {a : Addr} {xs : List V} {ds : List D} : KL K a xs → HReps K S H xs ds → Wlk K S H (Itl K a) ds
  | rng (lo hi : Int) : Wlk K S H (Itr lo (hi - lo).toNat) (rngD lo hi)
noncomputable def RI (K : PySem.W.Frag) (ex : Str → Prop) (is : List Nat) (f : Ev → Res (List D)) : TI := fun σ H R => ∃ S τ, Slots K S H σ τ is ∧ PO' ex (f τ) fun ds => ∀ J H', Same H H' → Wlk K (nw S H) H' J ds → R J H'
theorem nw_nw {S : Addr → Prop} {H H1 : Hp} (e : Same H H1) : ∀ a, nw (nw S H) H1 a → nw S H a := fun a h => by
  rcases h with h | h
  · exact h
  · exact .inr (e.free h)
section
variable {Z : Sg} {CX : CXT} {cl : Nat → List D → Res D} {xp : XK → Hp → Str → Prop} {X : Cx} {ex : Str → Prop} {G : Gm}
theorem Kk.fit {K : PySem.W.Frag} {S : Addr → Prop} {H H1 : Hp} {Q : VK} {d : D} (e : Same H H1) (h : Kk K S H Q d) : Kk K (nw S H) H1 Q d := fun w H' e' m => h w H' (e.trans e') (m.mono (nw_nw e) (.refl _))
theorem gl_of (g : GOk Z CX cl xp X ex G) {n : Nat} {x : Str} (h : chkG Z G n x = true) : Gl X x ∧ Z.name n = some x ∧ x ≠ "__name__" ∧ (x == ("__debug__" : Str)) = false := by
  unfold chkG at h
  rw [Bool.and_eq_true] at h
  have e : Z.name n = some x := eq_of_beq h.1
  exact ⟨g.gl n (by simpa using h.2) x e, e, g.nam n x e⟩
theorem bname (Z : Sg) {n : Nat} {x : Str} (h : bnames[n]? = some x) : Z.name n = some x := by
  unfold Sg.name
  rw [List.getElem?_append_left (List.getElem?_eq_some_iff.mp h).1]
  exact h
theorem gb_of (g : GOk Z CX cl xp X ex G) {n : Nat} {x : Str} (h : bnames[n]? = some x) (hc : G.gl.contains n = true) : Gl X x ∧ X.mg x = none ∧ x ≠ "__name__" ∧ (x == ("__debug__" : Str)) = false :=
  ⟨g.gl n (by simpa using hc) x (bname Z h), g.blt n x h, g.nam n x (bname Z h)⟩
theorem star_cons {e : Expr} (h : notStar e = true) (es : List Expr) (env : Env) : starEach (e :: es) env = (false, eval e env) :: starEach es env := by
  cases e <;> first | rfl | cases h
theorem star_none (Z : Sg) (G : Gm) {es : List IR} {l : List Expr} (p : Pos) (env : Env) (h : chks Z G es l = true) : (backTo p (starEach l env)).any (·.1) = false := by
  induction es generalizing l with
  | nil =>
    cases l with
    | nil => rfl
    | cons _ _ => exact no_h h
  | cons a es ih =>
    cases l with
    | nil => exact no_h h
    | cons e l =>
      have h' : (notStar e && chk Z G a e && chks Z G es l) = true := h
      simp only [Bool.and_eq_true] at h'
      rw [star_cons h'.1.1]
      show (false || (backTo p (starEach l env)).any (·.1)) = false
      rw [ih h'.2]
      rfl
theorem rd_c {d : D} {v : V} (h : ∀ S H, HRep X.K S H v d) {σ : St} {H : Hp} {Q : VK} {is : List Nat} (q : RD X.K ex is (fun _ => .ok d) σ H Q) : Q v H := by
  obtain ⟨S, τ, _, q⟩ := q
  exact q.ok _ _ (.refl _) (h _ _)
theorem pt_of {e : Expr} {is : List Nat} {f : Ev → Res D} (h : PE X e (RD X.K ex is f)) (he : ∀ whole, isTrue e X.env whole = (do let v ← whole; standAt e.pos; holding [v] (truthy v))) : PT X e (RT X.K ex is fun τ => bnd (f τ) truD) := by
  intro pins s σ H Q I hw
  obtain ⟨S, τ, hs, hw⟩ := hw
  refine isTrue_plain (thn (h pins s σ H (fun v H' => ∃ d, Same H H' ∧ HRep X.K (nw S H) H' v d ∧ PO' ex (truD d) fun b => ∀ H', Same H H' → Q b H') I ⟨S, τ, hs, (PO'.bnd hw).mono fun d hd v H' e m => ⟨d, e, m, hd⟩⟩) fun v s1 ⟨x, H1, I1, r1, d, e, m, hd⟩ => ?_) (he _)
  exact truD_ok I1 r1 m (hd.mono fun b z => z H1 e)
end
end L2
namespace L2
open PySem PySem.Spec PyProof.Rows PySem.SeqAt
section
variable {Z : Sg} {CX : CXT} {cl : Nat → List D → Res D} {xp : XK → Hp → Str → Prop} {X : Cx} {ex : Str → Prop} {G : Gm} {K : PySem.W.Frag} {S : Addr → Prop} {H H1 : Hp} {σ : St} {τ : Ev}
theorem rdAt {is : List Nat} {f : Ev → Res D} {Kt : D → Prop} {Q : VK} (e : Same H H1) (hs : Slots K S H σ τ is) (h : PO' ex (f τ) Kt) (k : ∀ x v H2, Same H H2 → Same H1 H2 → HRep K (nw S H) H2 v x → Kt x → Q v H2) : RD K ex is f σ H1 Q :=
  ⟨nw S H, τ, hs.go e, h.mono fun x hx v H2 e2 m => k x v H2 (e.trans e2) e2 (m.mono (nw_nw e) (.refl _)) hx⟩
theorem rtAt {is : List Nat} {f : Ev → Res Bool} {Kt : Bool → Prop} {Q : Bool → Hp → Prop} (e : Same H H1) (hs : Slots K S H σ τ is) (h : PO' ex (f τ) Kt) (k : ∀ x H2, Same H H2 → Same H1 H2 → Kt x → Q x H2) : RT K ex is f σ H1 Q :=
  ⟨nw S H, τ, hs.go e, h.mono fun x hx H2 e2 => k x H2 (e.trans e2) e2 hx⟩
theorem raAt {is : List Nat} {f : Ev → Res (List D)} {Kt : List D → Prop} {Q : List V → Hp → Prop} (e : Same H H1) (hs : Slots K S H σ τ is) (h : PO' ex (f τ) Kt) (k : ∀ x v H2, Same H H2 → Same H1 H2 → HReps K (nw S H) H2 v x → Kt x → Q v H2) : RA K ex is f σ H1 Q :=
  ⟨nw S H, τ, hs.go e, h.mono fun x hx v H2 e2 m => k x v H2 (e.trans e2) e2 (m.mono (nw_nw e) (.refl _)) hx⟩
theorem roAt {is : List Nat} {f : Ev → Res (Option Int)} {Kt : Option Int → Prop} {Q : Option Int → Hp → Prop} (e : Same H H1) (hs : Slots K S H σ τ is) (h : PO' ex (f τ) Kt) (k : ∀ x H2, Same H H2 → Same H1 H2 → Kt x → Q x H2) : ROp K ex is f σ H1 Q :=
  ⟨nw S H, τ, hs.go e, h.mono fun x hx H2 e2 => k x H2 (e.trans e2) e2 hx⟩
theorem HRep.later {v : V} {d : D} {H2 : Hp} (h : HRep K (L2.nw S H) H1 v d) (e : Same H1 H2) : HRep K (L2.nw S H) H2 v d := h.mono (fun _ z => z) e
theorem HReps.later {v : List V} {d : List D} {H2 : Hp} (h : HReps K (L2.nw S H) H1 v d) (e : Same H1 H2) : HReps K (L2.nw S H) H2 v d := h.mono (fun _ z => z) e
theorem Kk.at {Q : VK} {d : D} {v : V} (h : Kk K S H Q d) (e : Same H H1) (m : HRep K (nw S H) H1 v d) : Q v H1 := h v H1 e m
theorem s_v (g : GOk Z CX cl xp X ex G) {i : Nat} {x : Str} {pos : Pos} (h : chkV G i x = true) : PE X (.Name x pos) (RD X.K ex [i] (evR cl (.v i))) := by
  unfold chkV at h
  rw [Bool.and_eq_true] at h
  have hx : G.N[i]? = some x := eq_of_beq h.1
  have hk := g.kd i x hx
  have hv : Vis X.env.scope x := by
    have h2 := h.2
    rw [Bool.or_eq_true, Bool.or_eq_true] at h2
    rcases h2 with (h2 | h2) | h2
    · exact .inl (hk.trans (eq_of_beq h2))
    · exact .inr (.inl (hk.trans (eq_of_beq h2)))
    · exact .inr (.inr (hk.trans (eq_of_beq h2)))
  refine peMono (pe_var (i := i) (by rw [g.N]; exact hx) hv (g.noD i x hx).1 (g.noD i x hx).2) fun σ H Q q => ?_
  obtain ⟨S, τ, hs, q⟩ := q
  rw [evR_v] at q
  cases z : slotD τ i with
  | none => rw [z] at q; exact q.no.elim
  | some d =>
    rw [z] at q
    obtain ⟨v, h1, h2⟩ := hs i (by simp) d z
    exact ⟨v, h1, q.ok _ _ (.refl _) h2.nw⟩
theorem s_c {d : D} {k : Const} {j : Nat} {pos : Pos} (h : chkC d k = true) : PE X (.Constant k j pos) (RD X.K ex [] (evR cl (.c d))) := by
  cases d with
  | non =>
    cases k with
    | none => exact peMono pe_non fun σ H Q q => rd_c (fun _ _ => .non) q
    | _ => cases h
  | bl b =>
    cases k with
    | bool b' =>
      have e : b = b' := eq_of_beq h
      subst e
      exact peMono pe_bl fun σ H Q q => rd_c (fun _ _ => .bl _) q
    | _ => cases h
  | int b =>
    cases k with
    | int b' =>
      have e : b = b' := eq_of_beq h
      subst e
      exact peMono pe_int fun σ H Q q => rd_c (fun _ _ => .int _) q
    | _ => cases h
  | str b =>
    cases k with
    | str b' =>
      have e : b = b' := eq_of_beq h
      subst e
      exact peMono pe_str fun σ H Q q => rd_c (fun _ _ => .str _) q
    | _ => cases h
  | tup _ => cases k <;> cases h
  | lst _ _ => cases k <;> cases h
  | exc _ => cases k <;> cases h
theorem s_g (g : GOk Z CX cl xp X ex G) {n : Nat} {d : D} {x : Str} {pos : Pos} (h : chkG Z G n x = true) (hk : Z.kst.any (fun p => p.1 == n && dbeq p.2 d) = true) : PE X (.Name x pos) (RD X.K ex [] (evR cl (.g n d))) := by
  obtain ⟨h1, h2, h3, h4⟩ := gl_of g h
  rw [List.any_eq_true] at hk
  obtain ⟨⟨m, d'⟩, hm, hk⟩ := hk
  rw [Bool.and_eq_true] at hk
  have e1 : m = n := eq_of_beq hk.1
  have e2 : d' = d := dbeq_eq hk.2
  subst e1 e2
  obtain ⟨u, v, hu, r, hr⟩ := g.cst m d' x hm h2
  exact peMono (pe_glob h1 hu r h4) fun σ H Q q => rd_c hr q
theorem s_bin {op : BOp} {a b : Expr} {pos : Pos} {va vb : List Nat} {fa fb : Ev → Res D} (ha : PE X a (RD X.K ex va fa)) (hb : PE X b (RD X.K ex vb fb)) :
    PE X (.BinOp a (bop op) b pos) (RD X.K ex (va ++ vb) fun τ => bnd (fa τ) fun x => bnd (fb τ) fun y => opB op x y) := by
  refine peMono (pe_op (opB_ok (ex := ex) op) ha hb) fun σ H Q ⟨S, τ, hs, q⟩ => ?_
  refine rdAt (.refl _) hs.left (PO'.bnd q) fun x v H1 e1 _ m1 q1 => ?_
  refine rdAt e1 hs.right (PO'.bnd q1) fun y w H2 e2 e2' m2 q2 => ?_
  exact ⟨nw S H, x, y, m1.later e2', m2, q2.mono fun d hd => hd.fit e2⟩
theorem s_cmp (g : GOk Z CX cl xp X ex G) {op : COp} {a b : Expr} {pos : Pos} {va vb : List Nat} {fa fb : Ev → Res D} (ha : PE X a (RD X.K ex va fa)) (hb : PE X b (RD X.K ex vb fb)) (hm : behindInMarks (cop op) b = false) :
    PE X (.Compare a [cop op] [b] pos) (RD X.K ex (va ++ vb) fun τ => bnd (fa τ) fun x => bnd (fb τ) fun y => bnd (opC op x y) fun r => .ok (.bl r)) ∧
    PT X (.Compare a [cop op] [b] pos) (RT X.K ex (va ++ vb) fun τ => bnd (bnd (fa τ) fun x => bnd (fb τ) fun y => bnd (opC op x y) fun r => .ok (.bl r)) truD) := by
  refine ⟨peMono (pe_cmpR (opC_ok (ex := ex) g.un op) ha hb hm) fun σ H Q ⟨S, τ, hs, q⟩ => ?_, ptMono (pt_cmpR (opC_ok (ex := ex) g.un op) ha hb hm) fun σ H Q ⟨S, τ, hs, q⟩ => ?_⟩
  · refine rdAt (.refl _) hs.left (PO'.bnd q) fun x v H1 e1 _ m1 q1 => ?_
    refine rdAt e1 hs.right (PO'.bnd q1) fun y w H2 e2 e2' m2 q2 => ?_
    exact ⟨nw S H, x, y, m1.later e2', m2, (PO'.bnd q2).mono fun d hd => hd.ok _ _ e2 (.bl _)⟩
  · refine rdAt (.refl _) hs.left (PO'.bnd (PO'.bnd q)) fun x v H1 e1 _ m1 q1 => ?_
    refine rdAt e1 hs.right (PO'.bnd q1) fun y w H2 e2 e2' m2 q2 => ?_
    exact ⟨nw S H, x, y, m1.later e2', m2, (PO'.bnd q2).mono fun d hd => ⟨d, rfl, hd.ok.ok H2 e2⟩⟩
theorem s_chain (g : GOk Z CX cl xp X ex G) {op op' : COp} {a b c : Expr} {pos : Pos} {va vb vc : List Nat} {fa fb fc : Ev → Res D} (ha : PE X a (RD X.K ex va fa)) (hb : PE X b (RD X.K ex vb fb)) (hc : PE X c (RD X.K ex vc fc))
    (hm : lastMarks [cop op, cop op'] [b, c] = false) :
    PE X (.Compare a [cop op, cop op'] [b, c] pos) (RD X.K ex (va ++ vb ++ vc) fun τ => bnd (fa τ) fun x => bnd (fb τ) fun y => bnd (opC op x y) fun r => if r = true then bnd (fc τ) fun z => bnd (opC op' y z) fun r' => .ok (.bl r') else .ok (.bl false)) ∧
    PT X (.Compare a [cop op, cop op'] [b, c] pos) (RT X.K ex (va ++ vb ++ vc) fun τ => bnd (bnd (fa τ) fun x => bnd (fb τ) fun y => bnd (opC op x y) fun r => if r = true then bnd (fc τ) fun z => bnd (opC op' y z) fun r' => .ok (.bl r') else .ok (.bl false)) truD) := by
  refine ⟨peMono (pe_chain (opC_ok (ex := ex) g.un op) (opC_ok (ex := ex) g.un op') ha hb hc hm) fun σ H Q ⟨S, τ, hs, q⟩ => ?_, ptMono (pt_chain (opC_ok (ex := ex) g.un op) (opC_ok (ex := ex) g.un op') ha hb hc hm) fun σ H Q ⟨S, τ, hs, q⟩ => ?_⟩
  · refine rdAt (.refl _) hs.left.left (PO'.bnd q) fun x v H1 e1 _ m1 q1 => ?_
    refine rdAt e1 hs.left.right (PO'.bnd q1) fun y w H2 e2 e2' m2 q2 => ?_
    refine ⟨nw S H, x, y, m1.later e2', m2, (PO'.bnd q2).mono fun d hd => ⟨d, rfl, ?_⟩⟩
    cases d with
    | false => rw [if_neg Bool.false_ne_true] at hd ⊢; exact hd.ok _ _ e2 (.bl _)
    | true =>
      rw [if_pos rfl] at hd ⊢
      refine rdAt e2 hs.right (PO'.bnd hd) fun z w' H3 e3 e3' m3 q3 => ?_
      exact ⟨nw S H, y, z, m2.later e3', m3, (PO'.bnd q3).mono fun d hd => hd.ok _ _ e3 (.bl _)⟩
  · refine rdAt (.refl _) hs.left.left (PO'.bnd (PO'.bnd q)) fun x v H1 e1 _ m1 q1 => ?_
    refine rdAt e1 hs.left.right (PO'.bnd q1) fun y w H2 e2 e2' m2 q2 => ?_
    refine ⟨nw S H, x, y, m1.later e2', m2, (PO'.bnd q2).mono fun d hd => ⟨d, rfl, ?_⟩⟩
    cases d with
    | false => rw [if_neg Bool.false_ne_true] at hd ⊢; exact ⟨false, rfl, hd.ok.ok _ e2⟩
    | true =>
      rw [if_pos rfl] at hd ⊢
      refine rdAt e2 hs.right (PO'.bnd hd) fun z w' H3 e3 e3' m3 q3 => ?_
      exact ⟨nw S H, y, z, m2.later e3', m3, (PO'.bnd q3).mono fun d hd => ⟨d, rfl, hd.ok.ok _ e3⟩⟩
theorem s_and {a b : Expr} {rest : List Expr} {pos : Pos} {va vb : List Nat} {fa fb : Ev → Res D} (ha : PE X a (RD X.K ex va fa)) (hb : PE X (.BoolOp .And (b :: rest) pos) (RD X.K ex vb fb)) :
    PE X (.BoolOp .And (a :: b :: rest) pos) (RD X.K ex (va ++ vb) fun τ => bnd (fa τ) fun x => bnd (truD x) fun r => if r = true then fb τ else .ok x) := by
  intro pins s σ H Q I h
  obtain ⟨S, τ, hs, q⟩ := h
  refine BoolOp_and (thn (ha pins s σ H (fun v H' => ∃ d, Same H H' ∧ HRep X.K (nw S H) H' v d ∧ _) I (rdAt (.refl _) hs.left (PO'.bnd q) fun x v H1 e1 _ m1 q1 => ⟨x, e1, m1, q1⟩)) fun v s1 ⟨x, H1, I1, r1, d, e1, m1, q1⟩ => ?_)
  refine thn (truD_ok (Q := fun b H' => H' = H1 ∧ PO' ex (if b = true then fb τ else .ok d) (Kk X.K S H Q)) I1 r1 m1 ((PO'.bnd q1).mono fun b z => ⟨rfl, z⟩)) fun c s2 ⟨H2, I2, e2, q2⟩ => ?_
  subst e2
  cases c with
  | true =>
    rw [if_pos rfl] at q2 ⊢
    exact hb pins s2 σ _ Q I2 (rdAt e1 hs.right q2 fun y w H3 e3 _ m3 q3 => q3 _ _ e3 m3)
  | false =>
    rw [if_neg Bool.false_ne_true] at q2 ⊢
    exact ⟨x, _, I2, r1, q2.ok _ _ e1 m1⟩
theorem t_and {a b : Expr} {rest : List Expr} {pos : Pos} {va vb : List Nat} {fa fb : Ev → Res D} (ha : PT X a (RT X.K ex va fun τ => bnd (fa τ) truD)) (hb : PW X (.BoolOp .And (b :: rest) pos) (RT X.K ex vb fun τ => bnd (fb τ) truD)) :
    PT X (.BoolOp .And (a :: b :: rest) pos) (RT X.K ex (va ++ vb) fun τ => bnd (bnd (fa τ) fun x => bnd (truD x) fun r => if r = true then fb τ else .ok x) truD) := by
  refine ptMono (pw_and ha hb).pt fun σ H Q ⟨S, τ, hs, q⟩ => ?_
  refine rtAt (.refl _) hs.left (Kt := fun r => PO' ex (if r = true then bnd (fb τ) truD else .ok false) fun b => ∀ H', Same H H' → Q b H') (PO'.mk ((PO'.bnd (PO'.bnd q)).mono fun x hx => (PO'.bnd hx).eq.mono fun r hr => ?_)) fun r H2 e2 _ k => ?_
  · obtain ⟨er, hr⟩ := hr
    cases r with
    | true => rw [if_pos rfl] at hr ⊢; exact PO'.mk hr
    | false =>
      rw [if_neg Bool.false_ne_true] at hr ⊢
      have hr' : PO' ex (truD x) _ := hr
      rw [er] at hr'
      exact hr'
  · cases r with
    | true => rw [if_pos rfl] at k ⊢; exact rtAt e2 hs.right k fun b H3 e3 _ z => z H3 e3
    | false => rw [if_neg Bool.false_ne_true] at k ⊢; exact k.ok H2 e2
theorem s_lset (g : GOk Z CX cl xp X ex G) {e : Expr} {p p' pos pos' : Pos} {va : List Nat} {fa : Ev → Res D} (h1 : G.glc 0 = true) (h2 : G.glc 12 = true) (hn : notStar e = true) (ha : PE X e (RD X.K ex va fa)) :
    PE X (.Call (.Name "len" p) [.Call (.Name "set" p') [e] [] pos'] [] pos) (RD X.K ex va fun τ => bnd (fa τ) lsetD) := by
  obtain ⟨k1, k2, k3, k4⟩ := gb_of g (show bnames[0]? = some ("len" : Str) from rfl) (glc_gl h1)
  obtain ⟨j1, j2, j3, j4⟩ := gb_of g (show bnames[12]? = some ("set" : Str) from rfl) (glc_gl h2)
  refine peMono (pe_lset (g.calm (glc_cm h1)) k1 k2 j1 j2 ha fun es => star_cons hn es X.env) fun σ H Q ⟨S, τ, hs, q⟩ => ?_
  refine rdAt (.refl _) hs (PO'.bnd q) fun x v H1 e1 _ m1 q1 => ?_
  cases x with
  | lst o ds =>
    obtain ⟨a, ys, rfl, qq, m⟩ := m1.lstR
    have q2 : PO' ex (match asStrs ds with | some ys => grd (decide (ys.length < 1000)) (.ok (.int ((ys.foldl Sx.dd []).length : Nat))) | none => stk) (Kk X.K S H Q) := q1
    cases z : asStrs ds with
    | none => rw [z] at q2; exact q2.no.elim
    | some ns =>
      rw [z] at q2
      obtain ⟨gd, q2⟩ := PO'.grd q2
      rw [asStrs_map z] at m
      rw [m.strs] at qq
      exact ⟨a, ns, rfl, qq, of_decide_eq_true gd, q2.ok _ _ e1 (.int _)⟩
  | _ => exact q1.no.elim
theorem s_or {a b : Expr} {rest : List Expr} {pos : Pos} {va vb : List Nat} {fa fb : Ev → Res D} (ha : PE X a (RD X.K ex va fa)) (hb : PE X (.BoolOp .Or (b :: rest) pos) (RD X.K ex vb fb)) :
    PE X (.BoolOp .Or (a :: b :: rest) pos) (RD X.K ex (va ++ vb) fun τ => bnd (fa τ) fun x => bnd (truD x) fun r => if r = true then .ok x else fb τ) := by
  intro pins s σ H Q I h
  obtain ⟨S, τ, hs, q⟩ := h
  refine BoolOp_or (thn (ha pins s σ H (fun v H' => ∃ d, Same H H' ∧ HRep X.K (nw S H) H' v d ∧ _) I (rdAt (.refl _) hs.left (PO'.bnd q) fun x v H1 e1 _ m1 q1 => ⟨x, e1, m1, q1⟩)) fun v s1 ⟨x, H1, I1, r1, d, e1, m1, q1⟩ => ?_)
  refine thn (truD_ok (Q := fun b H' => H' = H1 ∧ PO' ex (if b = true then .ok d else fb τ) (Kk X.K S H Q)) I1 r1 m1 ((PO'.bnd q1).mono fun b z => ⟨rfl, z⟩)) fun c s2 ⟨H2, I2, e2, q2⟩ => ?_
  subst e2
  cases c with
  | false =>
    rw [if_neg Bool.false_ne_true] at q2 ⊢
    exact hb pins s2 σ _ Q I2 (rdAt e1 hs.right q2 fun y w H3 e3 _ m3 q3 => q3 _ _ e3 m3)
  | true =>
    rw [if_pos rfl] at q2 ⊢
    exact ⟨x, _, I2, r1, q2.ok _ _ e1 m1⟩
theorem s_not {a : Expr} {pos : Pos} {va : List Nat} {fa : Ev → Res D} (ha : PE X a (RD X.K ex va fa)) (ht : PT X a (RT X.K ex va fun τ => bnd (fa τ) truD)) :
    PE X (.UnaryOp .Not a pos) (RD X.K ex va fun τ => bnd (fa τ) fun x => bnd (truD x) fun r => .ok (.bl !r)) ∧ PT X (.UnaryOp .Not a pos) (RT X.K ex va fun τ => bnd (bnd (fa τ) fun x => bnd (truD x) fun r => .ok (.bl !r)) truD) := by
  constructor
  · intro pins s σ H Q I h
    obtain ⟨S, τ, hs, q⟩ := h
    refine UnaryOp_ (thn (ha pins s σ H (fun v H' => ∃ d, Same H H' ∧ HRep X.K (nw S H) H' v d ∧ _) I (rdAt (.refl _) hs (PO'.bnd q) fun x v H1 e1 _ m1 q1 => ⟨x, e1, m1, q1⟩)) fun v s1 ⟨x, H1, I1, r1, d, e1, m1, q1⟩ => ?_)
    refine not_of (thn (truD_ok (Q := fun b H' => Q (.bl !b) H') I1 r1 m1 ((PO'.bnd q1).mono fun b z => z.ok _ _ e1 (.bl _))) fun c s2 ⟨H2, I2, q2⟩ => ⟨.bl !c, H2, I2, rfl, q2⟩)
  · refine ptMono (pt_not ht) fun σ H Q ⟨S, τ, hs, q⟩ => ?_
    exact rtAt (.refl _) hs (PO'.mk ((PO'.bnd (PO'.bnd q)).mono fun x hx => (PO'.bnd hx).mono fun r hr => hr.ok.ok)) fun x H2 e2 _ k => k H2 e2
theorem pt_any {e : Expr} {pos : Pos} {op : BoolOp} {es : List Expr} {t : TT} (h : PT X (.BoolOp op es pos) t) : PW X (.BoolOp op es pos) t := fun _ pins s σ H Q I q => h pins s σ H Q I q
theorem t_or {a b : Expr} {rest : List Expr} {pos : Pos} {va vb : List Nat} {fa fb : Ev → Res D} (ha : PT X a (RT X.K ex va fun τ => bnd (fa τ) truD)) (hb : PW X (.BoolOp .Or (b :: rest) pos) (RT X.K ex vb fun τ => bnd (fb τ) truD)) :
    PT X (.BoolOp .Or (a :: b :: rest) pos) (RT X.K ex (va ++ vb) fun τ => bnd (bnd (fa τ) fun x => bnd (truD x) fun r => if r = true then .ok x else fb τ) truD) := by
  refine ptMono (pw_or ha hb).pt fun σ H Q ⟨S, τ, hs, q⟩ => ?_
  refine rtAt (.refl _) hs.left (Kt := fun r => PO' ex (if r = true then .ok true else bnd (fb τ) truD) fun b => ∀ H', Same H H' → Q b H') (PO'.mk ((PO'.bnd (PO'.bnd q)).mono fun x hx => (PO'.bnd hx).eq.mono fun r hr => ?_)) fun r H2 e2 _ k => ?_
  · obtain ⟨er, hr⟩ := hr
    cases r with
    | false => rw [if_neg Bool.false_ne_true] at hr ⊢; exact PO'.mk hr
    | true =>
      rw [if_pos rfl] at hr ⊢
      have hr' : PO' ex (truD x) _ := hr
      rw [er] at hr'
      exact hr'
  · cases r with
    | false => rw [if_neg Bool.false_ne_true] at k ⊢; exact rtAt e2 hs.right k fun b H3 e3 _ z => z H3 e3
    | true => rw [if_pos rfl] at k ⊢; exact k.ok H2 e2
theorem s_tup {es : List Expr} {n : Nat} {pos : Pos} {va : List Nat} {fa : Ev → Res (List D)} (h : PA X es (RA X.K ex va fa)) : PE X (.Tuple es n pos) (RD X.K ex va fun τ => bnd (fa τ) fun ds => grd (szOk ds.length) (.ok (.tup ds))) := by
  refine peMono (pe_tup h) fun σ H Q ⟨S, τ, hs, q⟩ => ?_
  refine raAt (.refl _) hs (PO'.bnd q) fun ds vs H1 e1 _ m1 q1 => ?_
  obtain ⟨g, q1⟩ := PO'.grd q1
  exact ⟨by rw [m1.length]; exact szOk_le g, fun p hp => q1.ok _ _ (e1.trans (.upd hp)) ((newT hp m1).mono (nw_nw e1) (.refl _))⟩
theorem s_lst {es : List Expr} {pos : Pos} {va : List Nat} {fa : Ev → Res (List D)} (h : PA X es (RA X.K ex va fa)) : PE X (.List es pos) (RD X.K ex va fun τ => bnd (fa τ) fun ds => grd (szOk ds.length) (.ok (.lst true ds))) := by
  refine peMono (pe_lst h) fun σ H Q ⟨S, τ, hs, q⟩ => ?_
  refine raAt (.refl _) hs (PO'.bnd q) fun ds vs H1 e1 _ m1 q1 => ?_
  obtain ⟨g, q1⟩ := PO'.grd q1
  exact ⟨by rw [m1.length]; exact szOk_le g, fun p hp => q1.ok _ _ (e1.trans (.upd hp)) ((newL hp m1).mono (nw_nw e1) (.refl _))⟩
theorem s_idx {a b : Expr} {pos : Pos} {va vb : List Nat} {fa fb : Ev → Res D} (ha : PE X a (RD X.K ex va fa)) (hb : PE X b (RD X.K ex vb fb)) (hp : notSlice b = true) :
    PE X (.Subscript a b pos) (RD X.K ex (va ++ vb) fun τ => bnd (fa τ) fun x => bnd (fb τ) fun y => opIx x y) := by
  refine peMono (pe_ix (opIx_ok (ex := ex)) ha hb fun o i => by cases b <;> first | rfl | cases hp) fun σ H Q ⟨S, τ, hs, q⟩ => ?_
  refine rdAt (.refl _) hs.left (PO'.bnd q) fun x v H1 e1 _ m1 q1 => ?_
  refine rdAt e1 hs.right (PO'.bnd q1) fun y w H2 e2 e2' m2 q2 => ?_
  exact ⟨nw S H, x, y, m1.later e2', m2, q2.mono fun d hd => hd.fit e2⟩
theorem s_sl {a : Expr} {lo hi : Option Expr} {pos p2 : Pos} {va vl vh : List Nat} {fa : Ev → Res D} {fl fh : Ev → Res (Option Int)} (ha : PE X a (RD X.K ex va fa)) (hl : PO X lo (ROp X.K ex vl fl)) (hh : PO X hi (ROp X.K ex vh fh)) :
    PE X (.Subscript a (.Slice lo hi none p2) pos) (RD X.K ex (va ++ vl ++ vh) fun τ => bnd (fa τ) fun x => bnd (fl τ) fun l => bnd (fh τ) fun h => opSl x l h) := by
  refine peMono (pe_slice (opSl_ok (ex := ex)) ha hl hh) fun σ H Q ⟨S, τ, hs, q⟩ => ?_
  refine rdAt (.refl _) hs.left.left (PO'.bnd q) fun x v H1 e1 _ m1 q1 => ?_
  refine roAt e1 hs.left.right (PO'.bnd q1) fun l H2 e2 e2' q2 => ?_
  refine roAt e2 hs.right (PO'.bnd q2) fun h H3 e3 e3' q3 => ?_
  exact ⟨nw S H, x, m1.later (e2'.trans e3'), q3.mono fun d hd => hd.fit e3⟩
theorem s_call (g : GOk Z CX cl xp X ex G) {f : Nat} {x : Str} {p pos : Pos} {es : List IR} {args : List Expr} (h1 : chkG Z G f x = true) (h2 : Z.fnc G f = true) (hst : chks Z G es args = true) (h : PA X args (RA X.K ex (varss es) (evRs cl es))) :
    PE X (.Call (.Name x p) args [] pos) (RD X.K ex (varss es) fun τ => bnd (evRs cl es τ) fun ds => cl f (ers ds)) := by
  obtain ⟨k1, k2, k3, k4⟩ := gl_of g h1
  obtain ⟨k, fa', fd, ps, hm, hkp, hb, F, hr, hlen⟩ := (g.fns f (fnc_fn h2).1 (fnc_fn h2).2 x k2).ex
  obtain ⟨E, hP, hE⟩ := g.exs
  intro pins s σ H Q I q
  obtain ⟨S, τ, hs, q⟩ := q
  have fin : ∀ (us : List Value) (s1 : Shared) (vs : List V) (H1 : Hp) (ds : List D), Inv X pins σ H1 s1 → Vals vs us → Same H H1 → HReps X.K (nw S H) H1 vs ds → PO' ex (cl f (ers ds)) (Kk X.K S H Q) → wpAny (model X.prog X.w) X.A (call (.ref fa') us) (EP X pins σ Q) X.xe s1 := by
    intro us s1 vs H1 ds I1 r e m q1
    have hl := hlen ex _ _ q1
    rw [ers_length] at hl
    refine run_hid F hr hb hP g.hid I1 r (by rw [m.length]; exact hl) (Fc := fun a => nw S H a ∧ H1 a ≠ none) (fun a z => z.2) m.tight ?_
    cases z : cl f (ers ds) with
    | error er =>
      rw [z] at q1
      cases er with
      | stuck => exact q1.no.elim
      | exc c => exact hE c _ q1
    | ok d =>
      rw [z] at q1
      intro v H' F' fv o
      refine q1.ok _ _ (e.trans o.same) (o.rep.read (fun a ha => ?_) fun a ha => ?_)
      · rcases o.out a ha with z | z
        · exact z.1
        · exact .inr (e.free z)
      · exact .inr (e.free (o.new a ha))
  refine wpAny_Call_Name_kw (ld_glob I k1 hm ?_ k4)
  cases args with
  | nil =>
    cases es with
    | cons _ _ => cases hst
    | nil =>
      exact PySem.W.callWith_K0 I.kIn hkp (fin [] s [] H [] I .nil (.refl _) .nil q)
  | cons e l =>
    cases es with
    | nil => cases hst
    | cons a es =>
      have hst' : (notStar e && chk Z G a e && chks Z G es l) = true := hst
      simp only [Bool.and_eq_true] at hst'
      refine PySem.W.callWith_K (h₀ := X.base) I.ok.mod.kin hkp (thn (h pos pins s σ H (fun vs H1 => ∃ ds, Same H H1 ∧ HReps X.K (nw S H) H1 vs ds ∧ PO' ex (cl f (ers ds)) (Kk X.K S H Q)) I ⟨S, τ, hs, (PO'.bnd q).mono fun ds hd vs H1 e m => ⟨ds, e, m, hd⟩⟩) fun us s1 ⟨vs, H1, I1, r, ds, e, m, q1⟩ => ⟨I1.kIn, ?_⟩) (star_cons hst'.1.1 l X.env) (star_none Z G (es := es) pos X.env hst'.2)
      exact fin us s1 vs H1 ds I1 r e m q1
theorem s_bi (g : GOk Z CX cl xp X ex G) {f : Bi} {p pos : Pos} {es : List IR} {a : Expr} {args : List Expr} (hg : G.glc (biNum f) = true) (hst : chks Z G es (a :: args) = true) (h : PA X (a :: args) (RA X.K ex (varss es) (evRs cl es))) :
    PE X (.Call (.Name (biName f) p) (a :: args) [] pos) (RD X.K ex (varss es) fun τ => bnd (evRs cl es τ) fun ds => opBi f ds) := by
  obtain ⟨k1, k2, k3, k4⟩ := gb_of g (bi_num f) (glc_gl hg)
  cases es with
  | nil => cases hst
  | cons b es =>
    have hst' : (notStar a && chk Z G b a && chks Z G es args) = true := hst
    simp only [Bool.and_eq_true] at hst'
    have mono : ∀ σ H Q, RD X.K ex (varss (b :: es)) (fun τ => bnd (evRs cl (b :: es) τ) fun ds => opBi f ds) σ H Q → tCB (rBi X.K ex f) (RA X.K ex (varss (b :: es)) (evRs cl (b :: es))) σ H Q := by
      rintro σ H Q ⟨S, τ, hs, q⟩
      refine raAt (.refl _) hs (PO'.bnd q) fun ds vs H1 e1 _ m1 q1 => ?_
      exact ⟨nw S H, ds, m1, q1.mono fun d hd => hd.fit e1⟩
    refine peMono ?_ mono
    have hv := bi_boot f
    have hc := opBi_ok (X := X) (ex := ex) (g.calm (glc_cm hg)) f
    unfold biVal at hv hc
    cases z : biTy f with
    | true =>
      rw [z, if_pos rfl] at hv hc
      exact pe_callTy hc k1 k2 hv h k3 k4 (star_cons hst'.1.1 args X.env) (star_none Z G (es := es) pos X.env hst'.2)
    | false =>
      rw [z, if_neg Bool.false_ne_true] at hv hc
      exact pe_callB hc k1 k2 hv h k3 k4 (star_cons hst'.1.1 args X.env) (star_none Z G (es := es) pos X.env hst'.2)
noncomputable def kdV : Kd → V
  | .tuple => .ty "tuple"
theorem kdV_rel (k : Kd) : RelV (kdV k) (kdTy k) := by cases k <;> rfl
theorem call_isi (k : Kd) : CallR X (.builtin "isinstance") (fun xs H Q => ∃ S x d, xs = [x, kdV k] ∧ HRep X.K S H x d ∧ notX d = true ∧ Q (.bl (isiD k d)) H) := by
  intro pins s σ H xs us Q I r h
  obtain ⟨S, x, d, rfl, m, hn, q⟩ := h
  obtain ⟨u, w', rfl, r1, r2⟩ := vals2 r
  have e : w' = kdTy k := by
    have := r2.abs
    have h2 := (kdV_rel k).abs
    cases k <;> (revert r2; intro r2; exact r2)
  subst e
  exact isiD_ok I r1 m k hn q
theorem s_isi (g : GOk Z CX cl xp X ex G) {k : Kd} {e : Expr} {p p' pos : Pos} {va : List Nat} {fa : Ev → Res D} (hg : G.gl.contains 14 = true) (hk : G.gl.contains (kdNum k) = true) (hn : notStar e = true) (ha : PE X e (RD X.K ex va fa)) :
    PE X (.Call (.Name "isinstance" p) [e, .Name (kdName k) p'] [] pos) (RD X.K ex va fun τ => bnd (fa τ) fun x => grd (notX x) (.ok (.bl (isiD k x)))) := by
  obtain ⟨k1, k2, k3, k4⟩ := gb_of g (show bnames[14]? = some ("isinstance" : Str) from rfl) hg
  obtain ⟨j1, j2, j3, j4⟩ := gb_of g (kd_num k) hk
  have pa : PA X [e, .Name (kdName k) p'] (tCons (RD X.K ex va fa) (tCons (tC (kdV k)) tNil)) := pa_cons ha (pa_cons (pe_bltn j1 j2 (kd_boot k) (kdV_rel k) j3 j4) pa_nil rfl) (star_cons hn _ _)
  refine peMono (pe_callB (call_isi k) k1 k2 PyProof.Rows.boot_isinstance pa k3 k4 (star_cons hn _ _) rfl) fun σ H Q ⟨S, τ, hs, q⟩ => ?_
  refine rdAt (.refl _) hs (PO'.bnd q) fun x v H1 e1 _ m1 q1 => ?_
  obtain ⟨gd, q1⟩ := PO'.grd q1
  exact ⟨nw S H, v, x, rfl, m1, gd, q1.ok _ _ e1 (.bl _)⟩
theorem pe_cv (g : GOk Z CX cl xp X ex G) {n : Nat} {z : Str} {p : Pos} (h : chkG Z G n z = true) (hc : Z.cls.contains n = true) : ∃ v, CV X z v ∧ PE X (.Name z p) (tC v) := by
  obtain ⟨k1, k2, k3, k4⟩ := gl_of g h
  obtain ⟨v, hv⟩ := g.xcv n (by simpa using hc) z k2
  refine ⟨v, hv, ?_⟩
  rcases hv with ⟨C, rfl, h1⟩ | ⟨T, rfl, h1, h2⟩
  · exact pe_glob k1 h1 rfl k4
  · exact pe_bltn k1 h1 h2 rfl k3 k4
theorem isxD_exc {tb : List (Str × Bool)} {d : D} {k : D → Prop} (h : PO' ex (isxD tb d) k) : ∃ c b, d = .exc c ∧ tb.lookup c = some b ∧ k (.bl b) := by
  cases d with
  | exc c =>
    have h' : PO' ex (match tb.lookup c with | some b => .ok (.bl b) | none => stk) k := h
    cases z : tb.lookup c with
    | none => rw [z] at h'; exact h'.no.elim
    | some b => rw [z] at h'; exact ⟨c, b, rfl, z, h'.ok⟩
  | _ => exact h.no.elim
theorem HRep.excR {K : PySem.W.Frag} {S : Addr → Prop} {H : Hp} {v : V} {c : Str} (h : HRep K S H v (.exc c)) : ∃ a, v = .ref a ∧ SqE K H a (.inr c) := by
  cases h with
  | exc h => exact ⟨_, rfl, h⟩
theorem call_isx1 {v2 : V} {z : Str} (hv : CV X z v2) : CallR X (.builtin "isinstance") (fun xs H Q => ∃ a c C b, xs = [.ref a, v2] ∧ SqE X.K H a (.inr c) ∧ PySem.W.nsIn X.K mainGlobals c = some (some (.ref C)) ∧ ExcAt X.K C ∧ PySem.W.kitOne X.K (.ref C) (vv v2) = some b ∧ Q (.bl b) H) := by
  intro pins s σ H xs us Q I r h
  obtain ⟨a, c, C, b, rfl, h1, h2, h3, h4, q⟩ := h
  obtain ⟨u, w', rfl, r1, r2⟩ := vals2 r
  cases r1
  rw [hv.rel r2]
  exact isx_one I h1 h2 h3 h4 q
theorem call_isx2 {v1 v2 : V} {z y : Str} (hv : CV X z v1) (hw : CV X y v2) : CallR X (.builtin "isinstance") (fun xs H Q => ∃ a p c C b, xs = [.ref a, .ref p] ∧ SqE X.K H a (.inr c) ∧ SqT X.K H p [v1, v2] ∧ PySem.W.nsIn X.K mainGlobals c = some (some (.ref C)) ∧ ExcAt X.K C ∧ PySem.W.kitAny X.K (.ref C) [vv v1, vv v2] = some b ∧ Q (.bl b) H) := by
  intro pins s σ H xs us Q I r h
  obtain ⟨a, p, c, C, b, rfl, h1, hp, h2, h3, h4, q⟩ := h
  obtain ⟨u, w', rfl, r1, r2⟩ := vals2 r
  cases r1
  cases r2
  exact isx_two I h1 h2 h3 hv hw hp h4 q
theorem lookup_mem {tb : List (Str × Bool)} {c : Str} {b : Bool} (h : tb.lookup c = some b) : (c, b) ∈ tb := by
  induction tb with
  | nil => cases h
  | cons p r ih =>
    rw [List.lookup_cons] at h
    split at h
    · rename_i hb
      cases h
      have : c = p.1 := eq_of_beq hb
      subst this
      exact List.mem_cons_self ..
    · exact List.mem_cons_of_mem _ (ih h)
theorem s_isx (g : GOk Z CX cl xp X ex G) {ns : List Nat} {tb : List (Str × Bool)} {e y : Expr} {p pos : Pos} {va : List Nat} {fa : Ev → Res D} (hg : G.gl.contains 14 = true) (hn : notStar e = true) (hc : chkCl Z G ns y = true) (ht : tb.all (tbOk Z ns) = true) (ha : PE X e (RD X.K ex va fa)) :
    PE X (.Call (.Name "isinstance" p) [e, y] [] pos) (RD X.K ex va fun τ => bnd (fa τ) (isxD tb)) := by
  obtain ⟨k1, k2, k3, k4⟩ := gb_of g (show bnames[14]? = some ("isinstance" : Str) from rfl) hg
  rw [List.all_eq_true] at ht
  cases ns with
  | nil => exact no_h hc
  | cons n r =>
  cases r with
  | nil =>
    obtain ⟨z, p', rfl, hc'⟩ := nmv_ok (show nmv (fun z => chkG Z G n z && Z.cls.contains n) y = true from hc)
    rw [Bool.and_eq_true] at hc'
    obtain ⟨v, hv, pv⟩ := pe_cv (p := p') g hc'.1 hc'.2
    obtain ⟨_, j2, _, _⟩ := gl_of g hc'.1
    have pa : PA X [e, .Name z p'] (tCons (RD X.K ex va fa) (tCons (tC v) tNil)) := pa_cons ha (pa_cons pv pa_nil rfl) (star_cons hn _ _)
    refine peMono (pe_callB (call_isx1 hv) k1 k2 PyProof.Rows.boot_isinstance pa k3 k4 (star_cons hn _ _) rfl) fun σ H Q ⟨S, τ, hs, q⟩ => ?_
    refine rdAt (.refl _) hs (PO'.bnd q) fun x w H1 e1 _ m1 q1 => ?_
    obtain ⟨c, b, rfl, hl, q2⟩ := isxD_exc q1
    obtain ⟨a, rfl, hx⟩ := m1.excR
    have hm : (c, n, b) ∈ Z.xt := by simpa using show Z.xt.contains (c, n, b) = true from ht (c, b) (lookup_mem hl)
    obtain ⟨C, h1, h2, h3⟩ := g.xcl c n b z hm j2
    exact ⟨a, c, C, b, rfl, hx, h1, h2, h3 v hv, q2 _ _ e1 (.bl _)⟩
  | cons m r =>
  cases r with
  | cons _ _ => exact no_h hc
  | nil =>
    obtain ⟨es, tn, tpos, rfl, hc⟩ := tpv_ok (show tpv (on2 fun a b => nmv (fun z => chkG Z G n z && Z.cls.contains n) a && nmv (fun y => chkG Z G m y && Z.cls.contains m) b) y = true from hc)
    obtain ⟨z1, z2, rfl, hc⟩ := on2_ok hc
    obtain ⟨hc1, hc2⟩ := Bool.and_eq_true_iff.mp (show (nmv (fun z => chkG Z G n z && Z.cls.contains n) z1 && nmv (fun y => chkG Z G m y && Z.cls.contains m) z2) = true from hc)
    obtain ⟨z, p', rfl, hd1⟩ := nmv_ok hc1
    obtain ⟨y, p2, rfl, hd2⟩ := nmv_ok hc2
    rw [Bool.and_eq_true] at hd1 hd2
    obtain ⟨v, hv, pv⟩ := pe_cv (p := p') g hd1.1 hd1.2
    obtain ⟨w, hw, pw⟩ := pe_cv (p := p2) g hd2.1 hd2.2
    obtain ⟨_, j2, _, _⟩ := gl_of g hd1.1
    obtain ⟨_, i2, _, _⟩ := gl_of g hd2.1
    have pt : PE X (.Tuple [.Name z p', .Name y p2] tn tpos) _ := pe_tup (pa_cons pv (pa_cons pw pa_nil rfl) rfl)
    have pa := pa_cons ha (pa_cons pt pa_nil rfl) (star_cons hn _ _)
    refine peMono (pe_callB (call_isx2 hv hw) k1 k2 PyProof.Rows.boot_isinstance pa k3 k4 (star_cons hn _ _) rfl) fun σ H Q ⟨S, τ, hs, q⟩ => ?_
    refine rdAt (.refl _) hs (PO'.bnd q) fun x w' H1 e1 _ m1 q1 => ?_
    obtain ⟨c, b, rfl, hl, q2⟩ := isxD_exc q1
    obtain ⟨a, rfl, hx⟩ := m1.excR
    have hm' : (Z.xt.contains (c, n, false) && Z.xt.contains (c, m, b)) = true := ht (c, b) (lookup_mem hl)
    rw [Bool.and_eq_true] at hm'
    obtain ⟨C, h1, h2, h3⟩ := g.xcl c n false z (by simpa using hm'.1) j2
    obtain ⟨C', h1', h2', h3'⟩ := g.xcl c m b y (by simpa using hm'.2) i2
    rw [h1] at h1'
    cases h1'
    refine ⟨(by decide : 2 ≤ sizeLine), fun pp hp => ⟨a, pp, c, C, b, rfl, (Same.upd hp).seqT hx, .inl (.inl upd_same), h1, h2, ?_, q2 _ _ (e1.trans (.upd hp)) (.bl _)⟩⟩
    have a1 := h3 v hv
    have a2 := h3' w hw
    unfold PySem.W.kitAny
    rw [a1]
    unfold PySem.W.kitAny
    rw [a2]
    cases b <;> rfl
theorem isStrD_str {d : D} (h : isStrD d = true) : ∃ x, d = .str x := by
  cases d <;> first | exact ⟨_, rfl⟩ | cases h
theorem s_mth (g : GOk Z CX cl xp X ex G) {m : Mt} {o : Expr} {apos cpos : Pos} {vo : List Nat} {fo : Ev → Res D} {es : List IR} {a : Expr} {args : List Expr} (hn : notCall0 o = true) (hl : (apos.endLine == cpos.line) = true) (hlen : (a :: args).length < 29)
    (hst : chks Z G es (a :: args) = true) (ho : PE X o (RD X.K ex vo fo)) (h : PA X (a :: args) (RA X.K ex (varss es) (evRs cl es))) :
    PE X (.Call (.Attribute o (mtName m) apos) (a :: args) [] cpos) (RD X.K ex (vo ++ varss es) fun τ => bnd (fo τ) fun x => grd (isStrD x) (bnd (evRs cl es τ) fun ds => opMt m x ds)) := by
  cases es with
  | nil => cases hst
  | cons b es =>
    have hst' : (notStar a && chk Z G b a && chks Z G es args) = true := hst
    simp only [Bool.and_eq_true] at hst'
    have star := star_none Z G (es := es) cpos X.env hst'.2
    have mono : ∀ σ H Q, RD X.K ex (vo ++ varss (b :: es)) (fun τ => bnd (fo τ) fun x => grd (isStrD x) (bnd (evRs cl (b :: es) τ) fun ds => opMt m x ds)) σ H Q → tBM X.K "str" (rMt X.K ex m) (RD X.K ex vo fo) (RA X.K ex (varss (b :: es)) (evRs cl (b :: es))) σ H Q := by
      rintro σ H Q ⟨S, τ, hs, q⟩
      refine rdAt (.refl _) hs.left (PO'.bnd q) fun x v H1 e1 _ m1 q1 => ?_
      obtain ⟨gd, q1⟩ := PO'.grd q1
      obtain ⟨z, rfl⟩ := isStrD_str gd
      cases m1.strR
      refine ⟨rfl, raAt e1 hs.right (PO'.bnd q1) fun ds vs H2 e2 e2' m2 q2 => ?_⟩
      exact ⟨nw S H, .str z, ds, .str z, m2, q2.mono fun d hd => hd.fit e2⟩
    have hbase : attributeBase o (mtName m) X.env (eval o X.env) = eval o X.env := by
      cases o with
      | Call f args kws pos =>
        cases args with
        | nil =>
          cases kws with
          | nil => cases hn
          | cons _ _ => cases f <;> rfl
        | cons _ _ => cases f <;> rfl
      | _ => rfl
    have all0 : (backTo cpos (starEach (a :: args) X.env)).all (fun x => !x.1) = true := by
      rw [star_cons hst'.1.1]
      show (true && (backTo cpos (starEach args X.env)).all (fun x => !x.1)) = true
      rw [Bool.true_and, List.all_eq_true]
      intro y hy
      have := List.any_eq_false.mp star y hy
      simpa using this
    have hfew : ((backTo cpos (starEach (a :: args) X.env)).all (fun x => !x.1) && (backToKw cpos (keywordEach [] X.env)).all (fun x => x.1.isSome) && decide ((a :: args).length + ([] : List Keyword).length + (if ([] : List Keyword).isEmpty then 0 else 1) < 30)) = true := by
      rw [all0]
      have : decide ((a :: args).length + ([] : List Keyword).length + (if ([] : List Keyword).isEmpty then 0 else 1) < 30) = true := decide_eq_true (by simp at hlen ⊢; omega)
      rw [this]
      rfl
    refine peMono ?_ mono
    cases m
    exact pe_bm PySem.F.plainAttrs_str PySem.F.slot_str_join PySem.F.type_str_join (opMt_ok (ex := ex) .join) ho h hbase hfew hl (star_cons hst'.1.1 args X.env) star
end
end L2
namespace L2
open PySem PySem.Spec PyProof.Rows PySem.SeqAt
noncomputable def gT (K : PySem.W.Frag) : Tg → TG
  | .nm i => gName i
  | .pr i j => gTup K 2 (gCons (gName i) (gCons (gName j) gNil))
section
variable {Z : Sg} {CX : CXT} {cl : Nat → List D → Res D} {xp : XK → Hp → Str → Prop} {X : Cx} {ex : Str → Prop} {G : Gm}
theorem pgN (g : GOk Z CX cl xp X ex G) {i : Nat} {x : Str} {pos : Pos} (h : chkN G i x = true) : PG X (.Name x pos) (gName i) := by
  unfold chkN at h
  rw [Bool.and_eq_true, Bool.or_eq_true, Bool.and_eq_true] at h
  obtain ⟨h1, h2⟩ := h
  have hx : G.N[i]? = some x := eq_of_beq h1
  have hk := g.kd i x hx
  refine pg_name (by rw [g.N]; exact g.nod) (by rw [g.N]; exact hx) ?_ ?_
  · rcases h2 with h2 | h2
    · exact .inl (hk.trans (eq_of_beq h2))
    · exact .inr (hk.trans (eq_of_beq h2.2))
  · rcases h2 with h2 | h2
    · exact .inr (hk.trans (eq_of_beq h2))
    · exact .inl (g.df h2.1 x)
theorem pgT (g : GOk Z CX cl xp X ex G) (t : Tg) (e : Expr) (h : chkT G t e = true) : PG X e (gT X.K t) := by
  cases t with
  | nm i =>
    obtain ⟨x, pos, rfl, h⟩ := nmv_ok h
    exact pgN g h
  | pr i j =>
    have h0 : (G.cm && tpv (on2 fun a b => nmv (fun x => chkN G i x) a && nmv (fun x => chkN G j x) b) e) = true := h
    rw [Bool.and_eq_true] at h0
    obtain ⟨es, c, pos, rfl, h1⟩ := tpv_ok h0.2
    obtain ⟨a, b, rfl, h2⟩ := on2_ok h1
    rw [Bool.and_eq_true] at h2
    obtain ⟨x, q1, rfl, n1⟩ := nmv_ok h2.1
    obtain ⟨y, q2, rfl, n2⟩ := nmv_ok h2.2
    exact pg_tup (g.calm h0.1) (pgs_cons (pgN g n1) (pgs_cons (pgN g n2) pgs_nil))
end
noncomputable def SlA (K : PySem.W.Frag) (S : Addr → Prop) (H : Hp) (σ : St) (τ : Ev) : Prop := τ.length = σ.length ∧ ∀ i d, slotD τ i = some d → ∃ v, σ[i]? = some (some v) ∧ HRep K S H v d
theorem slotD_set {τ : Ev} {i j : Nat} {o : Option D} : slotD (τ.set i o) j = if i = j ∧ i < τ.length then o else slotD τ j := by
  unfold slotD
  rw [List.getElem?_set]
  by_cases h : i = j
  · subst h
    by_cases h2 : i < τ.length
    · simp [h2]
    · rw [if_pos rfl, if_neg h2, if_neg (by omega)]
      rw [List.getElem?_eq_none (by omega)]
  · rw [if_neg h, if_neg (by omega)]
section
variable {K : PySem.W.Frag} {S : Addr → Prop} {H : Hp} {ex : Str → Prop}
theorem gN_read {i : Nat} {σ : St} {τ : Ev} {v : V} {d : D} (hs : SlA K S H σ τ) (m : HRep K S H v d) : SlA K S H (σ.set i (some v)) (τ.set i (some d)) := by
  refine ⟨by rw [List.length_set, List.length_set, hs.1], fun j e z => ?_⟩
  rw [slotD_set] at z
  by_cases q : i = j ∧ i < τ.length
  · rw [if_pos q] at z
    obtain ⟨rfl, q⟩ := q
    cases z
    exact ⟨v, by rw [List.getElem?_set_self (by rw [← hs.1]; exact q)], m⟩
  · rw [if_neg q] at z
    obtain ⟨w, h1, h2⟩ := hs.2 j e z
    refine ⟨w, ?_, h2⟩
    by_cases q2 : i = j
    · subst q2
      exact absurd ⟨rfl, by rw [hs.1]; exact (List.getElem?_eq_some_iff.mp h1).1⟩ q
    · rw [List.getElem?_set_ne q2]; exact h1
theorem gT_read (t : Tg) {σ : St} {τ : Ev} {v : V} {d : D} {Kt : Ev → Prop} {Q : St → Hp → Prop} (hs : SlA K S H σ τ) (m : HRep K S H v d) (h : PO' ex (setT t d τ) Kt)
    (k : ∀ τ' σ', SlA K S H σ' τ' → σ'.length = σ.length → (∀ j, j ∉ tgs t → σ'[j]? = σ[j]?) → Kt τ' → Q σ' H) : gT K t v σ H Q := by
  cases t with
  | nm i =>
    refine k (τ.set i (some d)) (σ.set i (some v)) (gN_read hs m) (by rw [List.length_set]) (fun j hj => ?_) h.ok
    have : i ≠ j := fun z => hj (by subst z; simp [tgs])
    rw [List.getElem?_set_ne this]
  | pr i j =>
    cases d with
    | tup ds =>
      obtain ⟨a, xs, rfl, q, ms⟩ := m.tupR
      cases ms with
      | nil => exact h.no.elim
      | cons m1 ms1 =>
        cases ms1 with
        | nil => exact h.no.elim
        | cons m2 ms2 =>
          cases ms2 with
          | cons _ _ => exact h.no.elim
          | nil =>
            refine ⟨a, _, rfl, q, rfl, _, _, rfl, ?_⟩
            refine ⟨_, _, rfl, ?_⟩
            refine ⟨rfl, ?_⟩
            refine k _ _ (gN_read (i := j) (gN_read (i := i) hs m1) m2) (by rw [List.length_set, List.length_set]) (fun l hl => ?_) h.ok
            have l1 : i ≠ l := fun z => hl (by subst z; simp [tgs])
            have l2 : j ≠ l := fun z => hl (by subst z; simp [tgs])
            rw [List.getElem?_set_ne l2, List.getElem?_set_ne l1]
    | _ => exact h.no.elim
end
section
variable {K : PySem.W.Frag} {S S' : Addr → Prop} {H H' : Hp} {J : It} {ds : List D}
theorem Wlk.step (hl : ∀ a xs, S a → Rd H a (.lst xs) → S' a ∧ Rd H' a (.lst xs)) (ht : ∀ a xs, SqE K H a xs → SqE K H' a xs) (h : Wlk K S H J ds) : Wlk K S' H' J ds := by
  cases h with
  | lst h0 h1 h2 => exact .lst (hl _ _ h0 h1).1 (hl _ _ h0 h1).2 (h2.step hl ht)
  | lstK h1 h2 => exact .lstK h1 (h2.step hl ht)
  | rng lo hi => exact .rng lo hi
theorem Wlk.mono (h : Wlk K S H J ds) (hS : ∀ a, S a → S' a) (e : Same H H') : Wlk K S' H' J ds := h.step (fun a xs s r => ⟨hS a s, e.rd r⟩) fun a xs s => e.seqT s
theorem rngD_len (a b : Int) : (rngD a b).length = (b - a).toNat := by unfold rngD; simp
theorem Wlk.stop (h : Wlk K S H J ds) {i : Nat} (hi : ds.length ≤ i) : J.stop i H := by
  cases h with
  | lst h0 h1 h2 => exact ⟨_, .inl h1, by rw [h2.length]; exact hi⟩
  | lstK h1 h2 => exact ⟨_, h1.sq, by rw [h2.length]; exact hi⟩
  | rng lo hi' => rw [rngD_len] at hi; exact hi
theorem Wlk.go (h : Wlk K S H J ds) {i : Nat} (hi : i < ds.length) : J.go i H := by
  cases h with
  | lst h0 h1 h2 => obtain ⟨v, hv, _⟩ := h2.get (i := i) (d := ds[i]) (by simp [hi]); exact ⟨_, v, .inl h1, hv⟩
  | lstK h1 h2 => obtain ⟨v, hv, _⟩ := h2.get (i := i) (d := ds[i]) (by simp [hi]); exact ⟨_, v, h1.sq, hv⟩
  | rng lo hi' => rw [rngD_len] at hi; exact hi
theorem Wlk.yld (h : Wlk K S H J ds) {i : Nat} {x : V} {H2 : Hp} (y : J.yld i H x H2) {d : D} (hd : ds[i]? = some d) : H2 = H ∧ HRep K S H x d := by
  have fin : ∀ {xs : List V}, HReps K S H xs ds → xs[i]? = some x → HRep K S H x d := fun m e => by
    obtain ⟨d', e', m'⟩ := m.getV e
    rw [hd] at e'; cases e'; exact m'
  cases h with
  | lst h0 h1 h2 => exact ⟨y.1, fin h2 (y.2 _ (.inl h1))⟩
  | lstK h1 h2 => exact ⟨y.1, fin h2 (y.2 _ h1.sq)⟩
  | rng lo hi' =>
    obtain ⟨e1, e2⟩ := y
    refine ⟨e1, ?_⟩
    subst e2
    unfold rngD at hd
    rw [List.getElem?_map] at hd
    have hi : i < (hi' - lo).toNat := by
      have := (Option.map_eq_some_iff.mp hd)
      obtain ⟨z, h1, _⟩ := this
      have := (List.getElem?_eq_some_iff.mp h1).1
      simpa using this
    rw [List.getElem?_range hi] at hd
    cases hd
    exact .int _
end
end L2
namespace L2
open PySem PySem.Spec PyProof.Rows PySem.SeqAt
section
variable {Z : Sg} {CX : CXT} {cl : Nat → List D → Res D} {xp : XK → Hp → Str → Prop} {X : Cx} {ex : Str → Prop} {G : Gm} {K : PySem.W.Frag} {S : Addr → Prop} {H H1 : Hp} {σ : St} {τ : Ev}
theorem riAt {is : List Nat} {f : Ev → Res (List D)} {Kt : List D → Prop} {R : It → Hp → Prop} (e : Same H H1) (hs : Slots K S H σ τ is) (h : PO' ex (f τ) Kt) (k : ∀ ds J H2, Same H H2 → Same H1 H2 → Wlk K (nw S H) H2 J ds → Kt ds → R J H2) : RI K ex is f σ H1 R :=
  ⟨nw S H, τ, hs.go e, h.mono fun x hx J H2 e2 m => k x J H2 (e.trans e2) e2 (m.mono (nw_nw e) (.refl _)) hx⟩
theorem it_list {tg : Expr} {pins : List (Addr × Obj)} {s : Shared} {a : Addr} {xs : List V} {R : It → Hp → Prop} (I : Inv X pins σ H s) (hq : SqL X.K H a xs) (q : R (Itl X.K a) H) : wpAny (model X.prog X.w) X.A (pyIter (.ref a)) (PIE X pins σ tg R) X.xe s := by
  obtain ⟨its, rv, p, hz⟩ := I.list hq
  refine wpAny_pyIter_list p.isList ?_
  refine ⟨s.heap.objs.size, [s.heap.objs.size], _, _, H, rfl, I.kept (t' := s.toks) fun b o e => Heap.get?_push_of_some _ e, turn_list a _, ⟨_, Heap.get?_push_size _ rfl, rfl, rfl⟩, fun b hb => ?_, q⟩
  have e : b = s.heap.objs.size := by simpa using hb
  subst e
  exact I.fpOk (Nat.le_refl _) (I.hok.fresh (Nat.le_refl _))
theorem i_val {tg e : Expr} {va : List Nat} {fa : Ev → Res D} (ha : PE X e (RD X.K ex va fa)) : PI X tg e (RI X.K ex va fun τ => bnd (fa τ) itemsD) := by
  intro pins s σ H R I h
  obtain ⟨S, τ, hs, q⟩ := h
  refine thn (ha pins s σ H (fun v H' => ∃ d, Same H H' ∧ HRep X.K (nw S H) H' v d ∧ _) I (rdAt (.refl _) hs (PO'.bnd q) fun x v H1 e1 _ m1 q1 => ⟨x, e1, m1, q1⟩)) fun v s1 ⟨x, H1, I1, r1, d, e1, m1, q1⟩ => ?_
  cases d with
  | lst o ds =>
    cases m1 with
    | lst h0 h1 h2 => cases r1; exact it_list I1 (.inl h1) (q1.ok _ _ e1 (.lst h0 h1 h2))
    | lstK h1 h2 => cases r1; exact it_list I1 h1.sq (q1.ok _ _ e1 (.lstK h1 h2))
  | _ => exact q1.no.elim
theorem i_rng1 (g : GOk Z CX cl xp X ex G) {tg e : Expr} {p pos : Pos} {va : List Nat} {fa : Ev → Res D} (hg : G.gl.contains 15 = true) (hn : notStar e = true) (ha : PE X e (RD X.K ex va fa)) :
    PI X tg (.Call (.Name "range" p) [e] [] pos) (RI X.K ex va fun τ => bnd (fa τ) fun | .int i => grd (rngOk i) (.ok (rngD 0 i)) | _ => stk) := by
  obtain ⟨k1, k2, _, _⟩ := gb_of g (show bnames[15]? = some ("range" : Str) from rfl) hg
  refine piMono (pi_range1 k1 k2 (pa_cons ha pa_nil (star_cons hn _ _)) (star_cons hn _ _)) fun σ H Q ⟨S, τ, hs, q⟩ => ?_
  refine rdAt (.refl _) hs (PO'.bnd q) fun x v H1 e1 _ m1 q1 => ?_
  cases x with
  | int i =>
    cases m1.intR
    obtain ⟨gd, q1⟩ := PO'.grd q1
    have gd' : -(2 ^ 62) ≤ i ∧ i < 2 ^ 62 := of_decide_eq_true gd
    refine ⟨i, rfl, gd'.1, gd'.2, ?_⟩
    have := q1.ok _ _ e1 (.rng 0 i)
    rw [Int.sub_zero] at this
    exact this
  | _ => exact q1.no.elim
theorem i_rng2 (g : GOk Z CX cl xp X ex G) {tg e e' : Expr} {p pos : Pos} {va vb : List Nat} {fa fb : Ev → Res D} (hg : G.gl.contains 15 = true) (hn : notStar e = true) (hn' : notStar e' = true) (ha : PE X e (RD X.K ex va fa)) (hb : PE X e' (RD X.K ex vb fb)) :
    PI X tg (.Call (.Name "range" p) [e, e'] [] pos) (RI X.K ex (va ++ vb) fun τ => bnd (fa τ) fun x => bnd (fb τ) fun y => match x, y with | .int i, .int j => grd (rngOk i && rngOk j) (.ok (rngD i j)) | _, _ => stk) := by
  obtain ⟨k1, k2, _, _⟩ := gb_of g (show bnames[15]? = some ("range" : Str) from rfl) hg
  refine piMono (pi_range2 k1 k2 (pa_cons ha (pa_cons hb pa_nil (star_cons hn' _ _)) (star_cons hn _ _)) (by rw [star_cons hn, star_cons hn']; rfl) (star_cons hn' _ _)) fun σ H Q ⟨S, τ, hs, q⟩ => ?_
  refine rdAt (.refl _) hs.left (PO'.bnd q) fun x v H1 e1 _ m1 q1 => ?_
  refine rdAt e1 hs.right (PO'.bnd q1) fun y w H2 e2 e2' m2 q2 => ?_
  cases x with
  | int i =>
    cases y with
    | int j =>
      cases m1.intR; cases m2.intR
      obtain ⟨gd, q2⟩ := PO'.grd q2
      rw [Bool.and_eq_true] at gd
      have g1 : -(2 ^ 62) ≤ i ∧ i < 2 ^ 62 := of_decide_eq_true gd.1
      have g2 : -(2 ^ 62) ≤ j ∧ j < 2 ^ 62 := of_decide_eq_true gd.2
      exact ⟨i, j, rfl, ⟨g1.1, g1.2, g2.1, g2.2⟩, q2.ok _ _ e2 (.rng i j)⟩
    | _ => exact q2.no.elim
  | _ => cases y <;> exact q2.no.elim
theorem lookup_rl {env : Env} {x : Str} : ∀ (names : List (Str × NameKind)),
    (names.map fun (n, k) => if (k == NameKind.free && env.scope.kind == .function && env.kindOf n == some .cell) then (n, NameKind.cell) else (n, k)).lookup x =
      (names.lookup x).map fun k => if (k == NameKind.free && env.scope.kind == .function && env.kindOf x == some .cell) then NameKind.cell else k
  | [] => rfl
  | (n, k) :: r => by
    have ih := lookup_rl (env := env) (x := x) r
    rw [List.map_cons]
    show List.lookup x ((if (k == NameKind.free && env.scope.kind == .function && env.kindOf n == some .cell) = true then (n, NameKind.cell) else (n, k)) :: _) = _
    by_cases hc : (k == NameKind.free && env.scope.kind == .function && env.kindOf n == some .cell) = true
    · rw [if_pos hc, List.lookup_cons, List.lookup_cons]
      cases hx : x == n with
      | true =>
        have e : x = n := eq_of_beq hx
        subst e
        show some NameKind.cell = some (if _ then _ else _)
        rw [if_pos hc]
      | false => exact ih
    · rw [if_neg hc, List.lookup_cons, List.lookup_cons]
      cases hx : x == n with
      | true =>
        have e : x = n := eq_of_beq hx
        subst e
        show some k = some (if _ then _ else _)
        rw [if_neg hc]
      | false => exact ih
theorem closure_ex {scope : Scope} {env : Env} (h : ∀ y ∈ scope.names, y.2 = .free → ∃ c, env.cells.lookup y.1 = some c) :
    ∃ cl', closureFor scope env = pure cl' ∧ (∀ x c, cl'.lookup x = some c → env.cells.lookup x = some c) ∧ ∀ y ∈ scope.names, y.2 = .free → ∃ c, cl'.lookup y.1 = some c := by
  have key : ∀ (names : List (Str × NameKind)) (acc : List (Str × Addr)), (∀ y ∈ names, y.2 = .free → ∃ c, env.cells.lookup y.1 = some c) → (∀ x c, acc.lookup x = some c → env.cells.lookup x = some c) →
      ∃ cl', (forIn names acc fun (p : Str × NameKind) (r : List (Str × Addr)) => (if (p.2 == NameKind.free) = true then do let a ← cellOf env p.1; pure (ForInStep.yield ((p.1, a) :: r)) else pure (ForInStep.yield r) : Sem (ForInStep (List (Str × Addr))))) = pure cl' ∧ (∀ x c, cl'.lookup x = some c → env.cells.lookup x = some c) ∧
        (∀ y ∈ names, y.2 = .free → ∃ c, cl'.lookup y.1 = some c) ∧ ∀ x c, acc.lookup x = some c → ∃ c', cl'.lookup x = some c' := by
    intro names
    induction names with
    | nil => intro acc _ h2; exact ⟨acc, rfl, h2, fun y hy => absurd hy (by simp), fun x c e => ⟨c, e⟩⟩
    | cons p names ih =>
      intro acc h1 h2
      rw [List.forIn_cons]
      by_cases hp : p.2 = .free
      · obtain ⟨c, hc⟩ := h1 p (by simp) hp
        have hb : (p.2 == NameKind.free) = true := by rw [hp]; rfl
        have h2' : ∀ x c', ((p.1, c) :: acc).lookup x = some c' → env.cells.lookup x = some c' := by
          intro x c' e
          rw [List.lookup_cons] at e
          cases hx : x == p.1 with
          | true =>
            rw [hx] at e
            cases e
            rw [eq_of_beq hx]
            exact hc
          | false => rw [hx] at e; exact h2 x c' e
        obtain ⟨cl', e1, e2, e3, e4⟩ := ih ((p.1, c) :: acc) (fun y hy => h1 y (List.mem_cons_of_mem _ hy)) h2'
        refine ⟨cl', ?_, e2, fun y hy hf => ?_, fun x c' e => ?_⟩
        · rw [if_pos hb]
          have : cellOf env p.1 = pure c := by unfold cellOf; rw [hc]
          rw [this]
          exact e1
        · rcases List.mem_cons.mp hy with rfl | hy
          · exact e4 y.1 c (by rw [List.lookup_cons]; simp)
          · exact e3 y hy hf
        · rcases hx : x == p.1 with _ | _
          · exact e4 x c' (by rw [List.lookup_cons, hx]; exact e)
          · exact e4 x c (by rw [List.lookup_cons, hx])
      · have hb : ¬ (p.2 == NameKind.free) = true := fun z => hp (eq_of_beq z)
        obtain ⟨cl', e1, e2, e3, e4⟩ := ih acc (fun y hy => h1 y (List.mem_cons_of_mem _ hy)) h2
        refine ⟨cl', ?_, e2, fun y hy hf => ?_, e4⟩
        · rw [if_neg hb]
          exact e1
        · rcases List.mem_cons.mp hy with rfl | hy
          · exact absurd hf hp
          · exact e3 y hy hf
  obtain ⟨cl', e1, e2, e3, _⟩ := key scope.names [] h (fun x c e => by cases e)
  refine ⟨cl', ?_, e2, e3⟩
  unfold closureFor
  exact congrArg (fun (m : Sem (List (Str × Addr))) => m >>= fun r => pure r) e1
structure ScOk (Z : Sg) (G : Gm) (scope : Scope) (G' : Gm) (fr : List Nat) : Prop where
  cm : G.cm = true
  kind : scope.kind = .function
  df : G'.df = false
  kdl : G'.kd.length = G'.N.length
  nocell : ∀ y ∈ scope.names, y.2 ≠ .cell
  loc : ∀ y ∈ scope.names, y.2 = .local → scope.names.lookup y.1 = some .local
  fre : ∀ y ∈ scope.names, y.2 = .free → ∃ i : Nat, G.N[i]? = some y.1 ∧ (G.kd[i]? = some .cell ∨ G.kd[i]? = some .free)
  frs : ∀ (j : Nat) (i : Nat), fr[j]? = some i → ∃ x, G.N[i]? = some x ∧ G'.N[j]? = some x ∧ scope.names.lookup x = some .free ∧ (G.kd[i]? = some .cell ∨ G.kd[i]? = some .free) ∧ G'.kd[j]? = some (if (G.kd[i]? == some .cell) = true then .cell else .free)
  fle : fr.length ≤ G'.N.length
  tgs : ∀ (j : Nat) (x : Str), fr.length ≤ j → G'.N[j]? = some x → scope.names.lookup x = some .local ∧ G'.kd[j]? = some .local
  noD : ∀ x ∈ G'.N, (x == ("__debug__" : Str)) = false ∧ (x == ("__classdict__" : Str)) = false
  nod : G'.N.Nodup
  gl : ∀ n ∈ G'.gl, ∃ x, Z.name n = some x ∧ scope.names.lookup x = some .globalImplicit
theorem scOk_of {Z : Sg} {G : Gm} {scope : Scope} {G' : Gm} {fr : List Nat} (h : chkScope Z G scope G' fr = true) : ScOk Z G scope G' fr := by
  unfold chkScope at h
  simp only [Bool.and_eq_true] at h
  obtain ⟨⟨⟨⟨⟨⟨⟨⟨⟨⟨⟨⟨h0, h1⟩, h2⟩, h3⟩, h4⟩, h5⟩, h6⟩, h7⟩, h8⟩, h9⟩, h10⟩, h11⟩, h12⟩ := h
  rw [List.all_eq_true] at h4 h5 h6 h7 h9 h10 h12
  refine ⟨h0, eq_of_beq h1, by simpa using h2, eq_of_beq h3, fun y hy => by simpa using h4 y hy, fun y hy e => ?_, fun y hy e => ?_, fun j i e => ?_, of_decide_eq_true h8, fun j x hj e => ?_, fun x hx => by simpa using h10 x hx, of_decide_eq_true h11, fun n hn => ?_⟩
  · have := h5 y hy
    rw [e] at this
    simpa using this
  · have := h6 y hy
    rw [e] at this
    simp only [bne_self_eq_false, Bool.false_or, List.any_eq_true, Bool.and_eq_true, Bool.or_eq_true] at this
    obtain ⟨i, _, hi, hk⟩ := this
    exact ⟨i, eq_of_beq hi, hk.elim (fun z => .inl (eq_of_beq z)) fun z => .inr (eq_of_beq z)⟩
  · have hj : j < fr.length := (List.getElem?_eq_some_iff.mp e).1
    have := h7 j (List.mem_range.mpr hj)
    simp only [e, Option.bind_some, Bool.and_eq_true, Bool.or_eq_true] at this
    obtain ⟨⟨⟨a1, a2⟩, a3⟩, a4⟩ := this
    have a1' := eq_of_beq a1
    have a2' := eq_of_beq a2
    cases q : G'.N[j]? with
    | none => rw [q] at a2'; cases a2'
    | some x =>
      rw [q] at a2' a1'
      exact ⟨x, a1'.symm, rfl, a2', a3.elim (fun z => .inl (eq_of_beq z)) fun z => .inr (eq_of_beq z), eq_of_beq a4⟩
  · have hlt : j < G'.N.length := (List.getElem?_eq_some_iff.mp e).1
    have hm : j ∈ (List.range G'.N.length).drop fr.length := by
      rw [List.mem_drop_iff_getElem]
      exact ⟨j - fr.length, by simp; omega, by simp; omega⟩
    have := h9 j hm
    rw [e] at this
    simp only [Option.bind_some, Bool.and_eq_true] at this
    exact ⟨eq_of_beq this.1, eq_of_beq this.2⟩
  · have := h12 n hn
    cases q : Z.name n with
    | none => rw [q] at this; cases this
    | some x =>
      rw [q] at this
      exact ⟨x, rfl, eq_of_beq this⟩
noncomputable def frN (G : Gm) (fr : List Nat) : List (Str × Nat) := fr.map fun i => (G.N.getD i "", i)
theorem frN_N {scope : Scope} {G' : Gm} {fr : List Nat} (s : ScOk Z G scope G' fr) : (frN G fr).map (·.1) ++ G'.N.drop fr.length = G'.N := by
  have e : (frN G fr).map (·.1) = G'.N.take fr.length := by
    apply List.ext_getElem?
    intro j
    unfold frN
    rw [List.map_map, List.getElem?_map, List.getElem?_take]
    cases q : fr[j]? with
    | none =>
      have : ¬ j < fr.length := by
        intro z
        rw [List.getElem?_eq_getElem z] at q
        cases q
      rw [if_neg this]
      rfl
    | some i =>
      have : j < fr.length := (List.getElem?_eq_some_iff.mp q).1
      rw [if_pos this]
      obtain ⟨x, h1, h2, _⟩ := s.frs j i q
      rw [h2]
      show some (G.N.getD i "") = some x
      rw [List.getD_eq_getElem?_getD, h1]
      rfl
  rw [e, List.take_append_drop]
theorem compSc_of (g : GOk Z CX cl xp X ex G) (ok : X.Ok) {scope : Scope} {G' : Gm} {fr : List Nat} (s : ScOk Z G scope G' fr) : ∃ cl', CompSc X scope cl' (frN G fr) (G'.N.drop fr.length) := by
  have hfree : ∀ y ∈ scope.names, y.2 = .free → ∃ c, X.env.cells.lookup y.1 = some c := fun y hy hf => by
    obtain ⟨i, h1, h2⟩ := s.fre y hy hf
    have hk := g.kd i y.1 h1
    exact ok.has y.1 (h2.elim (fun z => .inl (hk.trans z)) fun z => .inr (hk.trans z))
  obtain ⟨cl', e1, e2, e3⟩ := closure_ex hfree
  refine ⟨cl', e1, s.kind, s.nocell, s.loc, e2, fun x hx => ?_, fun p hp => ?_⟩
  · have hl := lookup_rl (env := X.env) (x := x) scope.names
    have hx' : ((scope.names.lookup x).map fun k => if (k == NameKind.free && X.env.scope.kind == .function && X.env.kindOf x == some .cell) = true then NameKind.cell else k) = some .cell ∨
        ((scope.names.lookup x).map fun k => if (k == NameKind.free && X.env.scope.kind == .function && X.env.kindOf x == some .cell) = true then NameKind.cell else k) = some .free := by
      rcases hx with hx | hx
      · exact .inl (hl.symm.trans hx)
      · exact .inr (hl.symm.trans hx)
    cases q : scope.names.lookup x with
    | none => rw [q] at hx'; rcases hx' with z | z <;> cases z
    | some k =>
      have hm : (x, k) ∈ scope.names := PySem.mem_of_lookup q
      have hk : k = .free := by
        rw [q] at hx'
        rcases hx' with z | z
        · have z' : (if (k == NameKind.free && X.env.scope.kind == .function && X.env.kindOf x == some .cell) = true then NameKind.cell else k) = .cell := Option.some.inj z
          split at z'
          · rename_i hc
            simp only [Bool.and_eq_true] at hc
            exact eq_of_beq hc.1.1
          · exact absurd z' (s.nocell _ hm)
        · have z' : (if (k == NameKind.free && X.env.scope.kind == .function && X.env.kindOf x == some .cell) = true then NameKind.cell else k) = .free := Option.some.inj z
          split at z'
          · cases z'
          · exact z'
      exact e3 (x, k) hm hk
  · unfold frN at hp
    rw [List.mem_map] at hp
    obtain ⟨i, hi, rfl⟩ := hp
    obtain ⟨j, hj⟩ := List.getElem?_of_mem hi
    obtain ⟨x, h1, h2, h3, h4, h5⟩ := s.frs j i hj
    have hn : G.N.getD i "" = x := by rw [List.getD_eq_getElem?_getD, h1]; rfl
    show X.N[i]? = some (G.N.getD i "") ∧ _
    rw [hn]
    have hk := g.kd i x h1
    refine ⟨by rw [g.N]; exact h1, h4.elim (fun z => .inl (hk.trans z)) fun z => .inr (hk.trans z), ?_⟩
    have hl := lookup_rl (env := X.env) (x := x) scope.names
    rw [h3] at hl
    have hl' : (relabel scope X.env).names.lookup x = some (if (NameKind.free == NameKind.free && X.env.scope.kind == .function && X.env.kindOf x == some .cell) = true then NameKind.cell else NameKind.free) := hl
    rw [hl']
    split
    · exact .inl rfl
    · exact .inr rfl
theorem gok_comp (g : GOk Z CX cl xp X ex G) {scope : Scope} {G' : Gm} {fr : List Nat} (s : ScOk Z G scope G' fr) (cl' : List (Str × Addr)) (C : Addr) (s3 : Shared) (H3 : Hp) (fp : List Addr) :
    GOk Z CX cl xp (cxC X scope cl' ((frN G fr).map (·.1) ++ G'.N.drop fr.length) C s3 H3 fp) (fun _ => False) G' where
  N := frN_N s
  nod := s.nod
  calm := fun _ => g.calm s.cm
  fk := s.kind
  un := g.un
  own := fun _ => PassesOwn.never
  kd := fun j x hx => by
    show (relabel scope X.env).names.lookup x = _
    have hl := lookup_rl (env := X.env) (x := x) scope.names
    by_cases hj : j < fr.length
    · obtain ⟨y, h1, h2, h3, h4, h5⟩ := s.frs j fr[j] (by simp [hj])
      rw [hx] at h2
      cases h2
      rw [h3] at hl
      rw [h5]
      refine hl.trans ?_
      have hk := g.kd fr[j] x h1
      show some (if (NameKind.free == NameKind.free && X.env.scope.kind == .function && X.env.kindOf x == some .cell) = true then NameKind.cell else NameKind.free) = _
      rw [hk, g.fk]
      rfl
    · obtain ⟨h1, h2⟩ := s.tgs j x (by omega) hx
      rw [h1] at hl
      rw [h2]
      exact hl
  noD := fun j x hx => s.noD x (List.mem_of_getElem? hx)
  gl := fun n hn x e => by
    obtain ⟨y, h1, h2⟩ := s.gl n hn
    rw [e] at h1
    cases h1
    show (relabel scope X.env).names.lookup x = _
    have hl := lookup_rl (env := X.env) (x := x) scope.names
    rw [h2] at hl
    exact hl
  nam := g.nam
  df := fun z => by rw [s.df] at z; cases z
  blt := g.blt
  cst := g.cst
  fns := fun f hf _ x hx => g.fns f hf (.inl s.cm) x hx
  xcv := g.xcv
  xcl := g.xcl
  xmt := g.xmt
  xrs := g.xrs
  rse := fun _ pins σ H s c C h' e vs _ z => z.elim
  exs := ⟨fun _ _ _ => False, fun pins σ H s e s' _ h => (g.exn _ _ _ _ _ h).elim, fun c _ z => z.elim⟩
  hid := g.hid
  exn := g.exn
end
end L2
namespace L2
open PySem PySem.Spec PyProof.Rows PySem.SeqAt
noncomputable abbrev nox : Str → Prop := fun _ => False
theorem PO'.noX {α : Type} {ex : Str → Prop} {x : Res α} {k : α → Prop} (h : PO' ex (L2.noX x) k) : PO' nox x k := by
  cases x with
  | ok a => exact h
  | error e => exact False.elim h
section
variable {K : PySem.W.Frag} {S : Addr → Prop} {H : Hp} {σ : St} {τ : Ev} {ex : Str → Prop} {cl : Nat → List D → Res D} {G G' : Gm} {fr : List Nat}
noncomputable def blk (G' : Gm) (fr : List Nat) (τ : Ev) : Ev := fr.map (slotD τ) ++ List.replicate (G'.N.length - fr.length) none
theorem blk_len (hl : fr.length ≤ G'.N.length) : (blk G' fr τ).length = G'.N.length := by
  unfold blk
  rw [List.length_append, List.length_map, List.length_replicate]
  omega
theorem stC_len (Tg : List Str) (σ : St) : (stC (frN G fr) Tg σ).length = fr.length + Tg.length := by
  unfold stC frN
  rw [List.length_append, List.length_map, List.length_map, List.length_replicate]
theorem blk_slot {j : Nat} {d : D} (h : slotD (blk G' fr τ) j = some d) : ∃ i, fr[j]? = some i ∧ slotD τ i = some d := by
  unfold slotD blk at h
  by_cases hj : j < fr.length
  · rw [List.getElem?_append_left (by simpa using hj), List.getElem?_map, List.getElem?_eq_getElem hj] at h
    exact ⟨fr[j], by simp [hj], h⟩
  · rw [List.getElem?_append_right (by simpa using hj), List.getElem?_replicate] at h
    split at h <;> cases h
theorem blk_sla {vs : List Nat} {σ' : St} (hl : fr.length ≤ G'.N.length) (hs : Slots K S H σ τ (fr ++ vs)) (hn : σ'.length = G'.N.length) (hσ : ∀ j, j < fr.length → σ'[j]? = (stC (frN G fr) (G'.N.drop fr.length) σ)[j]?) : SlA K S H σ' (blk G' fr τ) := by
  refine ⟨by rw [blk_len hl, hn], fun j d h => ?_⟩
  obtain ⟨i, hi, hd⟩ := blk_slot h
  have hj : j < fr.length := (List.getElem?_eq_some_iff.mp hi).1
  obtain ⟨v, h1, h2⟩ := hs i (List.mem_append_left _ (List.mem_of_getElem? hi)) d hd
  refine ⟨v, ?_, h2⟩
  rw [hσ j hj]
  unfold stC frN
  rw [List.getElem?_append_left (by simpa using hj), List.getElem?_map, List.getElem?_map, hi]
  show some ((σ[i]?).join) = some (some v)
  rw [h1]
  rfl
noncomputable def bodyM (cl : Nat → List D → Res D) (T : Tg) (I : List IR) (E : IR) (τ0 : Ev) (x : D) : Res (Option D) := bnd (setT T x τ0) fun τ1 => bnd (evTs cl I τ1) fun r => if r = true then bnd (evR cl E τ1) fun d => .ok (some d) else .ok none
theorem comp_core {vs : List Nat} {fs : Ev → Res (List D)} {T : Tg} {I : List IR} {E : IR} {Kt : D → Prop} {Q : VK} (hl : fr.length ≤ G'.N.length) (ha : ∀ i ∈ tgs T, fr.length ≤ i) (hs : Slots K S H σ τ (fr ++ vs))
    (q : PO' ex (bnd (fs τ) fun its => grd (szLt its.length) (bnd (noX (fmapM (bodyM cl T I E (blk G' fr τ)) its)) fun ds => .ok (.lst true ds))) Kt)
    (fin : ∀ A ys ds H', Same H H' → H A = none → H' A = some (.lst ys) → HReps K (fun a => nw S H a ∧ a ≠ A) H' ys ds → Kt (.lst true ds) → Q (.ref A) H') :
    tCmpr (RI K ex vs fs) (stC (frN G fr) (G'.N.drop fr.length)) (gT K T) (RT K nox (varss I) (evTs cl I)) (RD K nox (vars E) (evR cl E)) σ H Q := by
  refine riAt (.refl _) hs.right (PO'.bnd q) fun its J H1 e1 _ w1 q1 A hA => ?_
  obtain ⟨gd, q1⟩ := PO'.grd q1
  have q2 := PO'.noX (PO'.bnd q1)
  have hsz := szLt_lt gd
  have hHA : H A = none := e1.free hA
  -- what is read stands apart from the new list
  have tight : ∀ a, nw S H a → H1 a ≠ none → nw S H a ∧ a ≠ A := fun a h1 h2 => ⟨h1, fun z => h2 (by rw [z]; exact hA)⟩
  have w2 : Wlk K (fun a => nw S H a ∧ a ≠ A) H1 J its := w1.step (fun a xs h r => ⟨tight a h r.some, r⟩) fun a xs h => h
  have hs2 : Slots K (fun a => nw S H a ∧ a ≠ A) H1 σ τ (fr ++ vs) := fun i hi d z => by
    obtain ⟨v, h1, h2⟩ := (hs.go e1) i hi d z
    exact ⟨v, h1, h2.step (fun a xs h r => ⟨tight a h r.some, r⟩) fun a xs h => h⟩
  refine ⟨fun i m σ' H' => m = its.length - i ∧ i ≤ its.length ∧ ∃ ys acc, H' A = some (.lst ys) ∧ HReps K (fun a => nw S H a ∧ a ≠ A) H' ys acc ∧ ys.length ≤ i ∧ Same H1 H' ∧ σ'.length = G'.N.length ∧
      (∀ j, j < fr.length → σ'[j]? = (stC (frN G fr) (G'.N.drop fr.length) σ)[j]?) ∧ PO' nox (fmapM (bodyM cl T I E (blk G' fr τ)) (its.drop i)) fun ds => Kt (.lst true (acc ++ ds)), ⟨its.length, by simp, Nat.zero_le _, [], [], upd_same, .nil, Nat.le_refl _, .upd hA, ?_, fun _ _ => rfl, ?_⟩, ?_⟩
  · rw [stC_len, List.length_drop]; omega
  · rw [List.drop_zero]
    exact q2.mono fun ds z => z.ok
  · rintro i m σ' H' ⟨rfl, hi, ys, acc, hy, my, ly, e2, hn, hσ, q3⟩
    by_cases hlt : i < its.length
    · refine .inr ⟨(w2.mono (fun _ z => z) e2).go hlt, fun x H2 hy2 => ?_⟩
      obtain ⟨eH, mx⟩ := (w2.mono (fun _ z => z) e2).yld hy2 (d := its[i]) (by simp [hlt])
      subst eH
      have hd : its.drop i = its[i] :: its.drop (i + 1) := List.drop_eq_getElem_cons hlt
      rw [hd] at q3
      have q4 := PO'.bnd q3
      have q5 : PO' nox (setT T its[i] (blk G' fr τ)) _ := PO'.bnd q4
      have sl : SlA K (fun a => nw S H a ∧ a ≠ A) H2 σ' (blk G' fr τ) := blk_sla (G := G) (vs := vs) (σ := σ) hl (fun i hi d z => by
        obtain ⟨v, h1, h2⟩ := hs2 i hi d z
        exact ⟨v, h1, h2.mono (fun _ z => z) e2⟩) hn hσ
      refine gT_read T sl mx q5 fun τ' σ2 sl2 hn' hk q6 => ?_
      have hn2 : σ2.length = G'.N.length := hn'.trans hn
      have hσ2 : ∀ j, j < fr.length → σ2[j]? = (stC (frN G fr) (G'.N.drop fr.length) σ)[j]? := fun j hj => by
        rw [hk j (fun z => by have := ha j z; omega)]
        exact hσ j hj
      have sl3 : ∀ is, Slots K (fun a => nw S H a ∧ a ≠ A) H2 σ2 τ' is := fun is i _ d z => sl2.2 i d z
      refine rtAt (.refl _) (sl3 _) (PO'.bnd q6) fun r H4 e4 _ q7 => ?_
      cases r with
      | false =>
        rw [if_neg Bool.false_ne_true] at q7 ⊢
        have q8 : PO' nox (fmapM (bodyM cl T I E (blk G' fr τ)) (its.drop (i + 1))) fun ds => Kt (.lst true (acc ++ ds)) := q7
        refine ⟨its.length - (i + 1), by omega, rfl, hlt, ys, acc, e4 _ _ hy, my.mono (fun _ z => z) e4, by omega, e2.trans e4, hn2, hσ2, q8⟩
      | true =>
        rw [if_pos rfl] at q7 ⊢
        refine rdAt e4 (sl3 _) (PO'.bnd q7) fun d v H5 e5 e5' m5 q8 => ?_
        have q9 : PO' nox (bnd (fmapM (bodyM cl T I E (blk G' fr τ)) (its.drop (i + 1))) fun r => .ok (d :: r)) fun ds => Kt (.lst true (acc ++ ds)) := q8
        have q10 := PO'.bnd q9
        have hy5 : H5 A = some (.lst ys) := e5 _ _ hy
        refine ⟨ys, hy5, by omega, its.length - (i + 1), by omega, rfl, hlt, ys ++ [v], acc ++ [d], upd_same, ?_, by rw [List.length_append, List.length_singleton]; omega, ?_, hn2, hσ2, ?_⟩
        · have hl5 : ∀ a xs, (nw S H a ∧ a ≠ A) → Rd H5 a (.lst xs) → (nw S H a ∧ a ≠ A) ∧ Rd (upd H5 A (.lst (ys ++ [v]))) a (.lst xs) := fun a xs h r => by
            refine ⟨h, ?_⟩
            unfold Rd
            rw [upd_ne h.2]
            exact r
          have ht5 : ∀ a xs, SqE K H5 a xs → SqE K (upd H5 A (.lst (ys ++ [v]))) a xs := fun a xs h => h.upd hy5
          have m6 : HRep K (fun a => nw S H a ∧ a ≠ A) H5 v d := m5.step (fun a xs h r => ⟨by
            rcases h with h | h
            · exact h
            · have : H a = none := e1.free (e2.free h)
              exact ⟨.inr this, fun z => by rw [z, hy] at h; cases h⟩, r⟩) fun a xs h => h
          exact (((my.mono (fun _ z => z) e5).step hl5 ht5)).append (.cons (m6.step hl5 ht5) .nil)
        · exact fun b o hb => by
            have : b ≠ A := by rintro rfl; rw [hA] at hb; cases hb
            rw [upd_ne this]
            exact e5 _ _ (e2 _ _ hb)
        · refine q10.mono fun ds z => ?_
          have z' := z.ok
          rw [List.append_assoc]
          exact z'
    · have e : i = its.length := by omega
      subst e
      refine .inl ⟨(w2.mono (fun _ z => z) e2).stop (Nat.le_refl _), ?_⟩
      rw [List.drop_length] at q3
      have q4 := q3.ok
      rw [List.append_nil] at q4
      exact fin A ys acc H' (e1.trans e2) hHA hy my q4
end
section
variable {Z : Sg} {CX : CXT} {cl : Nat → List D → Res D} {xp : XK → Hp → Str → Prop} {X : Cx} {ex : Str → Prop} {G G' : Gm} {fr : List Nat}
theorem evR_comp {T : Tg} {s : Sr} {I : List IR} {E : IR} : evR cl (.comp G' fr T s I E) = fun τ => bnd (evSr cl s τ) fun its => grd (szLt its.length) (bnd (noX (fmapM (bodyM cl T I E (blk G' fr τ)) its)) fun ds => .ok (.lst true ds)) := rfl
noncomputable abbrev Kn (K : PySem.W.Frag) (S : Addr → Prop) (H : Hp) (Q : VK) : List D → Prop := fun ds => ∀ p ys H', Same H H' → H p = none → H' p = some (.lst ys) → HReps K (fun a => nw S H a ∧ a ≠ p) H' ys ds → Q (.ref p) H'
noncomputable def RN (K : PySem.W.Frag) (ex : Str → Prop) (is : List Nat) (f : Ev → Res (List D)) : TE := fun σ H Q => ∃ S τ, Slots K S H σ τ is ∧ PO' ex (f τ) (Kn K S H Q)
noncomputable def asLst : D → Res (List D)
  | .lst _ ds => .ok ds
  | _ => stk
theorem comp_lst {T : Tg} {s : Sr} {I : List IR} {E : IR} {τ : Ev} {d : D} (z : evR cl (.comp G' fr T s I E) τ = .ok d) : ∃ o ds, d = .lst o ds := by
  rw [evR_comp] at z
  obtain ⟨its, _, z⟩ := bnd_ok z
  obtain ⟨_, z⟩ := grd_ok z
  obtain ⟨ds, _, z⟩ := bnd_ok z
  cases z
  exact ⟨true, ds, rfl⟩
theorem rn_core {T : Tg} {s : Sr} {I : List IR} {E : IR} {σ : St} {H : Hp} {Q : VK} (hl : fr.length ≤ G'.N.length) (ha : ∀ i ∈ tgs T, fr.length ≤ i) (h : RN X.K ex (fr ++ varsS s) (fun τ => bnd (evR cl (.comp G' fr T s I E) τ) asLst) σ H Q) :
    tCmpr (RI X.K ex (varsS s) (evSr cl s)) (stC (frN G fr) (G'.N.drop fr.length)) (gT X.K T) (RT X.K nox (varss I) (evTs cl I)) (RD X.K nox (vars E) (evR cl E)) σ H Q := by
  obtain ⟨S0, τ, hsl, q⟩ := h
  have q' := PO'.bnd (show PO' ex (bnd (evR cl (.comp G' fr T s I E) τ) asLst) _ from q)
  rw [evR_comp] at q'
  exact comp_core hl ha hsl q' fun A ys ds H' e hA hA' m k => k.ok A ys H' e hA hA' m
theorem c_comp (g : GOk Z CX cl xp X ex G) {scope : Scope} {tg iter elt : Expr} {ifs : List Expr} {pos : Pos} {T : Tg} {s : Sr} {I : List IR} {E : IR} (hs : ScOk Z G scope G' fr) (hT : chkT G' T tg = true) (ha : ∀ i ∈ tgs T, fr.length ≤ i)
    (hi : PI X tg iter (RI X.K ex (varsS s) (evSr cl s))) (ht : ∀ X', GOk Z CX cl xp X' nox G' → PTs X' ifs (RT X'.K nox (varss I) (evTs cl I))) (he : ∀ X', GOk Z CX cl xp X' nox G' → PE X' elt (RD X'.K nox (vars E) (evR cl E)))
    (hf : ∀ x, foldedSetIterable iter X.env x = pure x) : PE X (.ListComp elt [⟨tg, iter, ifs, 0⟩] scope pos) (RN X.K ex (fr ++ varsS s) fun τ => bnd (evR cl (.comp G' fr T s I E) τ) asLst) := by
  intro pins s' σ H Q Iv h
  obtain ⟨cl', S⟩ := compSc_of g Iv.ok hs
  exact pe_comp (pos := pos) (elt := elt) (ifs := ifs) (tg := tg) (g := gT X.K T) (tt := RT X.K nox (varss I) (evTs cl I)) (te := RD X.K nox (vars E) (evR cl E)) (g.calm hs.cm) S hi (fun C s H fp => pgT (gok_comp g hs cl' C s H fp) T tg hT) (fun C s H fp => ht _ (gok_comp g hs cl' C s H fp)) (fun C s H fp => he _ (gok_comp g hs cl' C s H fp)) hf pins s' σ H Q Iv (rn_core hs.fle ha h)
theorem s_comp {e : Expr} {T : Tg} {s : Sr} {I : List IR} {E : IR} (h : PE X e (RN X.K ex (fr ++ varsS s) fun τ => bnd (evR cl (.comp G' fr T s I E) τ) asLst)) : PE X e (RD X.K ex (fr ++ varsS s) (evR cl (.comp G' fr T s I E))) := by
  refine peMono h fun σ H Q ⟨S, τ, hs, q⟩ => ⟨S, τ, hs, PO'.mk ((PO'.eq q).mono fun d hd => ?_)⟩
  obtain ⟨o, ds, rfl⟩ := comp_lst hd.1
  exact fun p ys H' e hp hy m => hd.2 _ _ e (.lst (.inr hp) (.inl hy) (m.mono (fun _ z => z.1) (.refl _)))
end
end L2
namespace L2
open PySem PySem.Spec PyProof.Rows PySem.SeqAt
section
variable {Z : Sg} {CX : CXT} {cl : Nat → List D → Res D} {xp : XK → Hp → Str → Prop}
noncomputable def foldsOk : Expr → Bool
  | .Set .. => false
  | _ => true
theorem folds {e : Expr} (h : foldsOk e = true) (env : Env) (x : Value) : foldedSetIterable e env x = pure x := by
  cases e <;> first | rfl | exact no_h h
theorem folded_of {e : Expr} {a : IR} {G : Gm} (h : chk Z G a e = true) (env : Env) (x : Value) : foldedSetIterable e env x = pure x := by
  refine folds ?_ env x
  cases e with
  | Set _ _ => cases a <;> exact no_h h
  | _ => rfl
theorem folded_src {e : Expr} {a : Sr} {G : Gm} (h : chkSr Z G a e = true) (env : Env) (x : Value) : foldedSetIterable e env x = pure x := by
  cases a with
  | val a => exact folded_of (show chk Z G a e = true from h) env x
  | rng1 n =>
    obtain ⟨y, q, args, p, rfl, q1⟩ := cnv_ok (show cnv _ e = true from h)
    rfl
  | rng2 n m =>
    obtain ⟨y, q, args, p, rfl, q1⟩ := cnv_ok (show cnv _ e = true from h)
    rfl
theorem both {X : Cx} {ex : Str → Prop} {e : Expr} {is : List Nat} {f : Ev → Res D} (h : PE X e (RD X.K ex is f)) (he : ∀ whole, isTrue e X.env whole = (do let v ← whole; standAt e.pos; holding [v] (truthy v)) := by intro _; rfl) :
    PE X e (RD X.K ex is f) ∧ PT X e (RT X.K ex is fun τ => bnd (f τ) truD) := ⟨h, pt_of h he⟩
theorem neOf {α : Type} {l : List α} (h : (!l.isEmpty) = true) : ∃ a r, l = a :: r := by
  cases l with
  | nil => exact no_h h
  | cons a r => exact ⟨a, r, rfl⟩
theorem notFalse {b : Bool} (h : (!b) = true) : b = false := by cases b <;> first | rfl | exact no_h h
theorem or_both {X : Cx} {ex : Str → Prop} {l : Expr} {rs : List Expr} {pos : Pos} {va vb : List Nat} {fa fb : Ev → Res D} {k : Expr → Bool} (hr : rest1 k .Or pos rs = true) (ha : PE X l (RD X.K ex va fa) ∧ PT X l (RT X.K ex va fun τ => bnd (fa τ) truD)) (hb : ∀ r, k r = true → PE X r (RD X.K ex vb fb) ∧ PT X r (RT X.K ex vb fun τ => bnd (fb τ) truD)) :
    PE X (.BoolOp .Or (l :: rs) pos) (RD X.K ex (va ++ vb) fun τ => bnd (fa τ) fun x => bnd (truD x) fun r => if r = true then .ok x else fb τ) ∧
    PT X (.BoolOp .Or (l :: rs) pos) (RT X.K ex (va ++ vb) fun τ => bnd (bnd (fa τ) fun x => bnd (truD x) fun r => if r = true then .ok x else fb τ) truD) := by
  cases rs with
  | nil => exact no_h hr
  | cons r rs =>
    cases rs with
    | nil =>
      obtain ⟨pb, tb⟩ := hb r hr
      exact ⟨s_or ha.1 (pe_one pb), t_or ha.2 (pw_or1 tb)⟩
    | cons r' rs =>
      obtain ⟨pb, tb⟩ := hb (.BoolOp .Or (r :: r' :: rs) pos) hr
      exact ⟨s_or ha.1 pb, t_or ha.2 (pt_any (e := l) tb)⟩
theorem and_both {X : Cx} {ex : Str → Prop} {l : Expr} {rs : List Expr} {pos : Pos} {va vb : List Nat} {fa fb : Ev → Res D} {k : Expr → Bool} (hr : rest1 k .And pos rs = true) (ha : PE X l (RD X.K ex va fa) ∧ PT X l (RT X.K ex va fun τ => bnd (fa τ) truD)) (hb : ∀ r, k r = true → PE X r (RD X.K ex vb fb) ∧ PT X r (RT X.K ex vb fun τ => bnd (fb τ) truD)) :
    PE X (.BoolOp .And (l :: rs) pos) (RD X.K ex (va ++ vb) fun τ => bnd (fa τ) fun x => bnd (truD x) fun r => if r = true then fb τ else .ok x) ∧
    PT X (.BoolOp .And (l :: rs) pos) (RT X.K ex (va ++ vb) fun τ => bnd (bnd (fa τ) fun x => bnd (truD x) fun r => if r = true then fb τ else .ok x) truD) := by
  cases rs with
  | nil => exact no_h hr
  | cons r rs =>
    cases rs with
    | nil =>
      obtain ⟨pb, tb⟩ := hb r hr
      exact ⟨s_and ha.1 (pe_one pb), t_and ha.2 (pw_and1 tb)⟩
    | cons r' rs =>
      obtain ⟨pb, tb⟩ := hb (.BoolOp .And (r :: r' :: rs) pos) hr
      exact ⟨s_and ha.1 pb, t_and ha.2 (pt_any (e := l) tb)⟩
mutual
theorem snd : ∀ (a : IR) (X : Cx) (ex : Str → Prop) (G : Gm) (e : Expr), GOk Z CX cl xp X ex G → chk Z G a e = true → PE X e (RD X.K ex (vars a) (evR cl a)) ∧ PT X e (RT X.K ex (vars a) fun τ => bnd (evR cl a τ) truD)
  | .c d, X, ex, G, e, g, h => by
    obtain ⟨k, j, pos, rfl, q1⟩ := ctv_ok (k := fun k => chkC d k) h
    exact both (s_c q1)
  | .g n d, X, ex, G, e, g, h => by
    obtain ⟨x, pos, rfl, q1⟩ := nmv_ok (k := fun x => chkG Z G n x && Z.kst.any fun p => p.1 == n && dbeq p.2 d) h
    have h' := Bool.and_eq_true_iff.mp q1
    exact both (s_g g h'.1 h'.2)
  | .v i, X, ex, G, e, g, h => by
    obtain ⟨x, pos, rfl, q1⟩ := nmv_ok (k := fun x => chkV G i x) h
    exact both (s_v g q1)
  | .bin op a b, X, ex, G, e, g, h => by
    obtain ⟨l, o, r, pos, rfl, q1⟩ := bov_ok (k := fun l o r => o == bop op && chk Z G a l && chk Z G b r) h
    simp only [Bool.and_eq_true] at q1
    have e1 : o = bop op := eq_of_beq q1.1.1
    subst e1
    exact both (s_bin (snd a X ex G l g q1.1.2).1 (snd b X ex G r g q1.2).1)
  | .cmp op a b, X, ex, G, e, g, h => by
    obtain ⟨l, os, rs, pos, rfl, q1⟩ := cpv_ok (k := fun l os rs => on1 (fun o => on1 (fun r => o == cop op && chk Z G a l && chk Z G b r && !behindInMarks o r) rs) os) h
    obtain ⟨o, rfl, q2⟩ := on1_ok q1
    obtain ⟨r, rfl, q3⟩ := on1_ok q2
    simp only [Bool.and_eq_true] at q3
    have e1 : o = cop op := eq_of_beq q3.1.1.1
    subst e1
    exact s_cmp g (snd a X ex G l g q3.1.1.2).1 (snd b X ex G r g q3.1.2).1 (notFalse q3.2)
  | .chain op op' a b c, X, ex, G, e, g, h => by
    obtain ⟨l, os, rs, pos, rfl, q1⟩ := cpv_ok (k := fun l os rs => on2 (fun o o' => on2 (fun m r => o == cop op && o' == cop op' && chk Z G a l && chk Z G b m && chk Z G c r && !lastMarks [o, o'] [m, r]) rs) os) h
    obtain ⟨o, o', rfl, q2⟩ := on2_ok q1
    obtain ⟨m, r, rfl, q3⟩ := on2_ok q2
    simp only [Bool.and_eq_true] at q3
    have e1 : o = cop op := eq_of_beq q3.1.1.1.1.1
    have e2 : o' = cop op' := eq_of_beq q3.1.1.1.1.2
    subst e1 e2
    exact s_chain g (snd a X ex G l g q3.1.1.1.2).1 (snd b X ex G m g q3.1.1.2).1 (snd c X ex G r g q3.1.2).1 (notFalse q3.2)
  | .or_ a b, X, ex, G, e, g, h => by
    obtain ⟨es, pos, rfl, q1⟩ := orv_ok (k := fun es p => match es with | [] => false | l :: rs => chk Z G a l && rest1 (fun r => chk Z G b r) .Or p rs) h
    cases es with
    | nil => exact no_h q1
    | cons l rs =>
      have h' := Bool.and_eq_true_iff.mp q1
      exact or_both h'.2 (snd a X ex G l g h'.1) fun r hr => snd b X ex G r g hr
  | .and_ a b, X, ex, G, e, g, h => by
    obtain ⟨es, pos, rfl, q1⟩ := anv_ok (k := fun es p => match es with | [] => false | l :: rs => chk Z G a l && rest1 (fun r => chk Z G b r) .And p rs) h
    cases es with
    | nil => exact no_h q1
    | cons l rs =>
      have h' := Bool.and_eq_true_iff.mp q1
      exact and_both h'.2 (snd a X ex G l g h'.1) fun r hr => snd b X ex G r g hr
  | .lset a, X, ex, G, e, g, h => by
    obtain ⟨x, p, args, pos, rfl, q1⟩ := cnv_ok (k := fun x args => on1 (fun e' => cnv (fun y as => on1 (fun l => x == "len" && y == "set" && G.glc 0 && G.glc 12 && notStar l && chk Z G a l) as) e') args) h
    obtain ⟨e', rfl, q2⟩ := on1_ok q1
    obtain ⟨y, p', as, pos', rfl, q3⟩ := cnv_ok q2
    obtain ⟨l, rfl, q4⟩ := on1_ok q3
    simp only [Bool.and_eq_true] at q4
    have e1 : x = "len" := eq_of_beq q4.1.1.1.1.1
    have e2 : y = "set" := eq_of_beq q4.1.1.1.1.2
    subst e1 e2
    exact both (s_lset g q4.1.1.1.2 q4.1.1.2 q4.1.2 (snd a X ex G l g q4.2).1)
  | .not_ a, X, ex, G, e, g, h => by
    obtain ⟨l, pos, rfl, q1⟩ := ntv_ok (k := fun l => chk Z G a l) h
    obtain ⟨pa, ta⟩ := snd a X ex G l g q1
    exact s_not pa ta
  | .tup es, X, ex, G, e, g, h => by
    obtain ⟨l, n, pos, rfl, q1⟩ := tpv_ok (k := fun l => chks Z G es l) h
    exact both (s_tup (snds es X ex G l g q1))
  | .lst es, X, ex, G, e, g, h => by
    obtain ⟨l, pos, rfl, q1⟩ := lsv_ok (k := fun l => chks Z G es l) h
    exact both (s_lst (snds es X ex G l g q1))
  | .idx a i, X, ex, G, e, g, h => by
    obtain ⟨o, s, pos, rfl, q1⟩ := sbv_ok (k := fun o s => notSlice s && chk Z G a o && chk Z G i s) h
    simp only [Bool.and_eq_true] at q1
    exact both (s_idx (snd a X ex G o g q1.1.2).1 (snd i X ex G s g q1.2).1 q1.1.1)
  | .sl a lo hi, X, ex, G, e, g, h => by
    obtain ⟨o, s, pos, rfl, q1⟩ := sbv_ok (k := fun o s => slv (fun l h => chk Z G a o && chkO Z G lo l && chkO Z G hi h) s) h
    obtain ⟨l, u, p, rfl, q2⟩ := slv_ok q1
    simp only [Bool.and_eq_true] at q2
    exact both (s_sl (snd a X ex G o g q2.1.1).1 (sndO lo X ex G l g q2.1.2) (sndO hi X ex G u g q2.2))
  | .call f es, X, ex, G, e, g, h => by
    obtain ⟨x, p, args, pos, rfl, q1⟩ := cnv_ok (k := fun x args => chkG Z G f x && Z.fnc G f && chks Z G es args) h
    simp only [Bool.and_eq_true] at q1
    exact both (s_call g q1.1.1 q1.1.2 q1.2 (snds es X ex G args g q1.2))
  | .bi f es, X, ex, G, e, g, h => by
    obtain ⟨x, p, args, pos, rfl, q1⟩ := cnv_ok (k := fun x args => x == biName f && G.glc (biNum f) && chks Z G es args && !args.isEmpty) h
    simp only [Bool.and_eq_true] at q1
    obtain ⟨a, args, rfl⟩ := neOf q1.2
    have e1 : x = biName f := eq_of_beq q1.1.1.1
    subst e1
    exact both (s_bi g q1.1.1.2 q1.1.2 (snds es X ex G _ g q1.1.2))
  | .isx a ns tb, X, ex, G, e, g, h => by
    obtain ⟨x, p, args, pos, rfl, q1⟩ := cnv_ok (k := fun x args => on2 (fun o y => x == "isinstance" && G.gl.contains 14 && notStar o && chkCl Z G ns y && tb.all (tbOk Z ns) && chk Z G a o) args) h
    obtain ⟨o, y, rfl, q2⟩ := on2_ok q1
    simp only [Bool.and_eq_true] at q2
    have e1 : x = "isinstance" := eq_of_beq q2.1.1.1.1.1
    subst e1
    exact both (s_isx g q2.1.1.1.1.2 q2.1.1.1.2 q2.1.1.2 q2.1.2 (snd a X ex G o g q2.2).1)
  | .isi a k, X, ex, G, e, g, h => by
    obtain ⟨x, p, args, pos, rfl, q1⟩ := cnv_ok (k := fun x args => on2 (fun o y => x == "isinstance" && G.gl.contains 14 && nmv (fun y => y == kdName k) y && G.gl.contains (kdNum k) && notStar o && chk Z G a o) args) h
    obtain ⟨o, y, rfl, q2⟩ := on2_ok q1
    simp only [Bool.and_eq_true] at q2
    have e1 : x = "isinstance" := eq_of_beq q2.1.1.1.1.1
    obtain ⟨z, p', rfl, hz⟩ := nmv_ok q2.1.1.1.2
    have e2 : z = kdName k := eq_of_beq hz
    subst e1 e2
    exact both (s_isi g q2.1.1.1.1.2 q2.1.1.2 q2.1.2 (snd a X ex G o g q2.2).1)
  | .mth m o es, X, ex, G, e, g, h => by
    obtain ⟨f, args, pos, rfl, q1⟩ := clv_ok (k := fun f args cpos => atv (fun oe name apos => name == mtName m && notCall0 oe && apos.endLine == cpos.line && decide (args.length < 29) && !args.isEmpty && chk Z G o oe && chks Z G es args) f) h
    obtain ⟨oe, name, apos, rfl, q2⟩ := atv_ok q1
    simp only [Bool.and_eq_true] at q2
    have e1 : name = mtName m := eq_of_beq q2.1.1.1.1.1.1
    obtain ⟨a, args, rfl⟩ := neOf q2.1.1.2
    subst e1
    exact both (s_mth g q2.1.1.1.1.1.2 q2.1.1.1.1.2 (of_decide_eq_true q2.1.1.1.2) q2.2 (snd o X ex G oe g q2.1.2).1 (snds es X ex G _ g q2.2))
  | .comp G' fr tg src ifs elt, X, ex, G, e, g, h => by
    obtain ⟨el, gens, scope, pos, rfl, q1⟩ := lcv_ok (k := fun el gens scope => gen1 gens fun t it fs => chkScope Z G scope G' fr && chkT G' tg t && (tgs tg).all (fun i => decide (fr.length ≤ i)) && chkSr Z G src it && chks Z G' ifs fs && chk Z G' elt el) h
    obtain ⟨t, it, fs, rfl, q2⟩ := gen1_ok q1
    simp only [Bool.and_eq_true] at q2
    exact both (s_comp (c_comp g (scOk_of q2.1.1.1.1.1) q2.1.1.1.1.2 (fun i hi => of_decide_eq_true (List.all_eq_true.mp q2.1.1.1.2 i hi)) (sndS src X ex G it t g q2.1.1.2)
      (fun X' g' => sndT ifs X' nox G' fs g' q2.1.2) (fun X' g' => (snd elt X' nox G' el g' q2.2).1) (fun x => folded_src q2.1.1.2 X.env x)))
theorem snds : ∀ (as : List IR) (X : Cx) (ex : Str → Prop) (G : Gm) (l : List Expr), GOk Z CX cl xp X ex G → chks Z G as l = true → PA X l (RA X.K ex (varss as) (evRs cl as))
  | [], X, ex, G, l, g, h => by
    cases l with
    | nil => exact paMono pa_nil fun σ H Q ⟨S, τ, hs, q⟩ => q.ok _ _ (.refl _) .nil
    | cons _ _ => exact no_h h
  | a :: as, X, ex, G, l, g, h => by
    cases l with
    | nil => exact no_h h
    | cons e l =>
      have h' : (notStar e && chk Z G a e && chks Z G as l) = true := h
      simp only [Bool.and_eq_true] at h'
      refine paMono (pa_cons (snd a X ex G e g h'.1.2).1 (snds as X ex G l g h'.2) (star_cons h'.1.1 _ _)) fun σ H Q ⟨S, τ, hs, q⟩ => ?_
      refine rdAt (.refl _) hs.left (PO'.bnd q) fun x v H1 e1 _ m1 q1 => ?_
      refine raAt e1 hs.right (PO'.bnd q1) fun ds vs H2 e2 e2' m2 q2 => ?_
      exact q2.ok _ _ e2 (.cons (m1.later e2') m2)
theorem sndO : ∀ (o : Option IR) (X : Cx) (ex : Str → Prop) (G : Gm) (e : Option Expr), GOk Z CX cl xp X ex G → chkO Z G o e = true → PO X e (ROp X.K ex (varsO o) (evRO cl o))
  | none, X, ex, G, e, g, h => by
    cases e with
    | none =>
      intro pins s σ H Q I ⟨S, τ, hs, q⟩
      exact po_none pins s σ H Q I (q.ok H (.refl _))
    | some _ => exact no_h h
  | some a, X, ex, G, e, g, h => by
    cases e with
    | none => exact no_h h
    | some e =>
      intro pins s σ H Q I ⟨S, τ, hs, q⟩
      refine po_some (snd a X ex G e g h).1 pins s σ H Q I ?_
      refine rdAt (.refl _) hs (PO'.bnd q) fun x v H1 e1 _ m1 q1 => ?_
      cases x with
      | int i => cases m1.intR; exact ⟨i, rfl, q1.ok _ e1⟩
      | _ => exact q1.no.elim
theorem sndT : ∀ (as : List IR) (X : Cx) (ex : Str → Prop) (G : Gm) (l : List Expr), GOk Z CX cl xp X ex G → chks Z G as l = true → PTs X l (RT X.K ex (varss as) (evTs cl as))
  | [], X, ex, G, l, g, h => by
    cases l with
    | nil => intro pins s σ H Q I ⟨S, τ, hs, q⟩; exact pts_nil pins s σ H Q I (q.ok H (.refl _))
    | cons _ _ => exact no_h h
  | a :: as, X, ex, G, l, g, h => by
    cases l with
    | nil => exact no_h h
    | cons e l =>
      have h' : (notStar e && chk Z G a e && chks Z G as l) = true := h
      simp only [Bool.and_eq_true] at h'
      intro pins s σ H Q I ⟨S, τ, hs, q⟩
      refine pts_cons (snd a X ex G e g h'.1.2).2 (sndT as X ex G l g h'.2) pins s σ H Q I ?_
      refine rtAt (.refl _) hs.left (PO'.bnd q) fun r H2 e2 _ k => ?_
      cases r with
      | true => rw [if_pos rfl] at k ⊢; exact rtAt e2 hs.right k fun b H3 e3 _ z => z H3 e3
      | false => rw [if_neg Bool.false_ne_true] at k ⊢; exact k.ok H2 e2
theorem sndS : ∀ (s : Sr) (X : Cx) (ex : Str → Prop) (G : Gm) (e tg : Expr), GOk Z CX cl xp X ex G → chkSr Z G s e = true → PI X tg e (RI X.K ex (varsS s) (evSr cl s))
  | .rng1 n, X, ex, G, e, tg, g, h => by
    obtain ⟨x, p, args, pos, rfl, q1⟩ := cnv_ok (k := fun x args => on1 (fun a => x == "range" && G.gl.contains 15 && notStar a && chk Z G n a) args) h
    obtain ⟨a, rfl, q2⟩ := on1_ok q1
    simp only [Bool.and_eq_true] at q2
    have e1 : x = "range" := eq_of_beq q2.1.1.1
    subst e1
    exact i_rng1 g q2.1.1.2 q2.1.2 (snd n X ex G a g q2.2).1
  | .rng2 a b, X, ex, G, e, tg, g, h => by
    obtain ⟨x, p, args, pos, rfl, q1⟩ := cnv_ok (k := fun x args => on2 (fun l r => x == "range" && G.gl.contains 15 && notStar l && notStar r && chk Z G a l && chk Z G b r) args) h
    obtain ⟨l, r, rfl, q2⟩ := on2_ok q1
    simp only [Bool.and_eq_true] at q2
    have e1 : x = "range" := eq_of_beq q2.1.1.1.1.1
    subst e1
    exact i_rng2 g q2.1.1.1.1.2 q2.1.1.1.2 q2.1.1.2 (snd a X ex G l g q2.1.2).1 (snd b X ex G r g q2.2).1
  | .val a, X, ex, G, e, tg, g, h => i_val (snd a X ex G e g h).1
end
end
end L2
namespace L2
open PySem PySem.Spec PyProof.Rows PySem.SeqAt
inductive Rps (K : PySem.W.Frag) (F : Addr → Prop) (H : Hp) : St → Ev → List Addr → Prop where
  | nil : Rps K F H [] [] []
  | none {o : Option V} {σ : St} {τ : Ev} {f : List Addr} : Rps K F H σ τ f → Rps K F H (o :: σ) (.none :: τ) f
  | some {v : V} {d : D} {f : List Addr} {σ : St} {τ : Ev} {g : List Addr} : MRep K F H v d f → Rps K F H σ τ g → Rps K F H (.some v :: σ) (.some d :: τ) (f ++ g)
section
variable {K : PySem.W.Frag} {F F' : Addr → Prop} {H H' : Hp} {σ : St} {τ : Ev} {f : List Addr}
theorem Rps.len {σ : St} {τ : Ev} {f : List Addr} (h : Rps K F H σ τ f) : σ.length = τ.length := by
  induction h with
  | nil => rfl
  | none _ ih => exact congrArg (· + 1) ih
  | some _ _ ih => exact congrArg (· + 1) ih
theorem Rps.step (hl : ∀ a xs, F a → Rd H a (.lst xs) → F' a ∧ Rd H' a (.lst xs)) (ht : ∀ a xs, SqE K H a xs → SqE K H' a xs) {σ : St} {τ : Ev} {f : List Addr} (k : ∀ a ∈ f, ¬ F a → H a ≠ Option.none → ¬ F' a ∧ H' a = H a) (h : Rps K F H σ τ f) : Rps K F' H' σ τ f := by
  induction h with
  | nil => exact .nil
  | none _ ih => exact .none (ih k)
  | some m _ ih => exact .some (m.step hl ht fun a ha => k a (List.mem_append_left _ ha)) (ih fun a ha => k a (List.mem_append_right _ ha))
theorem Rps.own {σ : St} {τ : Ev} {f : List Addr} (h : Rps K F H σ τ f) : ∀ a ∈ f, ¬ F a ∧ ∃ xs, H a = .some (.lst xs) := by
  induction h with
  | nil => exact nilF
  | none _ ih => exact ih
  | some m _ ih => exact ownA m.own ih
theorem slotD_cons {o : Option D} {τ : Ev} {i : Nat} : slotD (o :: τ) (i + 1) = slotD τ i := by unfold slotD; simp
theorem slotD_zero {o : Option D} {τ : Ev} : slotD (o :: τ) 0 = o := by unfold slotD; simp
theorem Rps.at {σ : St} {τ : Ev} {f : List Addr} {i : Nat} {d : D} (h : Rps K F H σ τ f) (e : slotD τ i = .some d) : ∃ v fv g, σ[i]? = .some (.some v) ∧ MRep K F H v d fv ∧ Rps K F H σ (τ.set i .none) g ∧ f.Perm (fv ++ g) := by
  induction h generalizing i with
  | nil => simp [slotD] at e
  | none h' ih =>
    cases i with
    | zero => rw [slotD_zero] at e; cases e
    | succ i =>
      rw [slotD_cons] at e
      obtain ⟨v, fv, g, h1, h2, h3, h4⟩ := ih e
      exact ⟨v, fv, g, h1, h2, .none h3, h4⟩
  | @some _ _ f0 _ _ _ m h' ih =>
    cases i with
    | zero =>
      rw [slotD_zero] at e
      cases e
      exact ⟨_, _, _, rfl, m, .none h', .refl _⟩
    | succ i =>
      rw [slotD_cons] at e
      obtain ⟨v, fv, g, h1, h2, h3, h4⟩ := ih e
      refine ⟨v, fv, f0 ++ g, h1, h2, .some m h3, (List.Perm.append_left f0 h4).trans ?_⟩
      rw [← List.append_assoc, ← List.append_assoc]
      exact List.Perm.append_right g List.perm_append_comm
theorem Rps.put {σ : St} {τ : Ev} {f : List Addr} (i : Nat) {v : V} {d : D} {fv : List Addr} (h : Rps K F H σ τ f) (m : MRep K F H v d fv) : ∃ g h, Rps K F H (σ.set i (.some v)) (τ.set i (.some d)) g ∧ (g ++ h).Perm (fv ++ f) := by
  induction h generalizing i with
  | nil => exact ⟨[], _, .nil, .refl _⟩
  | none h ih =>
    cases i with
    | zero => exact ⟨_, [], .some m h, by rw [List.append_nil]⟩
    | succ i =>
      obtain ⟨g, h', h1, h2⟩ := ih i
      exact ⟨g, h', .none h1, h2⟩
  | @some _ _ f0 _ _ g0 m' h ih =>
    cases i with
    | zero => exact ⟨_, f0, .some m h, by rw [List.append_assoc]; exact List.Perm.append_left _ List.perm_append_comm⟩
    | succ i =>
      obtain ⟨g, h', h1, h2⟩ := ih i
      refine ⟨f0 ++ g, h', .some m' h1, ?_⟩
      rw [List.append_assoc]
      refine (List.Perm.append_left f0 h2).trans ?_
      rw [← List.append_assoc, ← List.append_assoc]
      exact List.Perm.append_right g0 List.perm_append_comm
theorem Rps.slots {S : Addr → Prop} {is : List Nat} (h : Rps K F H σ τ f) (hF : ∀ a, F a → S a) (hf : ∀ a ∈ f, S a) : Slots K S H σ τ is := fun i hi d z => by
  obtain ⟨v, fv, g, h1, h2, h3, h4⟩ := h.at z
  exact ⟨v, h1, h2.read hF fun a ha => hf a (h4.mem_iff.mpr (List.mem_append_left _ ha))⟩
theorem Rps.freeze (is : List Nat) {σ : St} {τ : Ev} {f : List Addr} (k : Nat) (h : Rps K F H σ τ f) : ∃ fi g, f.Perm (fi ++ g) ∧ (∀ F' : Addr → Prop, (∀ a, F a → F' a) → (∀ a ∈ fi, F' a) → (∀ a ∈ g, ¬ F a → ¬ F' a) → Rps K F' H σ (frzA is k τ) g) ∧
    ∀ F' : Addr → Prop, (∀ a, F a → F' a) → (∀ a ∈ fi, F' a) → ∀ i, is.contains (k + i) = true → ∀ d, slotD τ i = .some d → ∃ v, σ[i]? = .some (.some v) ∧ HRep K F' H v d := by
  induction h generalizing k with
  | nil => exact ⟨[], [], .refl _, fun _ _ _ _ => .nil, fun _ _ _ i _ d z => by simp [slotD] at z⟩
  | none h ih =>
    obtain ⟨fi, g, h1, h2, h3⟩ := ih (k + 1)
    refine ⟨fi, g, h1, fun F' a b c => ?_, fun F' a b i hi d z => ?_⟩
    · unfold frzA
      have e : (if is.contains k = true then Option.map er (Option.none : Option D) else Option.none) = Option.none := by split <;> rfl
      rw [e]
      exact .none (h2 F' a b c)
    · cases i with
      | zero => rw [slotD_zero] at z; cases z
      | succ i =>
        rw [slotD_cons] at z
        obtain ⟨v, q1, q2⟩ := h3 F' a b i (by rw [show k + 1 + i = k + (i + 1) by omega]; exact hi) d z
        exact ⟨v, by simpa using q1, q2⟩
  | @some v d0 f0 _ _ g0 m h ih =>
    obtain ⟨fi, g, h1, h2, h3⟩ := ih (k + 1)
    by_cases hc : is.contains k = true
    · refine ⟨f0 ++ fi, g, by rw [List.append_assoc]; exact List.Perm.append_left _ h1, fun F' a b c => ?_, fun F' a b i hi d z => ?_⟩
      · unfold frzA
        rw [if_pos hc]
        exact .some (f := []) ((m.read a fun x hx => b x (List.mem_append_left _ hx)).frozen) (h2 F' a (fun x hx => b x (List.mem_append_right _ hx)) c)
      · cases i with
        | zero =>
          rw [slotD_zero] at z
          cases z
          exact ⟨v, rfl, m.read a fun x hx => b x (List.mem_append_left _ hx)⟩
        | succ i =>
          rw [slotD_cons] at z
          obtain ⟨v, q1, q2⟩ := h3 F' a (fun x hx => b x (List.mem_append_right _ hx)) i (by rw [show k + 1 + i = k + (i + 1) by omega]; exact hi) d z
          exact ⟨v, by simpa using q1, q2⟩
    · refine ⟨fi, f0 ++ g, ?_, fun F' a b c => ?_, fun F' a b i hi d z => ?_⟩
      · refine (List.Perm.append_left f0 h1).trans ?_
        rw [← List.append_assoc, ← List.append_assoc]
        exact List.Perm.append_right g List.perm_append_comm
      · unfold frzA
        rw [if_neg hc]
        exact .some (m.step (fun x xs q r => ⟨a x q, r⟩) (fun x xs q => q) fun x hx n _ => ⟨c x (List.mem_append_left _ hx) n, rfl⟩) (h2 F' a b fun x hx => c x (List.mem_append_right _ hx))
      · cases i with
        | zero => exact absurd hi hc
        | succ i =>
          rw [slotD_cons] at z
          obtain ⟨v, q1, q2⟩ := h3 F' a b i (by rw [show k + 1 + i = k + (i + 1) by omega]; exact hi) d z
          exact ⟨v, by simpa using q1, q2⟩
end
structure Stp (F : Addr → Prop) (H : Hp) (f : List Addr) (F' : Addr → Prop) (H' : Hp) : Prop where
  same : Same H H'
  inn : ∀ a, F a → F' a
  out : ∀ a, F' a → F a ∨ a ∈ f ∨ H a = none
structure Ow (K : PySem.W.Frag) (F : Addr → Prop) (H : Hp) (f : List Addr) (F' : Addr → Prop) (H' : Hp) (σ : St) (v : V) (d : D) (fv : List Addr) (τ' : Ev) (f' : List Addr) : Prop where
  stp : Stp F H f F' H'
  fok : FOk F' H'
  rep : MRep K F' H' v d fv
  rps : Rps K F' H' σ τ' f'
  nod : (fv ++ f').Nodup
  mem : ∀ a ∈ fv ++ f', a ∈ f ∨ H a = none
structure Ows (K : PySem.W.Frag) (F : Addr → Prop) (H : Hp) (f : List Addr) (F' : Addr → Prop) (H' : Hp) (σ : St) (v : List V) (d : List D) (fv : List Addr) (τ' : Ev) (f' : List Addr) : Prop where
  stp : Stp F H f F' H'
  fok : FOk F' H'
  rep : MReps K F' H' v d fv
  rps : Rps K F' H' σ τ' f'
  nod : (fv ++ f').Nodup
  mem : ∀ a ∈ fv ++ f', a ∈ f ∨ H a = none
section
variable {K : PySem.W.Frag} {F F' F'' : Addr → Prop} {H H' H'' : Hp} {f f' : List Addr}
theorem Stp.refl : Stp F H f F H := ⟨.refl _, fun _ h => h, fun _ h => .inl h⟩
theorem Stp.trans (a : Stp F H f F' H') (b : Stp F' H' f' F'' H'') (hf : ∀ x ∈ f', x ∈ f ∨ H x = none) : Stp F H f F'' H'' := ⟨a.same.trans b.same, fun x h => b.inn x (a.inn x h), fun x h => by
  rcases b.out x h with h | h | h
  · exact a.out x h
  · rcases hf x h with h | h
    · exact .inr (.inl h)
    · exact .inr (.inr h)
  · exact .inr (.inr (a.same.free h))⟩
theorem MRep.stp {v : V} {d : D} {fv : List Addr} (m : MRep K F H v d fv) (s : Stp F H f F' H') (h : ∀ a ∈ fv, a ∉ f) : MRep K F' H' v d fv :=
  m.step (fun a xs q r => ⟨s.inn a q, s.same.rd r⟩) (fun a xs q => s.same.seqT q) fun a ha n hn => by
    obtain ⟨_, xs, e⟩ := m.own a ha
    refine ⟨fun z => ?_, (s.same _ _ e).trans e.symm⟩
    rcases s.out a z with z | z | z
    · exact n z
    · exact h a ha z
    · exact hn z
theorem MReps.stp {v : List V} {d : List D} {fv : List Addr} (m : MReps K F H v d fv) (s : Stp F H f F' H') (h : ∀ a ∈ fv, a ∉ f) : MReps K F' H' v d fv :=
  m.step (fun a xs q r => ⟨s.inn a q, s.same.rd r⟩) (fun a xs q => s.same.seqT q) fun a ha n hn => by
    obtain ⟨_, xs, e⟩ := m.own a ha
    refine ⟨fun z => ?_, (s.same _ _ e).trans e.symm⟩
    rcases s.out a z with z | z | z
    · exact n z
    · exact h a ha z
    · exact hn z
end
end L2
namespace L2
open PySem PySem.Spec PyProof.Rows PySem.SeqAt
noncomputable def RO (K : PySem.W.Frag) (ex : Str → Prop) (g : Ev → Res (D × Ev)) : TE := fun σ H Q => ∃ F τ f, FOk F H ∧ Rps K F H σ τ f ∧ f.Nodup ∧ PO' ex (g τ) fun p => ∀ v H' F' fv f', Ow K F H f F' H' σ v p.1 fv p.2 f' → Q v H'
noncomputable def ROs (K : PySem.W.Frag) (ex : Str → Prop) (g : Ev → Res (List D × Ev)) : TA := fun σ H Q => ∃ F τ f, FOk F H ∧ Rps K F H σ τ f ∧ f.Nodup ∧ PO' ex (g τ) fun p => ∀ v H' F' fv f', Ows K F H f F' H' σ v p.1 fv p.2 f' → Q v H'
section
variable {K : PySem.W.Frag} {F F' : Addr → Prop} {H H' : Hp} {σ : St} {τ : Ev} {f : List Addr} {ex : Str → Prop} {S : Addr → Prop}
theorem newN {vs ws : List V} {ds : List D} {p : Addr} {H2 : Hp} (m : HReps K (nw S H) H2 vs ds) (hp : H2 p = none) : HReps K (fun a => nw S H a ∧ a ≠ p) (upd H2 p (.lst ws)) vs ds :=
  m.step (fun a xs h r => by
    have hne : a ≠ p := fun z => r.some (by rw [z]; exact hp)
    refine ⟨⟨h, hne⟩, ?_⟩
    unfold Rd
    rw [upd_ne hne]
    exact r) fun a xs h => (Same.upd hp).seqT h
theorem grow (P : Addr → Prop) (fok : FOk F H) (r : Rps K F H σ τ f) (e : Same H H') :
    FOk (fun a => F a ∨ (P a ∧ H a = none ∧ H' a ≠ none)) H' ∧ Rps K (fun a => F a ∨ (P a ∧ H a = none ∧ H' a ≠ none)) H' σ τ f ∧ Stp F H f (fun a => F a ∨ (P a ∧ H a = none ∧ H' a ≠ none)) H' := by
  refine ⟨fun a h => ?_, r.step (fun a xs q rd => ⟨.inl q, e.rd rd⟩) (fun a xs q => e.seqT q) fun a ha n hn => ⟨fun z => ?_, ?_⟩, ⟨e, fun a h => .inl h, fun a h => ?_⟩⟩
  · rcases h with h | h
    · intro z
      exact fok a h (e.free z)
    · exact h.2.2
  · rcases z with z | z
    · exact n z
    · exact hn z.2.1
  · obtain ⟨_, xs, q⟩ := r.own a ha
    exact (e _ _ q).trans q.symm
  · rcases h with h | h
    · exact .inl h
    · exact .inr (.inr h.2.1)
theorem grow0 (fok : FOk F H) (r : Rps K F H σ τ f) (e : Same H H') : FOk F H' ∧ Rps K F H' σ τ f ∧ Stp F H f F H' := by
  refine ⟨fun a h z => fok a h (e.free z), r.step (fun a xs q rd => ⟨q, e.rd rd⟩) (fun a xs q => e.seqT q) fun a ha n hn => ⟨n, ?_⟩, ⟨e, fun a h => h, fun a h => .inl h⟩⟩
  obtain ⟨_, xs, q⟩ := r.own a ha
  exact (e _ _ q).trans q.symm
theorem freeze1 (is : List Nat) (fok : FOk F H) (r : Rps K F H σ τ f) (nd : f.Nodup) : ∃ F1 g, FOk F1 H ∧ Rps K F1 H σ (frz is τ) g ∧ g.Nodup ∧ Stp F H f F1 H ∧ (∀ a ∈ g, a ∈ f) ∧ Slots K F1 H σ τ is := by
  obtain ⟨fi, g, h1, h2, h3⟩ := r.freeze is 0
  have nd' : (fi ++ g).Nodup := h1.nodup_iff.mp nd
  have dis : ∀ a ∈ g, a ∉ fi := fun a ha hb => (List.nodup_append.mp nd').2.2 a hb a ha rfl
  have inF : ∀ a ∈ fi, a ∈ f := fun a ha => h1.mem_iff.mpr (List.mem_append_left _ ha)
  have inG : ∀ a ∈ g, a ∈ f := fun a ha => h1.mem_iff.mpr (List.mem_append_right _ ha)
  refine ⟨fun a => F a ∨ a ∈ fi, g, fun a h => ?_, h2 _ (fun a h => .inl h) (fun a h => .inr h) (fun a ha n z => ?_), (List.nodup_append.mp nd').2.1, ⟨.refl _, fun a h => .inl h, fun a h => ?_⟩, inG, fun i hi d z => ?_⟩
  · rcases h with h | h
    · exact fok a h
    · obtain ⟨_, xs, q⟩ := r.own a (inF a h)
      rw [q]; simp
  · rcases z with z | z
    · exact n z
    · exact dis a ha z
  · rcases h with h | h
    · exact .inl h
    · exact .inr (.inl (inF a h))
  · exact h3 _ (fun a h => .inl h) (fun a h => .inr h) i (by simpa using hi) d z
theorem all_slots {is : List Nat} (r : Rps K F H σ τ f) : Slots K (fun _ => True) H σ τ is := r.slots (fun _ _ => trivial) fun _ _ => trivial
theorem HRep.fix {v : V} {d : D} (m : HRep K (L2.nw F H) H' v d) : HRep K (fun a => F a ∨ (True ∧ H a = none ∧ H' a ≠ none)) H' v d := m.step (fun a xs h r => ⟨h.elim (fun z => .inl z) fun z => .inr ⟨trivial, z, r.some⟩, r⟩) fun a xs h => h
end
section
variable {X : Cx} {ex : Str → Prop} {cl : Nat → List D → Res D}
theorem o_v {i : Nat} {e : Expr} (he : PE X e (tVar i)) (mv : Bool) : PE X e (RO X.K ex (evO cl mv (.v i))) := by
  refine peMono he fun σ H Q ⟨F, τ, f, fok, r, nd, q⟩ => ?_
  rw [evO_v] at q
  cases z : slotD τ i with
  | none => rw [z] at q; exact q.no.elim
  | some d =>
    rw [z] at q
    obtain ⟨v, fv, g, h1, h2, h3, h4⟩ := r.at z
    have nd' : (fv ++ g).Nodup := h4.nodup_iff.mp nd
    cases mv with
    | true =>
      have q' := (show PO' ex (.ok (d, τ.set i none) : Res (D × Ev)) _ from q).ok
      exact ⟨v, h1, q' v H F fv g ⟨.refl, fok, h2, h3, nd', fun a ha => .inl (h4.mem_iff.mpr ha)⟩⟩
    | false =>
      have q' := (show PO' ex (.ok (er d, τ.set i (some (er d))) : Res (D × Ev)) _ from q).ok
      have dis : ∀ a ∈ g, a ∉ fv := fun a ha hb => (List.nodup_append.mp nd').2.2 a hb a ha rfl
      have m1 : MRep X.K (fun a => F a ∨ a ∈ fv) H v (er d) [] := (h2.read (fun a h => .inl h) (fun a h => .inr h)).frozen
      have r1 : Rps X.K (fun a => F a ∨ a ∈ fv) H σ (τ.set i none) g := h3.step (fun a xs h r => ⟨.inl h, r⟩) (fun a xs h => h) fun a ha n _ => ⟨fun z => z.elim n (dis a ha), rfl⟩
      obtain ⟨g', h', r2, p2⟩ := r1.put i m1
      have hσ : σ.set i (some v) = σ := by
        apply List.ext_getElem?
        intro j
        rw [List.getElem?_set]
        by_cases hj : i = j
        · subst hj
          have hlt : i < σ.length := (List.getElem?_eq_some_iff.mp h1).1
          rw [if_pos rfl, if_pos hlt, h1]
        · rw [if_neg hj]
      rw [hσ, List.set_set] at r2
      rw [List.nil_append] at p2
      have nd2 : (g' ++ h').Nodup := p2.nodup_iff.mpr (List.nodup_append.mp nd').2.1
      refine ⟨v, h1, q' v H _ [] g' ⟨⟨.refl _, fun a h => .inl h, fun a h => ?_⟩, fun a h => ?_, m1, r2, (List.nodup_append.mp nd2).1, fun a ha => ?_⟩⟩
      · exact h.elim (fun z => .inl z) fun z => .inr (.inl (h4.mem_iff.mpr (List.mem_append_left _ z)))
      · rcases h with h | h
        · exact fok a h
        · obtain ⟨_, xs, e⟩ := h2.own a h
          rw [e]; simp
      · have : a ∈ g := p2.mem_iff.mp (List.mem_append_left _ (by simpa using ha))
        exact .inl (h4.mem_iff.mpr (List.mem_append_right _ this))
theorem o_tup {l : List Expr} {n : Nat} {pos : Pos} {g : Ev → Res (List D × Ev)} (h : PA X l (ROs X.K ex g)) : PE X (.Tuple l n pos) (RO X.K ex fun τ => bnd (g τ) fun p => grd (szOk p.1.length) (.ok (.tup p.1, p.2))) := by
  refine peMono (pe_tup h) fun σ H Q ⟨F, τ, f, fok, r, nd, q⟩ => ⟨F, τ, f, fok, r, nd, (PO'.bnd q).mono fun p hp vs H1 F1 fv f1 o => ?_⟩
  obtain ⟨gd, hp⟩ := PO'.grd hp
  refine ⟨by rw [o.rep.length]; exact szOk_le gd, fun p' hp' => hp.ok _ _ F1 fv f1 ?_⟩
  have e : Same H1 (upd H1 p' (.tup vs)) := .upd hp'
  obtain ⟨k1, k2, k3⟩ := grow0 o.fok o.rps e
  refine ⟨o.stp.trans k3 (fun x hx => o.mem x (List.mem_append_right _ hx)), k1, .tup (.inl (.inl upd_same)) (o.rep.stp k3 fun a ha hb => (List.nodup_append.mp o.nod).2.2 a ha a hb rfl), k2, o.nod, o.mem⟩
theorem o_lst {l : List Expr} {pos : Pos} {g : Ev → Res (List D × Ev)} (h : PA X l (ROs X.K ex g)) : PE X (.List l pos) (RO X.K ex fun τ => bnd (g τ) fun p => grd (szOk p.1.length) (.ok (.lst true p.1, p.2))) := by
  refine peMono (pe_lst h) fun σ H Q ⟨F, τ, f, fok, r, nd, q⟩ => ⟨F, τ, f, fok, r, nd, (PO'.bnd q).mono fun p hp vs H1 F1 fv f1 o => ?_⟩
  obtain ⟨gd, hp⟩ := PO'.grd hp
  refine ⟨by rw [o.rep.length]; exact szOk_le gd, fun p' hp' => hp.ok _ _ F1 (p' :: fv) f1 ?_⟩
  have e : Same H1 (upd H1 p' (.lst vs)) := .upd hp'
  obtain ⟨k1, k2, k3⟩ := grow0 o.fok o.rps e
  refine ⟨o.stp.trans k3 (fun x hx => o.mem x (List.mem_append_right _ hx)), k1, .lstO (fun z => o.fok _ z hp') upd_same (o.rep.stp k3 fun a ha hb => (List.nodup_append.mp o.nod).2.2 a ha a hb rfl), k2, ?_, fun a ha => ?_⟩
  · rw [List.cons_append, List.nodup_cons]
    refine ⟨fun z => ?_, o.nod⟩
    rcases List.mem_append.mp z with z | z
    · obtain ⟨_, xs, e⟩ := o.rep.own _ z
      rw [hp'] at e; cases e
    · obtain ⟨_, xs, e⟩ := o.rps.own _ z
      rw [hp'] at e; cases e
  · rw [List.cons_append] at ha
    rcases List.mem_cons.mp ha with rfl | ha
    · exact .inr (o.stp.same.free hp')
    · exact o.mem a ha
theorem os_nil : PA X [] (ROs X.K ex fun τ => .ok ([], τ)) := paMono pa_nil fun σ H Q ⟨F, τ, f, fok, r, nd, q⟩ => q.ok [] H F [] f ⟨.refl, fok, .nil, r, nd, fun a ha => .inl ha⟩
theorem os_cons {e : Expr} {l : List Expr} {ga : Ev → Res (D × Ev)} {gs : Ev → Res (List D × Ev)} (hn : notStar e = true) (ha : PE X e (RO X.K ex ga)) (hr : PA X l (ROs X.K ex gs)) :
    PA X (e :: l) (ROs X.K ex fun τ => bnd (ga τ) fun p => bnd (gs p.2) fun q => .ok (p.1 :: q.1, q.2)) := by
  refine paMono (pa_cons ha hr (star_cons hn _ _)) fun σ H Q ⟨F, τ, f, fok, r, nd, q⟩ => ⟨F, τ, f, fok, r, nd, (PO'.bnd q).mono fun p hp v H1 F1 fv f1 o => ?_⟩
  refine ⟨F1, p.2, f1, o.fok, o.rps, (List.nodup_append.mp o.nod).2.1, (PO'.bnd hp).mono fun p' hp' vs H2 F2 fvs f2 o2 => ?_⟩
  have dis : ∀ a ∈ fv, a ∉ f1 := fun a h1 h2 => (List.nodup_append.mp o.nod).2.2 a h1 a h2 rfl
  have m2 := o.rep.stp o2.stp dis
  refine hp'.ok (v :: vs) H2 F2 (fv ++ fvs) f2 ⟨o.stp.trans o2.stp (fun x hx => o.mem x (List.mem_append_right _ hx)), o2.fok, .cons m2 o2.rep, o2.rps, ?_, fun a ha => ?_⟩
  · rw [List.append_assoc]
    refine List.nodup_append.mpr ⟨(List.nodup_append.mp o.nod).1, o2.nod, fun a h1 b h2 e => ?_⟩
    subst e
    rcases o2.mem a h2 with z | z
    · exact dis a h1 z
    · obtain ⟨_, xs, e⟩ := o.rep.own a h1
      rw [z] at e; cases e
  · rw [List.append_assoc] at ha
    rcases List.mem_append.mp ha with ha | ha
    · exact o.mem a (List.mem_append_left _ ha)
    · rcases o2.mem a ha with z | z
      · exact o.mem a (List.mem_append_right _ z)
      · exact .inr (o.stp.same.free z)
end
end L2
namespace L2
open PySem PySem.Spec PyProof.Rows PySem.SeqAt
section
variable {Z : Sg} {CX : CXT} {cl : Nat → List D → Res D} {xp : XK → Hp → Str → Prop} {X : Cx} {ex : Str → Prop} {G : Gm}
noncomputable def spP (K : PySem.W.Frag) (ex : Str → Prop) (cl : Nat → List D → Res D) (f : Nat) (vs : List V) (H : Hp) (Q : VK) : Prop := ∃ F ds, FOk F H ∧ HReps K F H vs ds ∧ PO' ex (cl f (ers ds)) fun d => ∀ v H' F' fv, Out K F H F' H' v d fv → Q v H'
theorem pe_callO (g : GOk Z CX cl xp X ex G) {f : Nat} {x : Str} {p pos : Pos} {es : List IR} {args : List Expr} {t : TA} (h1 : chkG Z G f x = true) (h2 : Z.fnc G f = true) (hst : chks Z G es args = true) (h : PA X args t)
    (h0 : args = [] → ∀ σ H (Q : List V → Hp → Prop), t σ H Q → Q [] H) : PE X (.Call (.Name x p) args [] pos) (fun σ H Q => t σ H fun vs H1 => spP X.K ex cl f vs H1 Q) := by
  obtain ⟨k1, k2, k3, k4⟩ := gl_of g h1
  obtain ⟨k, fa', fd, ps, hm, hkp, hb, F, hr, hlen⟩ := (g.fns f (fnc_fn h2).1 (fnc_fn h2).2 x k2).ex
  obtain ⟨E, hP, hE⟩ := g.exs
  intro pins s σ H Q I q
  have fin : ∀ (us : List Value) (s1 : Shared) (vs : List V) (H1 : Hp), Inv X pins σ H1 s1 → Vals vs us → spP X.K ex cl f vs H1 Q → wpAny (model X.prog X.w) X.A (call (.ref fa') us) (EP X pins σ Q) X.xe s1 := by
    intro us s1 vs H1 I1 r ⟨Fc, ds, fok, m, q1⟩
    have hl := hlen ex _ _ q1
    rw [ers_length] at hl
    refine run_hid F hr hb hP g.hid I1 r (by rw [m.length]; exact hl) fok m ?_
    cases z : cl f (ers ds) with
    | error er =>
      rw [z] at q1
      cases er with
      | stuck => exact q1.no.elim
      | exc c => exact hE c _ q1
    | ok d =>
      rw [z] at q1
      exact q1.ok
  refine wpAny_Call_Name_kw (ld_glob I k1 hm ?_ k4)
  cases args with
  | nil =>
    cases es with
    | cons _ _ => cases hst
    | nil => exact PySem.W.callWith_K0 I.kIn hkp (fin [] s [] H I .nil (h0 rfl σ H _ q))
  | cons e l =>
    cases es with
    | nil => cases hst
    | cons a es =>
      have hst' : (notStar e && chk Z G a e && chks Z G es l) = true := hst
      simp only [Bool.and_eq_true] at hst'
      refine PySem.W.callWith_K (h₀ := X.base) I.ok.mod.kin hkp (thn (h pos pins s σ H _ I q) fun us s1 ⟨vs, H1, I1, r, q1⟩ => ⟨I1.kIn, ?_⟩) (star_cons hst'.1.1 l X.env) (star_none Z G (es := es) pos X.env hst'.2)
      exact fin us s1 vs H1 I1 r q1
theorem MRep.lfree_nil {K : PySem.W.Frag} {F F' : Addr → Prop} {H : Hp} {v : V} {d : D} {fv : List Addr} (m : MRep K F H v d fv) (n : lfree d = true) : MRep K F' H v d [] := (m.read (S := fun _ => True) (fun _ _ => trivial) fun _ _ => trivial).free n
theorem Rd.one {H : Hp} {a : Addr} {u v : List V} (h : Rd H a (.lst u)) (k : Rd H a (.lst v)) : u = v := by
  rcases h with h | ⟨o, h⟩ <;> rcases k with k | ⟨o', k⟩ <;> (rw [h] at k; cases k; try rfl)
theorem sh_l {b o : Bool} {ds : List D} (z : sh b (.lst o ds) = true) : (o || (b && ds.isEmpty)) = true ∧ shs b ds = true := Bool.and_eq_true_iff.mp (show ((o || (b && ds.isEmpty)) && shs b ds) = true from z)
theorem sh_c {b : Bool} {d : D} {ds : List D} (z : shs b (d :: ds) = true) : sh b d = true ∧ shs b ds = true := Bool.and_eq_true_iff.mp (show (sh b d && shs b ds) = true from z)
theorem ne_l {o : Bool} {ds : List D} (z : nes (.lst o ds) = true) : (!ds.isEmpty) = true ∧ ness ds = true := Bool.and_eq_true_iff.mp (show (!ds.isEmpty && ness ds) = true from z)
theorem ne_c {d : D} {ds : List D} (z : ness (d :: ds) = true) : nes d = true ∧ ness ds = true := Bool.and_eq_true_iff.mp (show (nes d && ness ds) = true from z)
section
variable {K : PySem.W.Frag} {F F' S : Addr → Prop} {H : Hp}
theorem MRep.sift {b : Bool} {v : V} {d : D} {f : List Addr} (h : MRep K F H v d f) (hb : sh b d = true) (k : b = true → ∀ a, F a → Rd H a (.lst []) → F' a) (hs : ∀ a, F' a → F a) : MRep K F' H v d f := by
  refine MRep.rec (motive_1 := fun v d f _ => sh b d = true → MRep K F' H v d f) (motive_2 := fun v d f _ => shs b d = true → MReps K F' H v d f) (fun _ => .non) (fun x _ => .bl x) (fun x _ => .int x) (fun x _ => .str x) (fun h _ => .exc h) (fun h1 _ i z => .tup h1 (i z))
    (fun {a xs ds} h0 h1 m i z => ?_) (fun h1 _ i z => .lstK h1 (i (sh_l z).2)) (fun h0 h1 _ i z => .lstO (fun y => h0 (hs _ y)) h1 (i (sh_l z).2)) (fun _ => .nil) (fun _ _ i j z => .cons (i (sh_c z).1) (j (sh_c z).2)) h hb
  have z1 := Bool.and_eq_true_iff.mp (show (b && ds.isEmpty) = true from (sh_l z).1)
  have hl : xs.length = ds.length := MReps.ind (P := fun v d _ => v.length = d.length) rfl (fun _ _ _ _ _ _ _ _ j => congrArg (· + 1) j) m
  cases ds with
  | cons _ _ => exact no_h z1.2
  | nil =>
    cases xs with
    | cons _ _ => cases hl
    | nil => exact .lstS (k z1.1 a h0 h1) h1 .nil
theorem HReps.ness {vs : List V} {ds : List D} (h : HReps K S H vs ds) (hn : L2.ness ds = true) : HReps K (fun a => S a ∧ ∃ x xs, Rd H a (.lst (x :: xs))) H vs ds := by
  refine HReps.rec (motive_1 := fun v d _ => nes d = true → HRep K (fun a => S a ∧ ∃ x xs, Rd H a (.lst (x :: xs))) H v d) (motive_2 := fun v d _ => L2.ness d = true → HReps K (fun a => S a ∧ ∃ x xs, Rd H a (.lst (x :: xs))) H v d)
    (fun _ => .non) (fun x _ => .bl x) (fun x _ => .int x) (fun x _ => .str x) (fun h _ => .exc h) (fun h1 _ i z => .tup h1 (i z)) (fun {a xs o ds} h0 h1 m i z => ?_) (fun h1 _ i z => .lstK h1 (i (ne_l z).2)) (fun _ => .nil) (fun _ _ i j z => .cons (i (ne_c z).1) (j (ne_c z).2)) h hn
  have z1 := ne_l z
  cases m with
  | nil => exact no_h z1.1
  | cons m1 m2 => exact .lst ⟨h0, _, _, h1⟩ h1 (i z1.2)
end
theorem o_call (g : GOk Z CX cl xp X ex G) {f : Nat} {x : Str} {p pos : Pos} {es : List IR} {args : List Expr} (h1 : chkG Z G f x = true) (h2 : Z.fnc G f = true) (hst : chks Z G es args = true) (mv : Bool) :
    PE X (.Call (.Name x p) args [] pos) (RO X.K ex (evO cl mv (.call f es))) := by
  have pa := snds es X ex G args g hst
  have pe := pe_callO (p := p) (pos := pos) g h1 h2 hst pa (fun e σ H Q ⟨S, τ, hs, q⟩ => by
    subst e
    cases es with
    | nil => exact q.ok [] H (.refl _) .nil
    | cons _ _ => cases hst)
  refine peMono pe fun σ H Q ⟨F, τ, fo, fok, r, nd, q⟩ => ?_
  have q' : PO' ex (bnd (evRs cl es τ) fun ds => bnd (cl f (ers ds)) fun d => if lfree d = true then .ok (d, τ) else if apartD d ds = true then .ok (d, τ) else .ok (d, frz (varss es) τ)) (fun p => ∀ v H' F' fv f', Ow X.K F H fo F' H' σ v p.1 fv p.2 f' → Q v H') := q
  -- read without giving up
  have borrow : (∀ ds, evRs cl es τ = .ok ds → PO' ex (cl f (ers ds)) fun d => lfree d = true ∧ ∀ v H' F' fv f', Ow X.K F H fo F' H' σ v d fv τ f' → Q v H') → PO' ex (evRs cl es τ) (fun _ => True) → RA X.K ex (varss es) (evRs cl es) σ H (fun vs H1 => spP X.K ex cl f vs H1 Q) := by
    intro hk hok
    refine raAt (.refl _) (all_slots r) hok.eq fun ds vs H1 e1 _ m1 q1 => ?_
    refine ⟨fun a => H1 a ≠ none, ds, fun a h => h, m1.step (fun a xs h rd => ⟨rd.some, rd⟩) fun a xs h => h, (hk ds q1.1).mono fun d hd v H' F' fv o => ?_⟩
    obtain ⟨k1, k2, k3⟩ := grow0 fok r (e1.trans o.same)
    exact hd.2 v H' F [] fo ⟨k3, k1, o.rep.lfree_nil hd.1, k2, by simpa using nd, fun a ha => .inl (by simpa using ha)⟩
  cases z : evRs cl es τ with
  | error er =>
    rw [z] at q'
    cases er with
    | stuck => exact q'.no.elim
    | exc c => exact borrow (fun ds h => by rw [z] at h; cases h) (by rw [z]; exact q')
  | ok ds =>
    rw [z] at q'
    have q1 : PO' ex (bnd (cl f (ers ds)) fun d => if lfree d = true then .ok (d, τ) else if apartD d ds = true then .ok (d, τ) else .ok (d, frz (varss es) τ)) (fun p => ∀ v H' F' fv f', Ow X.K F H fo F' H' σ v p.1 fv p.2 f' → Q v H') := q'
    cases zc : cl f (ers ds) with
    | error er =>
      rw [zc] at q1
      cases er with
      | stuck => exact q1.no.elim
      | exc c => exact borrow (fun ds' h => by rw [z] at h; cases h; rw [zc]; exact q1) (by rw [z]; trivial)
    | ok d =>
      rw [zc] at q1
      have q2 : PO' ex (if lfree d = true then .ok (d, τ) else if apartD d ds = true then .ok (d, τ) else .ok (d, frz (varss es) τ)) (fun p => ∀ v H' F' fv f', Ow X.K F H fo F' H' σ v p.1 fv p.2 f' → Q v H') := q1
      by_cases hl : lfree d = true
      · rw [if_pos hl] at q2
        exact borrow (fun ds' h => by rw [z] at h; cases h; rw [zc]; exact ⟨hl, q2.ok⟩) (by rw [z]; trivial)
      · rw [if_neg hl] at q2
        by_cases ha : apartD d ds = true
        · rw [if_pos ha] at q2
          have apart : ∀ (b : Bool) (Fc : Hp → Addr → Prop), sh b d = true → (∀ H1 a, Same H H1 → F a → Fc H1 a) → (∀ H1 a, Fc H1 a → H1 a ≠ none) → (∀ H1 vs, HReps X.K (fun _ => True) H1 vs ds → HReps X.K (Fc H1) H1 vs ds) →
              (b = true → ∀ H1 a, Fc H1 a → F a ∨ H a = none ∨ ∃ x xs, Rd H1 a (.lst (x :: xs))) → RA X.K ex (varss es) (evRs cl es) σ H (fun vs H1 => spP X.K ex cl f vs H1 Q) := by
            intro b Fc hb i1 i2 i3 i4
            refine raAt (Kt := fun ds' => ds' = ds) (.refl _) (all_slots r) (by rw [z]; rfl) fun ds' vs H1 e1 _ m1 e => ?_
            subst e
            refine ⟨Fc H1, ds', i2 H1, i3 H1 vs (m1.step (fun a xs h rd => ⟨trivial, rd⟩) fun a xs h => h), ?_⟩
            rw [zc]
            intro v H' F' fv o
            obtain ⟨k1, k2, k3⟩ := grow0 fok r (e1.trans o.same)
            have inF : ∀ a, F a → F' a ∧ (F a ∨ H a = none) := fun a h => ⟨o.inn a (i1 H1 a e1 h), .inl h⟩
            have noF : ∀ a ∈ fo, ¬ (F' a ∧ (F a ∨ H a = none)) := fun a ha z => by
              obtain ⟨n, xs, e⟩ := r.own a ha
              rcases z.2 with z | z
              · exact n z
              · rw [z] at e; cases e
            refine q2.ok v H' (fun a => F' a ∧ (F a ∨ H a = none)) fv fo ⟨⟨e1.trans o.same, inF, fun a h => h.2.elim .inl fun z => .inr (.inr z)⟩, fun a h => o.fok a h.1, o.rep.sift hb (fun h a hF rd => ⟨hF, ?_⟩) fun a h => h.1,
              k2.step (fun a xs q rd => ⟨inF a q, rd⟩) (fun a xs q => q) (fun a ha n hn => ⟨noF a ha, rfl⟩), ?_, fun a ha => ?_⟩
            · rcases o.out a hF with z | z
              · rcases i4 h H1 a z with z | z | ⟨x, xs, z⟩
                · exact .inl z
                · exact .inr z
                · exact absurd (Rd.one (o.same.rd z) rd) (by intro z; cases z)
              · exact .inr (e1.free z)
            · refine List.nodup_append.mpr ⟨o.nod, nd, fun a h1 b h2 e => ?_⟩
              subst e
              obtain ⟨_, xs, e⟩ := r.own a h2
              have := e1.free (o.new a h1)
              rw [this] at e; cases e
            · rcases List.mem_append.mp ha with ha | ha
              · exact .inr (e1.free (o.new a ha))
              · exact .inl ha
          have ne : ∀ H1 a, Same H H1 → F a → H1 a ≠ none := fun H1 a e h z => fok a h (e.free z)
          rw [show apartD d ds = (sh false d || (sh true d && ness ds)) from rfl, Bool.or_eq_true, Bool.and_eq_true] at ha
          rcases ha with ha | ⟨ha, hn⟩
          · exact apart false (fun H1 a => H1 a ≠ none) ha ne (fun _ _ h => h) (fun H1 vs m => m.step (fun a xs _ rd => ⟨rd.some, rd⟩) fun a xs h => h) fun h => nomatch h
          · exact apart true (fun H1 a => H1 a ≠ none ∧ (F a ∨ ∃ x xs, Rd H1 a (.lst (x :: xs)))) ha (fun H1 a e h => ⟨ne H1 a e h, .inl h⟩) (fun _ _ h => h.1) (fun H1 vs m => (m.ness hn).step (fun a xs h rd => ⟨⟨rd.some, .inr h.2⟩, rd⟩) fun a xs h => h) fun _ H1 a h => h.2.elim .inl fun z => .inr (.inr z)
        rw [if_neg ha] at q2
        obtain ⟨F1, gg, b1, b2, b3, b4, b5, b6⟩ := freeze1 (varss es) fok r nd
        refine raAt (Kt := fun ds' => ds' = ds) (.refl _) b6 (by rw [z]; rfl) fun ds' vs H1 e1 _ m1 e => ?_
        subst e
        have hm : HReps X.K (fun a => F1 a ∨ (True ∧ H a = none ∧ H1 a ≠ none)) H1 vs ds' := m1.step (fun a xs h r => ⟨h.elim (fun z => .inl z) fun z => .inr ⟨trivial, z, r.some⟩, r⟩) fun a xs h => h
        obtain ⟨c1, c2, c3⟩ := grow (fun _ => True) b1 b2 e1
        refine ⟨_, ds', c1, hm, ?_⟩
        rw [zc]
        intro v H' F' fv o
        have s1 : Stp (fun a => F1 a ∨ (True ∧ H a = none ∧ H1 a ≠ none)) H1 gg F' H' := ⟨o.same, o.inn, fun a h => (o.out a h).elim (fun z => .inl z) fun z => .inr (.inr z)⟩
        have r2 : Rps X.K F' H' σ (frz (varss es) τ) gg := c2.step (fun a xs q rd => ⟨o.inn a q, o.same.rd rd⟩) (fun a xs q => o.same.seqT q) fun a ha n hn => by
          obtain ⟨_, xs, e⟩ := c2.own a ha
          refine ⟨fun z => ?_, (o.same _ _ e).trans e.symm⟩
          rcases o.out a z with z | z
          · exact n z
          · exact hn z
        refine q2.ok v H' F' fv gg ⟨(b4.trans c3 (fun x hx => .inl (b5 x hx))).trans s1 (fun x hx => .inl (b5 x hx)), o.fok, o.rep, r2, ?_, fun a ha => ?_⟩
        · refine List.nodup_append.mpr ⟨o.nod, b3, fun a h1 b h2 e => ?_⟩
          subst e
          obtain ⟨_, xs, e⟩ := c2.own a h2
          rw [o.new a h1] at e
          cases e
        · rcases List.mem_append.mp ha with ha | ha
          · exact .inr (e1.free (o.new a ha))
          · exact .inl (b5 a ha)
theorem o_keep {a : IR} {e : Expr} (he : PE X e (RD X.K ex (vars a) (evR cl a))) (hn : newList? a = false) : PE X e (RO X.K ex fun τ => bnd (evR cl a τ) fun d => .ok (keepD a d τ)) := by
  refine peMono he fun σ H Q ⟨F, τ, fo, fok, r, nd, q⟩ => ?_
  replace q : PO' ex (bnd (evR cl a τ) fun d => .ok (keepD a d τ)) (fun p => ∀ v H' F' fv f', Ow X.K F H fo F' H' σ v p.1 fv p.2 f' → Q v H') := q
  cases z : evR cl a τ with
  | error er =>
    rw [z] at q
    cases er with
    | stuck => exact q.no.elim
    | exc c => exact ⟨fun _ => True, τ, all_slots r, by rw [z]; exact q⟩
  | ok d =>
    rw [z] at q
    have q1 : ∀ v H' F' fv f', Ow X.K F H fo F' H' σ v (keepD a d τ).1 fv (keepD a d τ).2 f' → Q v H' := q
    unfold keepD at q1
    by_cases hl : lfree d = true
    · rw [if_pos hl] at q1
      refine ⟨fun _ => True, τ, all_slots r, ?_⟩
      rw [z]
      intro v H' e m
      obtain ⟨k1, k2, k3⟩ := grow0 fok r e
      exact q1 v H' F [] fo ⟨k3, k1, m.free hl, k2, by simpa using nd, fun a ha => .inl (by simpa using ha)⟩
    · rw [if_neg hl, hn] at q1
      obtain ⟨F1, gg, b1, b2, b3, b4, b5, b6⟩ := freeze1 (vars a) fok r nd
      refine ⟨F1, τ, b6, ?_⟩
      rw [z]
      intro v H' e m
      obtain ⟨c1, c2, c3⟩ := grow (fun _ => True) b1 b2 e
      exact q1 v H' _ [] gg ⟨b4.trans c3 (fun x hx => .inl (b5 x hx)), c1, m.fix.frozen, c2, by simpa using b3, fun a ha => .inl (b5 a (by simpa using ha))⟩
theorem ro_rn {a : IR} (hn : newList? a = true) (hd : ∀ τ d, evR cl a τ = .ok d → ∃ o ds, d = .lst o ds) {σ : St} {H : Hp} {Q : VK} (h : RO X.K ex (fun τ => bnd (evR cl a τ) fun d => .ok (keepD a d τ)) σ H Q) : RN X.K ex (vars a) (fun τ => bnd (evR cl a τ) asLst) σ H Q := by
  obtain ⟨F, τ, fo, fok, r, nd, q⟩ := h
  replace q : PO' ex (bnd (evR cl a τ) fun d => .ok (keepD a d τ)) (fun p => ∀ v H' F' fv f', Ow X.K F H fo F' H' σ v p.1 fv p.2 f' → Q v H') := q
  cases z : evR cl a τ with
  | error er =>
    rw [z] at q
    cases er with
    | stuck => exact q.no.elim
    | exc c => exact ⟨fun _ => True, τ, all_slots r, by show PO' ex (bnd (evR cl a τ) asLst) _; rw [z]; exact q⟩
  | ok d =>
    obtain ⟨o, ds, rfl⟩ := hd τ d z
    rw [z] at q
    have q1 : ∀ v H' F' fv f', Ow X.K F H fo F' H' σ v (keepD a (.lst o ds) τ).1 fv (keepD a (.lst o ds) τ).2 f' → Q v H' := q
    unfold keepD at q1
    rw [if_neg (show ¬ lfree (.lst o ds) = true from fun z => nomatch z), hn] at q1
    replace q1 : ∀ v H' F' fv f', Ow X.K F H fo F' H' σ v (if lfrees ds = true then ((.lst true ds, τ) : D × Ev) else (.lst true (ers ds), frz (vars a) τ)).1 fv (if lfrees ds = true then ((.lst true ds, τ) : D × Ev) else (.lst true (ers ds), frz (vars a) τ)).2 f' → Q v H' := q1
    by_cases hi : lfrees ds = true
    · rw [if_pos hi] at q1
      refine ⟨fun _ => True, τ, all_slots r, ?_⟩
      show PO' ex (bnd (evR cl a τ) asLst) _
      rw [z]
      intro p ys H' e hp hy m
      obtain ⟨k1, k2, k3⟩ := grow0 fok r e
      refine q1 (.ref p) H' F [p] fo ⟨k3, k1, .lstO (fun zz => fok p zz hp) hy (m.free hi), k2, ?_, fun a ha => ?_⟩
      · rw [List.singleton_append, List.nodup_cons]
        refine ⟨fun zz => ?_, nd⟩
        obtain ⟨_, xs, e⟩ := r.own p zz
        rw [hp] at e; cases e
      · rw [List.singleton_append] at ha
        rcases List.mem_cons.mp ha with rfl | ha
        · exact .inr hp
        · exact .inl ha
    · rw [if_neg hi] at q1
      obtain ⟨F1, gg, b1, b2, b3, b4, b5, b6⟩ := freeze1 (vars a) fok r nd
      refine ⟨F1, τ, b6, ?_⟩
      show PO' ex (bnd (evR cl a τ) asLst) _
      rw [z]
      intro p ys H' e hp hy m
      obtain ⟨c1, c2, c3⟩ := grow (fun a => a ≠ p) b1 b2 e
      have m2 : HReps X.K (fun a => F1 a ∨ (a ≠ p ∧ H a = none ∧ H' a ≠ none)) H' ys ds := m.step (fun a xs h r => ⟨h.1.elim (fun z => .inl z) fun z => .inr ⟨h.2, z, r.some⟩, r⟩) fun a xs h => h
      refine q1 (.ref p) H' _ [p] gg ⟨b4.trans c3 (fun x hx => .inl (b5 x hx)), c1, .lstO (fun zz => ?_) hy m2.frozen, c2, ?_, fun a ha => ?_⟩
      · rcases zz with zz | zz
        · exact b1 p zz hp
        · exact zz.1 rfl
      · rw [List.singleton_append, List.nodup_cons]
        refine ⟨fun zz => ?_, b3⟩
        obtain ⟨_, xs, e⟩ := b2.own p zz
        rw [hp] at e; cases e
      · rw [List.singleton_append] at ha
        rcases List.mem_cons.mp ha with rfl | ha
        · exact .inr hp
        · exact .inl (b5 a ha)
end
end L2
namespace L2
open PySem PySem.Spec PyProof.Rows PySem.SeqAt
section
variable {Z : Sg} {CX : CXT} {cl : Nat → List D → Res D} {xp : XK → Hp → Str → Prop}
theorem pv_of {X : Cx} {ex : Str → Prop} {G : Gm} (g : GOk Z CX cl xp X ex G) {i : Nat} {x : Str} {pos : Pos} (h : chkV G i x = true) : PE X (.Name x pos) (tVar i) := by
  unfold chkV at h
  rw [Bool.and_eq_true] at h
  have hx : G.N[i]? = some x := eq_of_beq h.1
  have hk := g.kd i x hx
  have hv : Vis X.env.scope x := by
    have h2 := h.2
    rw [Bool.or_eq_true, Bool.or_eq_true] at h2
    rcases h2 with (h2 | h2) | h2
    · exact .inl (hk.trans (eq_of_beq h2))
    · exact .inr (.inl (hk.trans (eq_of_beq h2)))
    · exact .inr (.inr (hk.trans (eq_of_beq h2)))
  exact pe_var (i := i) (by rw [g.N]; exact hx) hv (g.noD i x hx).1 (g.noD i x hx).2
theorem keepO (a : IR) (X : Cx) (ex : Str → Prop) (G : Gm) (e : Expr) (g : GOk Z CX cl xp X ex G) (h : chk Z G a e = true) (hn : newList? a = false) : PE X e (RO X.K ex fun τ => bnd (evR cl a τ) fun d => .ok (keepD a d τ)) := o_keep (snd a X ex G e g h).1 hn
theorem n_list {X : Cx} {ex : Str → Prop} {G : Gm} (g : GOk Z CX cl xp X ex G) {p pos : Pos} {es : List IR} {a : Expr} {args : List Expr} (hg : G.glc (biNum .list) = true) (hst : chks Z G es (a :: args) = true) (h : PA X (a :: args) (RA X.K ex (varss es) (evRs cl es))) :
    PE X (.Call (.Name (biName .list) p) (a :: args) [] pos) (RN X.K ex (varss es) fun τ => bnd (bnd (evRs cl es τ) fun ds => opBi .list ds) asLst) := by
  obtain ⟨k1, k2, k3, k4⟩ := gb_of g (bi_num .list) (glc_gl hg)
  cases es with
  | nil => cases hst
  | cons b es =>
    have hst' : (notStar a && chk Z G b a && chks Z G es args) = true := hst
    simp only [Bool.and_eq_true] at hst'
    refine peMono (pe_callTy call_list_of k1 k2 (bi_boot .list) h k3 k4 (star_cons hst'.1.1 args X.env) (star_none Z G (es := es) pos X.env hst'.2)) fun σ H Q ⟨S, τ, hs, q⟩ => ?_
    refine raAt (.refl _) hs (PO'.bnd (PO'.bnd q)) fun ds vs H1 e1 _ m1 q1 => ?_
    have stuck : ∀ {P : Prop}, opBi .list ds = stk → P := fun z => by rw [z] at q1; exact q1.no.elim
    cases ds with
    | nil => exact stuck rfl
    | cons d r =>
      cases r with
      | cons _ _ => exact stuck (by cases d <;> rfl)
      | nil =>
        obtain ⟨x, rfl, hd⟩ := m1.one1
        cases d with
        | lst o ds =>
          obtain ⟨a, ys, rfl, q', m⟩ := hd.lstR
          exact ⟨a, ys, rfl, .inl q', fun z hz => q1.ok.ok z _ _ (e1.trans (.upd hz)) (e1.free hz) upd_same (newN m hz)⟩
        | _ => exact stuck rfl
theorem list_lst {es : List IR} {τ : Ev} {d : D} (z : evR cl (.bi .list es) τ = .ok d) : ∃ o ds, d = .lst o ds := by
  obtain ⟨ds, _, z⟩ := bnd_ok (show bnd (evRs cl es τ) (fun ds => opBi .list ds) = .ok d from z)
  cases ds with
  | nil => cases z
  | cons e r =>
    cases r with
    | cons _ _ => cases e <;> cases z
    | nil =>
      cases e with
      | lst o ds => cases z; exact ⟨_, _, rfl⟩
      | _ => cases z
mutual
theorem snO : ∀ (a : IR) (mv : Bool) (X : Cx) (ex : Str → Prop) (G : Gm) (e : Expr), GOk Z CX cl xp X ex G → chk Z G a e = true → PE X e (RO X.K ex (evO cl mv a))
  | .v i, mv, X, ex, G, e, g, h => by
    obtain ⟨x, pos, rfl, q1⟩ := nmv_ok (k := fun x => chkV G i x) h
    exact o_v (pv_of g q1) mv
  | .tup es, mv, X, ex, G, e, g, h => by
    obtain ⟨l, n, pos, rfl, q1⟩ := tpv_ok (k := fun l => chks Z G es l) h
    exact o_tup (snOs es mv X ex G l g q1)
  | .lst es, mv, X, ex, G, e, g, h => by
    obtain ⟨l, pos, rfl, q1⟩ := lsv_ok (k := fun l => chks Z G es l) h
    exact o_lst (snOs es mv X ex G l g q1)
  | .call f es, mv, X, ex, G, e, g, h => by
    obtain ⟨x, p, args, pos, rfl, q1⟩ := cnv_ok (k := fun x args => chkG Z G f x && Z.fnc G f && chks Z G es args) h
    simp only [Bool.and_eq_true] at q1
    exact o_call g q1.1.1 q1.1.2 q1.2 mv
  | .c d, mv, X, ex, G, e, g, h => keepO _ X ex G e g h rfl
  | .g n d, mv, X, ex, G, e, g, h => keepO _ X ex G e g h rfl
  | .bin op a b, mv, X, ex, G, e, g, h => keepO _ X ex G e g h rfl
  | .cmp op a b, mv, X, ex, G, e, g, h => keepO _ X ex G e g h rfl
  | .chain op op' a b c, mv, X, ex, G, e, g, h => keepO _ X ex G e g h rfl
  | .or_ a b, mv, X, ex, G, e, g, h => keepO _ X ex G e g h rfl
  | .and_ a b, mv, X, ex, G, e, g, h => keepO _ X ex G e g h rfl
  | .lset a, mv, X, ex, G, e, g, h => keepO _ X ex G e g h rfl
  | .not_ a, mv, X, ex, G, e, g, h => keepO _ X ex G e g h rfl
  | .idx a i, mv, X, ex, G, e, g, h => keepO _ X ex G e g h rfl
  | .sl a lo hi, mv, X, ex, G, e, g, h => keepO _ X ex G e g h rfl
  | .bi .len es, mv, X, ex, G, e, g, h => keepO _ X ex G e g h rfl
  | .bi .sum es, mv, X, ex, G, e, g, h => keepO _ X ex G e g h rfl
  | .bi .list es, mv, X, ex, G, e, g, h => by
    obtain ⟨x, p, args, pos, rfl, q1⟩ := cnv_ok (k := fun x args => x == biName .list && G.glc (biNum .list) && chks Z G es args && !args.isEmpty) h
    simp only [Bool.and_eq_true] at q1
    obtain ⟨a, r, rfl⟩ := neOf q1.2
    have e1 : x = biName .list := eq_of_beq q1.1.1.1
    subst e1
    exact peMono (n_list g q1.1.1.2 q1.1.2 (snds es X ex G _ g q1.1.2)) fun σ H Q z => ro_rn rfl (fun τ d z => list_lst z) z
  | .isx a ns tb, mv, X, ex, G, e, g, h => keepO _ X ex G e g h rfl
  | .isi a k, mv, X, ex, G, e, g, h => keepO _ X ex G e g h rfl
  | .mth m o es, mv, X, ex, G, e, g, h => keepO _ X ex G e g h rfl
  | .comp G' fr tg src ifs elt, mv, X, ex, G, e, g, h => by
    obtain ⟨el, gens, scope, pos, rfl, q1⟩ := lcv_ok (k := fun el gens scope => gen1 gens fun t it fs => chkScope Z G scope G' fr && chkT G' tg t && (tgs tg).all (fun i => decide (fr.length ≤ i)) && chkSr Z G src it && chks Z G' ifs fs && chk Z G' elt el) h
    obtain ⟨t, it, fs, rfl, q2⟩ := gen1_ok q1
    simp only [Bool.and_eq_true] at q2
    exact peMono (c_comp g (scOk_of q2.1.1.1.1.1) q2.1.1.1.1.2 (fun i hi => of_decide_eq_true (List.all_eq_true.mp q2.1.1.1.2 i hi)) (sndS src X ex G it t g q2.1.1.2)
      (fun X' g' => sndT ifs X' nox G' fs g' q2.1.2) (fun X' g' => (snd elt X' nox G' el g' q2.2).1) (fun x => folded_src q2.1.1.2 X.env x)) fun σ H Q z => ro_rn rfl (fun τ d z => comp_lst z) z
theorem snOs : ∀ (as : List IR) (mv : Bool) (X : Cx) (ex : Str → Prop) (G : Gm) (l : List Expr), GOk Z CX cl xp X ex G → chks Z G as l = true → PA X l (ROs X.K ex (evOs cl mv as))
  | [], mv, X, ex, G, l, g, h => by
    cases l with
    | nil => exact os_nil
    | cons _ _ => exact no_h h
  | a :: as, mv, X, ex, G, l, g, h => by
    cases l with
    | nil => exact no_h h
    | cons e l =>
      have h' : (notStar e && chk Z G a e && chks Z G as l) = true := h
      simp only [Bool.and_eq_true] at h'
      exact os_cons h'.1.1 (snO a mv X ex G e g h'.1.2) (snOs as mv X ex G l g h'.2)
end
end
end L2
namespace L2
open PySem PySem.Spec PyProof.Rows PySem.SeqAt
structure Bs where
  F : Addr → Prop
  H : Hp
  L : Addr → List V → Prop
  T : Addr → List V ⊕ Str → Prop
structure Frm (K : PySem.W.Frag) (B : Bs) (F : Addr → Prop) (H : Hp) (σ : St) (τ : Ev) (f : List Addr) : Prop where
  fok : FOk F H
  rps : Rps K F H σ τ f
  nod : f.Nodup
  same : Same B.H H
  own : ∀ a ∈ f, B.H a = none
  inn : ∀ a, B.F a → F a
  out : ∀ a, F a → B.F a ∨ B.H a = none
  pin : ∀ a xs, B.L a xs → F a ∧ Rd H a (.lst xs)
  pit : ∀ a xs, B.T a xs → SqE K H a xs
noncomputable def Fk (K : PySem.W.Frag) (B : Bs) (Dn : Ends) : Fl → Prop
  | .nx τ => ∀ σ H F f, Frm K B F H σ τ f → Dn.nx σ H
  | .rt d => ∀ v H F fv, Out K B.F B.H F H v d fv → Dn.rt v H
noncomputable def RS (K : PySem.W.Frag) (ex : Str → Prop) (g : Ev → Res Fl) : TS := fun Dn σ H => ∃ B F τ f, Frm K B F H σ τ f ∧ PO' ex (g τ) (Fk K B Dn)
section
variable {K : PySem.W.Frag} {B : Bs} {F F' : Addr → Prop} {H H' : Hp} {σ : St} {τ τ' : Ev} {f f' : List Addr} {ex : Str → Prop}
theorem Frm.stp (m : Frm K B F H σ τ f) (s : Stp F H f F' H') (fok : FOk F' H') (r : Rps K F' H' σ τ' f') (nd : f'.Nodup) (hm : ∀ a ∈ f', a ∈ f ∨ H a = none) : Frm K B F' H' σ τ' f' where
  fok := fok
  rps := r
  nod := nd
  same := m.same.trans s.same
  own := fun a ha => (hm a ha).elim (m.own a) fun z => m.same.free z
  inn := fun a h => s.inn a (m.inn a h)
  out := fun a h => by
    rcases s.out a h with h | h | h
    · exact m.out a h
    · exact .inr (m.own a h)
    · exact .inr (m.same.free h)
  pin := fun a xs h => ⟨s.inn a (m.pin a xs h).1, s.same.rd (m.pin a xs h).2⟩
  pit := fun a xs h => s.same.seqT (m.pit a xs h)
theorem Frm.ow {v : V} {d : D} {fv : List Addr} (m : Frm K B F H σ τ f) (o : Ow K F H f F' H' σ v d fv τ' f') : Frm K B F' H' σ τ' f' ∧ ∀ a ∈ fv, B.H a = none :=
  ⟨m.stp o.stp o.fok o.rps (List.nodup_append.mp o.nod).2.1 fun a ha => o.mem a (List.mem_append_right _ ha), fun a ha => (o.mem a (List.mem_append_left _ ha)).elim (m.own a) fun z => m.same.free z⟩
theorem Frm.grow (m : Frm K B F H σ τ f) (e : Same H H') : Frm K B F H' σ τ f := by
  obtain ⟨k1, k2, k3⟩ := grow0 m.fok m.rps e
  exact m.stp k3 k1 k2 m.nod fun a ha => .inl ha
theorem Frm.ro {g : Ev → Res (D × Ev)} {Kt : D × Ev → Prop} {Q : VK} (m : Frm K B F H σ τ f) (h : PO' ex (g τ) Kt) (k : ∀ p v H' F' fv f', Ow K F H f F' H' σ v p.1 fv p.2 f' → Kt p → Q v H') : RO K ex g σ H Q :=
  ⟨F, τ, f, m.fok, m.rps, m.nod, h.mono fun p hp v H' F' fv f' o => k p v H' F' fv f' o hp⟩
theorem Frm.rt {is : List Nat} {g : Ev → Res Bool} {Kt : Bool → Prop} {Q : Bool → Hp → Prop} (m : Frm K B F H σ τ f) (h : PO' ex (g τ) Kt) (k : ∀ b H', Frm K B F H' σ τ f → Same H H' → Kt b → Q b H') : RT K ex is g σ H Q :=
  rtAt (.refl _) (all_slots m.rps) h fun b H2 e2 _ hb => k b H2 (m.grow e2) e2 hb
theorem Frm.rd {is : List Nat} {g : Ev → Res D} {Kt : D → Prop} {Q : VK} (m : Frm K B F H σ τ f) (h : PO' ex (g τ) Kt) (k : ∀ d v H', Frm K B F H' σ τ f → Same H H' → HRep K (nw (fun _ => True) H) H' v d → Kt d → Q v H') : RD K ex is g σ H Q :=
  rdAt (.refl _) (all_slots m.rps) h fun b v H2 e2 _ mv hb => k b v H2 (m.grow e2) e2 mv hb
theorem gT_own (t : Tg) {σ : St} {τ : Ev} {f : List Addr} {v : V} {d : D} {fv : List Addr} {Kt : Ev → Prop} {Q : St → Hp → Prop} (r : Rps K F H σ τ f) (m : MRep K F H v d fv) (nd : (fv ++ f).Nodup) (h : PO' ex (setT t d τ) Kt)
    (k : ∀ τ' σ' f', Rps K F H σ' τ' f' → f'.Nodup → (∀ a ∈ f', a ∈ fv ++ f) → Kt τ' → Q σ' H) : gT K t v σ H Q := by
  cases t with
  | nm i =>
    obtain ⟨g, h', r2, p2⟩ := r.put i m
    have nd2 : (g ++ h').Nodup := p2.nodup_iff.mpr nd
    exact k (τ.set i (some d)) (σ.set i (some v)) g r2 (List.nodup_append.mp nd2).1 (fun a ha => p2.mem_iff.mp (List.mem_append_left _ ha)) h.ok
  | pr i j =>
    cases d with
    | tup ds =>
      cases m with
      | tup hq ms =>
        cases ms with
        | nil => exact h.no.elim
        | cons m1 ms1 =>
          cases ms1 with
          | nil => exact h.no.elim
          | cons m2 ms2 =>
            cases ms2 with
            | cons _ _ => exact h.no.elim
            | nil =>
              rename_i f1 _ _ f2
              obtain ⟨g1, h1, r1, p1⟩ := r.put i m1
              obtain ⟨g2, h2, r2, p2⟩ := r1.put j m2
              rw [List.append_nil] at nd
              have pp : ((f2 ++ g1) ++ h1).Perm ((f1 ++ f2) ++ f) := by
                rw [List.append_assoc]
                refine (List.Perm.append_left f2 p1).trans ?_
                rw [← List.append_assoc]
                exact List.perm_append_comm.append_right f
              have n1 : (f2 ++ g1).Nodup := (List.nodup_append.mp (pp.nodup_iff.mpr nd)).1
              refine ⟨_, _, rfl, hq, rfl, ?_⟩
              refine ⟨_, _, rfl, ?_⟩
              refine ⟨_, _, rfl, ?_⟩
              refine ⟨rfl, ?_⟩
              refine k _ _ g2 r2 (List.nodup_append.mp (p2.nodup_iff.mpr n1)).1 (fun a ha => ?_) h.ok
              rw [List.append_nil]
              exact pp.mem_iff.mp (List.mem_append_left _ (p2.mem_iff.mp (List.mem_append_left _ ha)))
    | _ => exact h.no.elim
theorem Frm.gT {t : Tg} {v : V} {d : D} {fv : List Addr} {Kt : Ev → Prop} {Q : St → Hp → Prop} (m : Frm K B F H σ τ f) (mv : MRep K F H v d fv) (nd : (fv ++ f).Nodup) (hb : ∀ a ∈ fv, B.H a = none) (h : PO' ex (setT t d τ) Kt)
    (k : ∀ τ' σ' f', Frm K B F H σ' τ' f' → Kt τ' → Q σ' H) : L2.gT K t v σ H Q :=
  gT_own t m.rps mv nd h fun τ' σ' f' r' nf' hm h' => k τ' σ' f' ⟨m.fok, r', nf', m.same, fun a ha => (List.mem_append.mp (hm a ha)).elim (hb a) (m.own a), m.inn, m.out, m.pin, m.pit⟩ h'
theorem Frm.write {i : Nat} {ds ds' : List D} {w : V} {d : D} {fv : List Addr} {l : Addr} {xs ys : List V} (m : Frm K B F H σ τ f) (hs : slotD τ i = some (.lst true ds)) (hσ : σ[i]? = some (some (.ref l))) (hl : H l = some (.lst xs)) (mw : MRep K F H w d fv) (nd : (fv ++ f).Nodup) (hb : ∀ a ∈ fv, B.H a = none)
    (hy : ∀ fi, MReps K F H xs ds fi → ∃ fl h, MReps K F H ys ds' fl ∧ (fl ++ h).Perm (fv ++ fi)) : ∃ f', Frm K B F (upd H l (.lst ys)) σ (τ.set i (some (.lst true ds'))) f' := by
  obtain ⟨v, fs, g, h1, h2, h3, h4⟩ := m.rps.at hs
  rw [hσ] at h1
  cases h1
  cases h2 with
  | @lstO a xs' ds0 fi hF hH hm =>
    rw [hl] at hH
    cases hH
    obtain ⟨fl, h, hm', hp⟩ := hy fi hm
    have ndf : ((l :: fi) ++ g).Nodup := h4.nodup_iff.mp m.nod
    have nda : (fv ++ ((l :: fi) ++ g)).Nodup := (List.Perm.append_left fv h4).nodup_iff.mp nd
    have lg : l ∉ g := by
      rw [List.cons_append, List.nodup_cons] at ndf
      exact fun z => ndf.1 (List.mem_append_right _ z)
    have lfi : l ∉ fi := by
      rw [List.cons_append, List.nodup_cons] at ndf
      exact fun z => ndf.1 (List.mem_append_left _ z)
    have lfv : l ∉ fv := fun z => (List.nodup_append.mp nda).2.2 l z l (by simp) rfl
    have inFl : ∀ a ∈ fl, a ∈ fv ++ fi := fun a ha => hp.mem_iff.mp (List.mem_append_left _ ha)
    have lfl : l ∉ fl := fun z => (List.mem_append.mp (inFl l z)).elim lfv lfi
    have sl : ∀ a xs, F a → Rd H a (.lst xs) → F a ∧ Rd (upd H l (.lst ys)) a (.lst xs) := fun a xs h r => by
      refine ⟨h, ?_⟩
      have : a ≠ l := fun z => hF (by rw [← z]; exact h)
      unfold Rd
      rw [upd_ne this]
      exact r
    have st : ∀ a xs, SqE K H a xs → SqE K (upd H l (.lst ys)) a xs := fun a xs h => h.upd hl
    have r1 : Rps K F (upd H l (.lst ys)) σ (τ.set i none) g := h3.step sl st fun a ha n _ => ⟨n, upd_ne fun z => lg (by rw [← z]; exact ha)⟩
    have m1 : MRep K F (upd H l (.lst ys)) (.ref l) (.lst true ds') (l :: fl) := .lstO hF upd_same (hm'.step sl st fun a ha n _ => ⟨n, upd_ne fun z => lfl (by rw [← z]; exact ha)⟩)
    obtain ⟨g', h', r2, p2⟩ := r1.put i m1
    have hσ' : σ.set i (some (.ref l)) = σ := by
      apply List.ext_getElem?
      intro j
      rw [List.getElem?_set]
      by_cases hj : i = j
      · subst hj
        have hlt : i < σ.length := (List.getElem?_eq_some_iff.mp hσ).1
        rw [if_pos rfl, if_pos hlt, hσ]
      · rw [if_neg hj]
    rw [hσ', List.set_set] at r2
    have ndl : ((l :: fl) ++ g).Nodup := by
      rw [List.cons_append, List.nodup_cons]
      refine ⟨fun z => (List.mem_append.mp z).elim lfl lg, List.nodup_append.mpr ⟨?_, (List.nodup_append.mp ndf).2.1, fun a h1 b h2 e => ?_⟩⟩
      · have : (fl ++ h).Nodup := hp.nodup_iff.mpr (List.nodup_append.mpr ⟨(List.nodup_append.mp nda).1, (List.nodup_cons.mp (List.nodup_append.mp ndf).1).2, fun a h1 b h2 e => (List.nodup_append.mp nda).2.2 a h1 b (List.mem_append_left _ (List.mem_cons_of_mem _ h2)) e⟩)
        exact (List.nodup_append.mp this).1
      · subst e
        rcases List.mem_append.mp (inFl a h1) with z | z
        · exact (List.nodup_append.mp nda).2.2 a z a (List.mem_append_right _ h2) rfl
        · exact (List.nodup_append.mp ndf).2.2 a (List.mem_cons_of_mem _ z) a h2 rfl
    have nd2 : (g' ++ h').Nodup := p2.nodup_iff.mpr ndl
    have lB : B.H l = none := m.own l (h4.mem_iff.mpr (by simp))
    refine ⟨g', fun a h => ?_, r2, (List.nodup_append.mp nd2).1, fun b o hbo => ?_, fun a ha => ?_, m.inn, m.out, fun a xs h => ⟨(m.pin a xs h).1, (sl a xs (m.pin a xs h).1 (m.pin a xs h).2).2⟩, fun a xs h => st a xs (m.pit a xs h)⟩
    · have : a ≠ l := fun z => hF (by rw [← z]; exact h)
      rw [upd_ne this]
      exact m.fok a h
    · have : b ≠ l := fun z => by rw [z, lB] at hbo; cases hbo
      rw [upd_ne this]
      exact m.same _ _ hbo
    · have : a ∈ (l :: fl) ++ g := p2.mem_iff.mp (List.mem_append_left _ ha)
      rcases List.mem_append.mp this with z | z
      · rcases List.mem_cons.mp z with rfl | z
        · exact lB
        · rcases List.mem_append.mp (inFl a z) with z | z
          · exact hb a z
          · exact m.own a (h4.mem_iff.mpr (List.mem_append_left _ (List.mem_cons_of_mem _ z)))
      · exact m.own a (h4.mem_iff.mpr (List.mem_append_right _ z))
theorem MReps.set {w : V} {d : D} {fv : List Addr} (mw : MRep K F H w d fv) {xs : List V} {ds : List D} {fi : List Addr} (j : Nat) (h : MReps K F H xs ds fi) : ∃ fl h, MReps K F H (xs.set j w) (ds.set j d) fl ∧ (fl ++ h).Perm (fv ++ fi) :=
  MReps.ind (P := fun xs ds fi => ∀ j : Nat, ∃ fl h, MReps K F H (xs.set j w) (ds.set j d) fl ∧ (fl ++ h).Perm (fv ++ fi)) (fun _ => ⟨[], _, .nil, .refl _⟩) (fun _ _ f0 _ _ g0 m1 m2 ih j => by
    cases j with
    | zero => exact ⟨_, f0, .cons mw m2, by rw [List.append_assoc]; exact List.Perm.append_left _ List.perm_append_comm⟩
    | succ j =>
      obtain ⟨fl, h, h1, h2⟩ := ih j
      refine ⟨f0 ++ fl, h, .cons m1 h1, ?_⟩
      rw [List.append_assoc]
      refine (List.Perm.append_left f0 h2).trans ?_
      rw [← List.append_assoc, ← List.append_assoc]
      exact List.Perm.append_right g0 List.perm_append_comm) h j
theorem MReps.snoc {w : V} {d : D} {fv : List Addr} (mw : MRep K F H w d fv) {xs : List V} {ds : List D} {fi : List Addr} (m : MReps K F H xs ds fi) : ∃ fl h, MReps K F H (xs ++ [w]) (ds ++ [d]) fl ∧ (fl ++ h).Perm (fv ++ fi) :=
  ⟨fi ++ (fv ++ []), [], m.append (.cons mw .nil), by rw [List.append_nil, List.append_nil]; exact List.perm_append_comm⟩
end
end L2
namespace L2
open PySem PySem.Spec PyProof.Rows PySem.SeqAt
noncomputable def notComp : Expr → Bool
  | .ListComp .. => false
  | .SetComp .. => false
  | .DictComp .. => false
  | _ => true
noncomputable def asv (k : Expr → Expr → Bool) : Stmt → Bool
  | .Assign ts v _ => on1 (fun t => k t v) ts
  | _ => false
theorem asv_ok {k : Expr → Expr → Bool} {s : Stmt} (h : asv k s = true) : ∃ t v p, s = .Assign [t] v p ∧ k t v = true := by
  cases s with
  | Assign ts v p =>
    obtain ⟨t, rfl, h⟩ := on1_ok (show on1 (fun t => k t v) ts = true from h)
    exact ⟨t, v, p, rfl, h⟩
  | _ => exact no_h h
noncomputable def exv (k : Expr → Bool) : Stmt → Bool
  | .Expr v _ => k v
  | _ => false
theorem exv_ok {k : Expr → Bool} {s : Stmt} (h : exv k s = true) : ∃ v p, s = .Expr v p ∧ k v = true := by
  cases s with
  | Expr v p => exact ⟨v, p, rfl, h⟩
  | _ => exact no_h h
noncomputable def opv (k : Expr → Bool) : Option Expr → Bool
  | some v => k v
  | none => false
noncomputable def rtv (k : Expr → Bool) : Stmt → Bool
  | .Return v _ => opv k v
  | _ => false
theorem rtv_ok {k : Expr → Bool} {s : Stmt} (h : rtv k s = true) : ∃ v p, s = .Return (some v) p ∧ k v = true := by
  cases s with
  | Return v p =>
    cases v with
    | some v => exact ⟨v, p, rfl, h⟩
    | none => exact no_h h
  | _ => exact no_h h
noncomputable def ifv (k : Expr → List Stmt → List Stmt → Bool) : Stmt → Bool
  | .If c x y _ => k c x y
  | _ => false
theorem ifv_ok {k : Expr → List Stmt → List Stmt → Bool} {s : Stmt} (h : ifv k s = true) : ∃ c x y p, s = .If c x y p ∧ k c x y = true := by
  cases s with
  | If c x y p => exact ⟨c, x, y, p, rfl, h⟩
  | _ => exact no_h h
noncomputable def frv (k : Expr → Expr → List Stmt → Bool) : Stmt → Bool
  | .For t it b els _ => els.isEmpty && k t it b
  | _ => false
theorem frv_ok {k : Expr → Expr → List Stmt → Bool} {s : Stmt} (h : frv k s = true) : ∃ t it b p, s = .For t it b [] p ∧ k t it b = true := by
  cases s with
  | For t it b els p =>
    cases els with
    | nil => exact ⟨t, it, b, p, rfl, h⟩
    | cons _ _ => exact no_h h
  | _ => exact no_h h
noncomputable def isTxt : Const → Bool
  | .str _ => true
  | _ => false
theorem isTxt_ok {c : Const} (h : isTxt c = true) : ∃ w, c = .str w := by
  cases c with
  | str w => exact ⟨w, rfl⟩
  | _ => exact no_h h
noncomputable def rsv (k : Str → Bool) : Stmt → Bool
  | .Raise e cause _ => cause.isNone && opv (cnv fun x args => on1 (ctv isTxt) args && k x) e
  | _ => false
theorem rsv_ok {k : Str → Bool} {s : Stmt} (h : rsv k s = true) : ∃ x np w j p cpos pos, s = .Raise (some (.Call (.Name x np) [.Constant (.str w) j p] [] cpos)) none pos ∧ k x = true := by
  cases s with
  | Raise e cause pos =>
    cases cause with
    | some _ => exact no_h h
    | none =>
      cases e with
      | none => exact no_h h
      | some e =>
        obtain ⟨x, np, args, cpos, rfl, h⟩ := cnv_ok (show cnv (fun x args => on1 (ctv isTxt) args && k x) e = true from h)
        have h' := Bool.and_eq_true_iff.mp h
        obtain ⟨a, rfl, ha⟩ := on1_ok h'.1
        obtain ⟨c, j, p, rfl, hc⟩ := ctv_ok ha
        obtain ⟨w, rfl⟩ := isTxt_ok hc
        exact ⟨x, np, w, j, p, cpos, pos, rfl, h'.2⟩
  | _ => exact no_h h
noncomputable def isNm : Tg → Bool
  | .nm _ => true
  | .pr _ _ => false
mutual
noncomputable def chkS (Z : Sg) (G : Gm) : IS → Stmt → Bool
  | .asg tg e, s => asv (fun t v => (isNm tg && chkT G tg t) && chk Z G e v) s
  | .setix i k e, s => asv (fun t v => sbv (fun o s => nmv (fun x => chkV G i x) o && notSlice s && chk Z G k s && chk Z G e v) t) s
  | .app i e, s => exv (fun v => clv (fun f args cpos => atv (fun o name apos => nmv (fun x => chkV G i x) o && name == "append" && apos.endLine == cpos.line && on1 (fun v => notStar v && chk Z G e v) args) f) v) s
  | .appx i k e, s => exv (fun v => clv (fun f args cpos => atv (fun o name apos => sbv (fun o s => nmv (fun x => chkV G i x) o && ctv (fun c => chkC (.int ((k : Nat) : Int)) c) s) o && name == "append" && apos.endLine == cpos.line && on1 (fun v => notStar v && chk Z G e v) args) f) v) s
  | .clrx i k, s => exv (fun v => clv (fun f args cpos => atv (fun o name apos => sbv (fun o s => nmv (fun x => chkV G i x) o && ctv (fun c => chkC (.int ((k : Nat) : Int)) c) s) o && name == "clear" && apos.endLine == cpos.line && args.isEmpty) f) v) s
  | .exp e, s => exv (fun v => notComp v && chk Z G e v) s
  | .ret e, s => rtv (fun v => chk Z G e v) s
  | .if_ t a b, s => ifv (fun c x y => chk Z G t c && chkSs Z G a x && chkSs Z G b y) s
  | .for_ tg src body, s => frv (fun t it b => ((G.cm && G.rs) && chkT G tg t) && chkSr Z G src it && chkSs Z G body b) s
  | .raise_ n c _, s => rsv (fun x => G.rs && G.cm && chkG Z G n x && x == c && Z.rc.contains (n, c)) s
  | .tryx _ _ _ _ _, _ => false
noncomputable def chkSs (Z : Sg) (G : Gm) : List IS → List Stmt → Bool
  | [], l => l.isEmpty
  | a :: as, l => match l with
    | [] => false
    | s :: ss => chkS Z G a s && chkSs Z G as ss
end
section
variable {Z : Sg} {CX : CXT} {cl : Nat → List D → Res D} {xp : XK → Hp → Str → Prop} {X : Cx} {ex : Str → Prop} {G : Gm}
theorem t_asg {tg : Tg} {ga : Ev → Res (D × Ev)} {Dn : Ends} {σ : St} {H : Hp} (h : RS X.K ex (fun τ => bnd (ga τ) fun p => bnd (setT tg p.1 p.2) fun τ' => .ok (.nx τ')) Dn σ H) : tAsg (RO X.K ex ga) (gT X.K tg) Dn σ H := by
  obtain ⟨B, F, τ, f, m, q⟩ := h
  refine m.ro (PO'.bnd q) fun p v H' F' fv f' o hp => ?_
  obtain ⟨m', hb⟩ := m.ow o
  exact m'.gT o.rep o.nod hb (PO'.bnd hp) fun τ' σ' f'' m'' h' => h'.ok _ _ _ _ m''
theorem st_asg (g : GOk Z CX cl xp X ex G) {tg : Tg} {e : IR} {t v : Expr} {pos : Pos} (hnm : isNm tg = true) (ht : chkT G tg t = true) (hv : chk Z G e v = true) : PS X (.Assign [t] v pos) (RS X.K ex (evS cl (.asg tg e))) := by
  have pe := snO e false X ex G v g hv
  cases tg with
  | pr i j => exact no_h hnm
  | nm i =>
  cases t with
  | Name x px =>
    have ht' : (G.N[i]? == some x && (G.kd[i]? == some .local || (G.df && G.kd[i]? == some .cell))) = true := ht
    rw [Bool.and_eq_true, Bool.or_eq_true, Bool.and_eq_true] at ht'
    have hx : G.N[i]? = some x := eq_of_beq ht'.1
    have hk := g.kd i x hx
    have hloc : Loc X.env.scope x := ht'.2.elim (fun z => .inl (hk.trans (eq_of_beq z))) fun z => .inr (hk.trans (eq_of_beq z.2))
    have hfn : X.fn x = true ∨ X.env.scope.names.lookup x = some .local := ht'.2.elim (fun z => .inr (hk.trans (eq_of_beq z))) fun z => .inl (g.df z.1 x)
    have plain : swapsWith v (some (.Name x px)) pos.line X.env = pure false → PS X (.Assign [.Name x px] v pos) (RS X.K ex (evS cl (.asg (.nm i) e))) := fun hs =>
      psMono (ps_set (i := i) (by rw [g.N]; exact g.nod) (by rw [g.N]; exact hx) hloc pe hs hfn) fun Dn σ H h => t_asg h
    cases v with
    | ListComp el gens scope vpos =>
      have hsw : swapsWith (.ListComp el gens scope vpos) (some (.Name x px)) pos.line X.env = pure (X.env.blockKind == .function && X.env.kindOf x == some .local && px.line == vpos.line && !(scope.names.any fun (n, k) => n == x && (k == .local || k == .cell))) := rfl
      cases hb : (X.env.blockKind == .function && X.env.kindOf x == some .local && px.line == vpos.line && !(scope.names.any fun (n, k) => n == x && (k == .local || k == .cell))) with
      | false => exact plain (by rw [hsw, hb])
      | true =>
        rw [hb] at hsw
        have hlx : X.env.kindOf x = some .local := by
          simp only [Bool.and_eq_true] at hb
          exact eq_of_beq hb.1.1.2
        cases e with
        | comp G' fr T src ifs elt =>
          obtain ⟨t, it, fs, rfl, h'⟩ := gen1_ok (k := fun t it fs => chkScope Z G scope G' fr && chkT G' T t && (tgs T).all (fun i => decide (fr.length ≤ i)) && chkSr Z G src it && chks Z G' ifs fs && chk Z G' elt el) hv
          simp only [Bool.and_eq_true] at h'
          have hs := scOk_of h'.1.1.1.1.1
          have ha : ∀ i ∈ tgs T, fr.length ≤ i := fun i hi => of_decide_eq_true (List.all_eq_true.mp h'.1.1.1.2 i hi)
          intro pins s' σ H Dn Iv h
          obtain ⟨cl', S⟩ := compSc_of g Iv.ok hs
          refine ps_comp (py := px) (spos := pos) (i := i) (pos := vpos) (elt := el) (ifs := fs) (tg := t) (g := gT X.K T) (tt := RT X.K nox (varss ifs) (evTs cl ifs)) (te := RD X.K nox (vars elt) (evR cl elt)) (g.calm hs.cm) (by rw [g.N]; exact g.nod) (by rw [g.N]; exact hx) hlx S (sndS src X ex G it t g h'.1.1.2) (fun C s H fp => pgT (gok_comp g hs cl' C s H fp) T t h'.1.1.1.1.2)
            (fun C s H fp => sndT ifs _ nox G' fs (gok_comp g hs cl' C s H fp) h'.1.2) (fun C s H fp => (snd elt _ nox G' el (gok_comp g hs cl' C s H fp) h'.2).1) hsw (fun x => folded_src h'.1.1.2 X.env x) pins s' σ H Dn Iv ?_
          have h2 : tAsg (RO X.K ex (evO cl false (.comp G' fr T src ifs elt))) (gT X.K (.nm i)) Dn σ H := t_asg h
          exact rn_core hs.fle ha (ro_rn (a := .comp G' fr T src ifs elt) rfl (fun τ d z => comp_lst z) h2)
        | _ => exact no_h hv
    | SetComp _ _ _ _ => cases e <;> exact no_h hv
    | DictComp _ _ _ _ _ => cases e <;> exact no_h hv
    | _ => exact plain rfl
  | _ => exact no_h ht
end
end L2
namespace L2
open PySem PySem.Spec PyProof.Rows PySem.SeqAt
theorem MReps.part {K : PySem.W.Frag} {F : Addr → Prop} {H : Hp} {es : List D} : ∀ (ds : List D) (k : Nat) (vs : List V) (f : List Addr), MReps K F H vs ds f → ds[k]? = some (.lst true es) → ∃ l xs fi p q, vs[k]? = some (.ref l) ∧ ¬ F l ∧ H l = some (.lst xs) ∧ MReps K F H xs es fi ∧ f = p ++ ((l :: fi) ++ q) ∧
    ∀ (H' : Hp) (es' : List D), (∀ a xs, F a → Rd H a (.lst xs) → F a ∧ Rd H' a (.lst xs)) → (∀ a xs, SqE K H a xs → SqE K H' a xs) → (∀ a ∈ p ++ q, H' a = H a) → MRep K F H' (.ref l) (.lst true es') (l :: fi) → MReps K F H' vs (ds.set k (.lst true es')) f := by
  intro ds
  induction ds with
  | nil => intro k vs f h hk; simp at hk
  | cons d ds ih =>
    intro k vs f h hk
    cases h with
    | @cons v _ f0 vs' _ g0 h1 h2 =>
      cases k with
      | zero =>
        rw [List.getElem?_cons_zero] at hk
        cases hk
        cases h1 with
        | @lstO a xs _ fi hF hH hm =>
          refine ⟨a, xs, fi, [], g0, rfl, hF, hH, hm, rfl, fun H' es' sl st k m => ?_⟩
          exact .cons m (h2.step sl st fun b hb n _ => ⟨n, k b (by simpa using hb)⟩)
      | succ k =>
        rw [List.getElem?_cons_succ] at hk
        obtain ⟨l, xs, fi, p, q, a1, a2, a3, a4, a5, a6⟩ := ih k vs' g0 h2 hk
        refine ⟨l, xs, fi, f0 ++ p, q, by rw [List.getElem?_cons_succ]; exact a1, a2, a3, a4, by rw [a5, List.append_assoc], fun H' es' sl st k m => ?_⟩
        exact .cons (h1.step sl st fun b hb n _ => ⟨n, k b (List.mem_append_left _ (List.mem_append_left _ hb))⟩) (a6 H' es' sl st (fun b hb => k b ((List.mem_append.mp hb).elim (fun z => List.mem_append_left _ (List.mem_append_right _ z)) fun z => List.mem_append_right _ z)) m)
theorem Frm.writeT {K : PySem.W.Frag} {B : Bs} {F : Addr → Prop} {H : Hp} {σ : St} {τ : Ev} {f : List Addr} {i : Nat} {ds' es' : List D} {l a : Addr} {xs ys vs : List V} {g p q fi : List Addr} (m : Frm K B F H σ τ f) (hσ : σ[i]? = some (some (.ref a))) (hT : SqT K H a vs) (hr : Rps K F H σ (τ.set i none) g) (h4 : f.Perm ((p ++ ((l :: fi) ++ q)) ++ g)) (hF : ¬ F l) (hl : H l = some (.lst xs)) (hm : MReps K F H ys es' fi)
    (put : ∀ (H' : Hp), (∀ a xs, F a → Rd H a (.lst xs) → F a ∧ Rd H' a (.lst xs)) → (∀ a xs, SqE K H a xs → SqE K H' a xs) → (∀ a ∈ p ++ q, H' a = H a) → MRep K F H' (.ref l) (.lst true es') (l :: fi) → MReps K F H' vs ds' (p ++ ((l :: fi) ++ q))) : ∃ f', Frm K B F (upd H l (.lst ys)) σ (τ.set i (some (.tup ds'))) f' := by
  have nd0 : ((p ++ ((l :: fi) ++ q)) ++ g).Nodup := h4.nodup_iff.mp m.nod
  have pm : ((p ++ ((l :: fi) ++ q)) ++ g).Perm (l :: (fi ++ (p ++ q ++ g))) := by
    refine (List.Perm.append_right g List.perm_append_comm).trans ?_
    simp only [List.cons_append, List.append_assoc]
    refine List.Perm.cons _ (List.Perm.append_left fi ?_)
    rw [← List.append_assoc, ← List.append_assoc]
    exact List.Perm.append_right g List.perm_append_comm
  have nl : l ∉ fi ++ (p ++ q ++ g) := (List.nodup_cons.mp (pm.nodup_iff.mp nd0)).1
  have sl : ∀ a xs, F a → Rd H a (.lst xs) → F a ∧ Rd (upd H l (.lst ys)) a (.lst xs) := fun b xs h r => by
    refine ⟨h, ?_⟩
    have : b ≠ l := fun z => hF (by rw [← z]; exact h)
    unfold Rd
    rw [upd_ne this]
    exact r
  have st : ∀ a xs, SqE K H a xs → SqE K (upd H l (.lst ys)) a xs := fun b xs h => h.upd hl
  have r1 : Rps K F (upd H l (.lst ys)) σ (τ.set i none) g := hr.step sl st fun b ha n _ => ⟨n, upd_ne fun z => nl (by rw [← z]; exact List.mem_append_right _ (List.mem_append_right _ ha))⟩
  have m0 : MRep K F (upd H l (.lst ys)) (.ref l) (.lst true es') (l :: fi) := .lstO hF upd_same (hm.step sl st fun b ha n _ => ⟨n, upd_ne fun z => nl (by rw [← z]; exact List.mem_append_left _ ha)⟩)
  have m1 : MRep K F (upd H l (.lst ys)) (.ref a) (.tup ds') (p ++ ((l :: fi) ++ q)) := .tup (st _ (.inl _) hT) (put _ sl st (fun b hb => upd_ne fun z => nl (by rw [← z]; exact List.mem_append_right _ (List.mem_append_left _ hb))) m0)
  obtain ⟨g', h', r2, p2⟩ := r1.put i m1
  have hσ' : σ.set i (some (.ref a)) = σ := by
    apply List.ext_getElem?
    intro j
    rw [List.getElem?_set]
    by_cases hj : i = j
    · subst hj
      rw [if_pos rfl, if_pos (List.getElem?_eq_some_iff.mp hσ).1, hσ]
    · rw [if_neg hj]
  rw [hσ', List.set_set] at r2
  have nd2 : (g' ++ h').Nodup := p2.nodup_iff.mpr nd0
  have lB : B.H l = none := m.own l (h4.mem_iff.mpr (by simp))
  refine ⟨g', fun b h => ?_, r2, (List.nodup_append.mp nd2).1, fun b o hbo => ?_, fun b ha => ?_, m.inn, m.out, fun b xs h => ⟨(m.pin b xs h).1, (sl b xs (m.pin b xs h).1 (m.pin b xs h).2).2⟩, fun b xs h => st b xs (m.pit b xs h)⟩
  · have : b ≠ l := fun z => hF (by rw [← z]; exact h)
    rw [upd_ne this]
    exact m.fok b h
  · have : b ≠ l := fun z => by rw [z, lB] at hbo; cases hbo
    rw [upd_ne this]
    exact m.same _ _ hbo
  · exact m.own b (h4.mem_iff.mpr (p2.mem_iff.mp (List.mem_append_left _ ha)))
theorem Frm.dropT {K : PySem.W.Frag} {B : Bs} {F : Addr → Prop} {H : Hp} {σ : St} {τ : Ev} {f fs g : List Addr} {i : Nat} {l : Addr} {xs ys : List V} (m : Frm K B F H σ τ f) (hr : Rps K F H σ (τ.set i none) g) (h4 : f.Perm (fs ++ g)) (hfs : l ∈ fs) (hF : ¬ F l) (hl : H l = some (.lst xs)) :
    Frm K B F (upd H l (.lst ys)) σ (τ.set i none) g := by
  have nd0 : (fs ++ g).Nodup := h4.nodup_iff.mp m.nod
  have nl : l ∉ g := fun z => (List.nodup_append.mp nd0).2.2 l hfs l z rfl
  have sl : ∀ a xs, F a → Rd H a (.lst xs) → F a ∧ Rd (upd H l (.lst ys)) a (.lst xs) := fun b xs h r => by
    refine ⟨h, ?_⟩
    have : b ≠ l := fun z => hF (by rw [← z]; exact h)
    unfold Rd
    rw [upd_ne this]
    exact r
  have st : ∀ a xs, SqE K H a xs → SqE K (upd H l (.lst ys)) a xs := fun b xs h => h.upd hl
  have lB : B.H l = none := m.own l (h4.mem_iff.mpr (List.mem_append_left _ hfs))
  refine ⟨fun b h => ?_, hr.step sl st fun b ha n _ => ⟨n, upd_ne fun z => nl (by rw [← z]; exact ha)⟩, (List.nodup_append.mp nd0).2.1, fun b o hbo => ?_, fun b ha => m.own b (h4.mem_iff.mpr (List.mem_append_right _ ha)), m.inn, m.out, fun b xs h => ⟨(m.pin b xs h).1, (sl b xs (m.pin b xs h).1 (m.pin b xs h).2).2⟩, fun b xs h => st b xs (m.pit b xs h)⟩
  · have : b ≠ l := fun z => hF (by rw [← z]; exact h)
    rw [upd_ne this]
    exact m.fok b h
  · have : b ≠ l := fun z => by rw [z, lB] at hbo; cases hbo
    rw [upd_ne this]
    exact m.same _ _ hbo
end L2
namespace L2
open PySem PySem.Spec PyProof.Rows PySem.SeqAt
section
variable {Z : Sg} {CX : CXT} {cl : Nat → List D → Res D} {xp : XK → Hp → Str → Prop} {X : Cx} {ex : Str → Prop} {G : Gm}
theorem intC {k : Nat} {c : Const} (h : chkC (.int ((k : Nat) : Int)) c = true) : c = .int ((k : Nat) : Int) := by
  cases c with
  | int j => rw [eq_of_beq (show (((k : Nat) : Int) == j) = true from h)]
  | _ => exact no_h h
theorem comp_at {K : PySem.W.Frag} {B : Bs} {F : Addr → Prop} {H : Hp} {σ : St} {τ : Ev} {f : List Addr} {i k : Nat} {ds es : List D} (m : Frm K B F H σ τ f) (hs : slotD τ i = some (.tup ds)) (hk : ds[k]? = some (.lst true es)) :
    ∃ a vs l xs fi p q g, σ[i]? = some (some (.ref a)) ∧ SqT K H a vs ∧ atI vs ((k : Nat) : Int) = some (.ref l) ∧ ¬ F l ∧ H l = some (.lst xs) ∧ MReps K F H xs es fi ∧ Rps K F H σ (τ.set i none) g ∧ f.Perm ((p ++ ((l :: fi) ++ q)) ++ g) ∧
      ∀ (H' : Hp) (es' : List D), (∀ a xs, F a → Rd H a (.lst xs) → F a ∧ Rd H' a (.lst xs)) → (∀ a xs, SqE K H a xs → SqE K H' a xs) → (∀ a ∈ p ++ q, H' a = H a) → MRep K F H' (.ref l) (.lst true es') (l :: fi) → MReps K F H' vs (ds.set k (.lst true es')) (p ++ ((l :: fi) ++ q)) := by
  obtain ⟨v0, fs, g0, a1, a2, a3, a4⟩ := m.rps.at hs
  cases a2 with
  | @tup a vs _ _ hT hM =>
    obtain ⟨l, xs, fi, pp, qq, b1, b2, b3, b4, b5, b6⟩ := MReps.part _ _ _ _ hM hk
    subst b5
    have hat : atI vs ((k : Nat) : Int) = some (.ref l) := by
      have hlt : k < vs.length := (List.getElem?_eq_some_iff.mp b1).1
      unfold atI ixN
      rw [if_pos (by omega), if_pos (by omega)]
      exact b1
    exact ⟨a, vs, l, xs, fi, pp, qq, g0, a1, hT, hat, b2, b3, b4, a3, a4, b6⟩
theorem MReps.noF {K : PySem.W.Frag} {F : Addr → Prop} {H : Hp} {vs : List V} {ds : List D} {f : List Addr} (h : MReps K F H vs ds f) (n : lfrees ds = true) : f = [] := by
  refine MReps.rec (motive_1 := fun _ d f _ => lfree d = true → f = []) (motive_2 := fun _ d f _ => lfrees d = true → f = []) (fun _ => rfl) (fun _ _ => rfl) (fun _ _ => rfl) (fun _ _ => rfl) (fun _ _ => rfl) (fun _ _ i z => i z) (fun _ _ _ _ _ => rfl) (fun _ _ _ _ => rfl) (fun _ _ _ _ z => no_h z) (fun _ => rfl) (fun {v d f vs ds g} _ _ i j z => ?_) h n
  have z' := Bool.and_eq_true_iff.mp (show (lfree d && lfrees ds) = true from z)
  rw [i z'.1, j z'.2]
  rfl
theorem st_clrx (g : GOk Z CX cl xp X ex G) {i k : Nat} {x : Str} {p sp cp apos cpos pos : Pos} {j : Nat} (h1 : chkV G i x = true) (h2 : (apos.endLine == cpos.line) = true) :
    PS X (.Expr (.Call (.Attribute (.Subscript (.Name x p) (.Constant (.int ((k : Nat) : Int)) j cp) sp) "clear" apos) [] [] cpos) pos) (RS X.K ex (evS cl (.clrx i k))) := by
  refine psMono (ps_expr (pe_bm0 PySem.F.plainAttrs_list PySem.F.slot_list_clear PySem.F.type_list_clear mt_clear (pe_ix ix_seq (pv_of g h1) pe_int fun _ _ => rfl) rfl h2)) fun Dn σ H h => ?_
  obtain ⟨B, F, τ, f, m, q⟩ := h
  have q0 : PO' ex (match slotD τ i with | some (.tup ds) => (match ds[k]? with | some (.lst true xs) => grd (lfrees xs) (.ok (.nx (τ.set i (some (.tup (ds.set k (.lst true []))))))) | _ => stk) | _ => stk) (Fk X.K B Dn) := q
  cases z0 : slotD τ i with
  | none => rw [z0] at q0; exact q0.no.elim
  | some d0 =>
    rw [z0] at q0
    cases d0 with
    | tup ds =>
      cases z1 : ds[k]? with
      | none => simp only [z1] at q0; exact q0.no.elim
      | some d1 =>
        simp only [z1] at q0
        cases d1 with
        | lst ow es =>
          cases ow with
          | false => exact q0.no.elim
          | true =>
            obtain ⟨gd, q0⟩ := PO'.grd q0
            obtain ⟨a, vs, l, xs, fi, pp, qq, g0, a1, hT, hat, b2, b3, b4, a3, a4, b6⟩ := comp_at m z0 z1
            have e := b4.noF gd
            subst e
            obtain ⟨f'', m3⟩ := m.writeT (ys := []) (es' := []) (ds' := ds.set k (.lst true [])) a1 hT a3 a4 b2 b3 .nil fun H2 sl2 st2 k2 mm => b6 H2 _ sl2 st2 k2 mm
            exact ⟨.ref a, a1, .inr (.inl ⟨a, vs, _, .ref l, rfl, rfl, hT, hat, .inl ⟨rfl, xs, .inl (.inl b3)⟩, ⟨l, xs, rfl, rfl, b3, q0.ok _ _ _ _ m3⟩⟩)⟩
        | _ => exact q0.no.elim
    | _ => exact q0.no.elim
theorem st_appx (g : GOk Z CX cl xp X ex G) {i k : Nat} {e : IR} {x : Str} {p sp cp apos cpos pos : Pos} {j : Nat} {v : Expr} (h1 : chkV G i x = true) (h2 : (apos.endLine == cpos.line) = true) (h3 : notStar v = true) (h4 : chk Z G e v = true) :
    PS X (.Expr (.Call (.Attribute (.Subscript (.Name x p) (.Constant (.int ((k : Nat) : Int)) j cp) sp) "append" apos) [v] [] cpos) pos) (RS X.K ex (evS cl (.appx i k e))) := by
  have pa : PA X [v] (tCons (RD X.K ex (vars e) (evR cl e)) tNil) := pa_cons (snd e X ex G v g h4).1 pa_nil (star_cons h3 _ _)
  have hfew : ((backTo cpos (starEach [v] X.env)).all (fun x => !x.1) && (backToKw cpos (keywordEach [] X.env)).all (fun x => x.1.isSome) && decide ([v].length + ([] : List Keyword).length + (if ([] : List Keyword).isEmpty then 0 else 1) < 30)) = true := by
    rw [star_cons h3]
    rfl
  refine psMono (ps_expr (pe_bm PySem.F.plainAttrs_list PySem.F.slot_list_append PySem.F.type_list_append mt_append (pe_ix ix_seq (pv_of g h1) pe_int fun _ _ => rfl) pa rfl hfew h2 (star_cons h3 _ _) rfl)) fun Dn σ H h => ?_
  obtain ⟨B, F, τ, f, m, q⟩ := h
  have q0 : PO' ex (match slotD τ i with | some (.tup ds) => (match ds[k]? with | some (.lst true xs) => bnd (evR cl e τ) fun _ => grd (szLt xs.length) (.ok (.nx (τ.set i none))) | _ => stk) | _ => stk) (Fk X.K B Dn) := q
  cases z0 : slotD τ i with
  | none => rw [z0] at q0; exact q0.no.elim
  | some d0 =>
    rw [z0] at q0
    cases d0 with
    | tup ds =>
      cases z1 : ds[k]? with
      | none => simp only [z1] at q0; exact q0.no.elim
      | some d1 =>
        simp only [z1] at q0
        cases d1 with
        | lst ow es =>
          cases ow with
          | false => exact q0.no.elim
          | true =>
            obtain ⟨a, vs, l, xs, fi, pp, qq, g0, a1, hT, hat, b2, b3, b4, a3, a4, b6⟩ := comp_at m z0 z1
            refine ⟨.ref a, a1, .inr (.inl ⟨a, vs, _, .ref l, rfl, rfl, hT, hat, .inl ⟨rfl, xs, .inl (.inl b3)⟩, m.rd (PO'.bnd q0) fun d w H' m' e' mw hd => ?_⟩)⟩
            obtain ⟨gd, hd⟩ := PO'.grd hd
            have sl : ∀ a xs, F a → Rd H a (.lst xs) → F a ∧ Rd H' a (.lst xs) := fun b ys h r => ⟨h, e'.rd r⟩
            have st : ∀ a xs, SqE X.K H a xs → SqE X.K H' a xs := fun b ys r => e'.seqT r
            have r' : Rps X.K F H' σ (τ.set i none) g0 := a3.step sl st fun b hb n _ => by
              obtain ⟨_, ys, e⟩ := m.rps.own b (a4.mem_iff.mpr (List.mem_append_right _ hb))
              exact ⟨n, (e' _ _ e).trans e.symm⟩
            have m3 : Frm X.K B F (upd H' l (.lst (xs ++ [w]))) σ (τ.set i none) g0 := m'.dropT r' a4 (by simp) b2 (e' _ _ b3)
            have hlen : xs.length = es.length := MReps.ind (P := fun v d _ => v.length = d.length) rfl (fun _ _ _ _ _ _ _ _ j => congrArg (· + 1) j) b4
            exact ⟨l, xs, w, rfl, rfl, e' _ _ b3, by rw [hlen]; exact szLt_lt gd, hd.ok _ _ _ _ m3⟩
        | _ => exact q0.no.elim
    | _ => exact q0.no.elim
end
end L2
namespace L2
open PySem PySem.Spec PyProof.Rows PySem.SeqAt
theorem exc_own {K : PySem.W.Frag} {h : Heap} {C : Addr} {bmB : List Value} {newId : String} (X : K.In h) (q : PySem.W.excIn K C bmB newId = true) : ∃ bm N nm qn bs hdct sn sub ab col dd k0 k1 k2 k3 k5 mN,
    h.get? C = some (excClassObj nm qn C N bs bm hdct sn sub ab col dd k0 k1 k2 k3 k5 newId) ∧ h.Ns N mN ∧ mN "__init__" = none ∧ OwnTail h bmB bm := by
  unfold PySem.W.excIn at q; split at q
  · rename_i dd cd sl ho; split at q
    · rename_i C' bm k0 k1 k2 k3 n k5 hm hs; simp only [Bool.and_eq_true, beq_iff_eq, Bool.not_eq_true'] at q
      obtain ⟨⟨⟨⟨⟨rfl, rfl⟩, hdel⟩, ht⟩, hok⟩, hni⟩ := q; obtain ⟨nm, bs, mro, ns, qn, hd, sn, sub, ab, col, del⟩ := cd
      dsimp only at hm hdel hok hni; subst hm hdel
      obtain ⟨l⟩ := sl
      have hs : l = [k0, k1, k2, k3, some (.builtin n), k5] := hs
      subst hs
      exact ⟨bm, ns, nm, qn, bs, hd, sn, sub, ab, col, dd, k0, k1, k2, k3, k5, _, X _ _ ho, .of_isNs (PySem.W.isNs_of_in X hok), PySem.W.nsMap_none_of_in X hok hni, PySem.W.tail_of_in X ht⟩
    · cases q
  · cases q
section
variable {Z : Sg} {CX : CXT} {cl : Nat → List D → Res D} {xp : XK → Hp → Str → Prop} {X : Cx} {ex : Str → Prop} {G : Gm}
theorem st_raise (g : GOk Z CX cl xp X ex G) {n : Nat} {c w w' : Str} {np cpos pos p1 : Pos} {j : Nat} (hrs : G.rs = true) (hcm : G.cm = true) (hx : chkG Z G n c = true) (hc : (n, c) ∈ Z.rc) :
    PS X (.Raise (some (.Call (.Name c np) [.Constant (.str w) j p1] [] cpos)) none pos) (RS X.K ex (evS cl (.raise_ n c w'))) := by
  obtain ⟨k1, k2, k3, k4⟩ := gl_of g hx
  obtain ⟨_, C, hm, hn, hq⟩ := g.xrs n c hc
  intro pins s σ H Dn I ⟨B, F, τ, f, m, q⟩
  have q : ex c := q
  obtain ⟨bm, N, nm, qn, bs, hdct, sn, sub, ab, col, dd, k0, k1', k2', k3', k5, mN, e1, e2, e3, e4⟩ := exc_own I.ok.mod.kin hq
  refine wpAny_Raise_call_subT (C := C) (nm := nm) (q := qn) (N := N) (bs := bs) (bm := bm) (hdct := hdct) (sn := sn) (sub := sub) (ab := ab) (col := col) (dd := dd) (k0 := k0) (k1 := k1') (k2 := k2') (k3 := k3') (k5 := k5)
    PySem.F.excBase_ValueError (mN := mN) (e4.hasType PySem.F.excBase_ValueError.hasBase) (I.ok.hd (g.calm hcm)) rfl e3 (ld_glob I k1 hm ⟨rfl, ?_⟩ k4)
  have pa : PA X [.Constant (.str w) j p1] (tCons (tC (.str w)) tNil) := pa_cons pe_str pa_nil rfl
  refine Calls.evalArgs_plain (wpAny_mono (pa cpos pins s σ H (fun vs H' => vs = [.str w]) I rfl) (fun us s2 ⟨vs, H1, I1, r, hv⟩ => ⟨rfl, ?_, I1.bk _ _ e1, e2.keeps I1.bk, e4.keeps I1.bk, fun h' e hx => g.rse hrs pins σ H1 s2 c C h' e us I1 q hn hx⟩) fun _ _ y => y)
  subst hv
  rw [← r.length]
  exact (by decide : 1 ≤ sizeLine)
end
end L2
namespace L2
open PySem PySem.Spec PyProof.Rows PySem.SeqAt
section
variable {Z : Sg} {CX : CXT} {cl : Nat → List D → Res D} {xp : XK → Hp → Str → Prop} {X : Cx} {ex : Str → Prop} {G : Gm}
theorem own_at {K : PySem.W.Frag} {F : Addr → Prop} {H : Hp} {σ : St} {τ : Ev} {f : List Addr} {i : Nat} {ds : List D} (r : Rps K F H σ τ f) (hs : slotD τ i = some (.lst true ds)) : ∃ l xs, σ[i]? = some (some (.ref l)) ∧ H l = some (.lst xs) ∧ xs.length = ds.length := by
  obtain ⟨v, fs, g, h1, h2, h3, h4⟩ := r.at hs
  cases h2 with
  | lstO hF hH hm => exact ⟨_, _, h1, hH, hm.length⟩
theorem st_setix (g : GOk Z CX cl xp X ex G) {i : Nat} {k e : IR} {x : Str} {p sp pos : Pos} {s v : Expr} (h1 : chkV G i x = true) (h2 : notSlice s = true) (h3 : chk Z G k s = true) (h4 : chk Z G e v = true) :
    PS X (.Assign [.Subscript (.Name x p) s sp] v pos) (RS X.K ex (evS cl (.setix i k e))) := by
  refine psMono (ps_asg (snO e false X ex G v g h4) (pg_sub (pv_of g h1) (snd k X ex G s g h3).1 set_list (by intro _; cases s <;> first | rfl | cases h2)) (by cases v <;> rfl) (by cases v <;> rfl) rfl) fun Dn σ H h => ?_
  obtain ⟨B, F, τ, f, m, q⟩ := h
  refine m.ro (PO'.bnd q) fun p v H' F' fv f' o hp => ?_
  obtain ⟨m', hb⟩ := m.ow o
  have hp1 : PO' ex (match slotD p.2 i with | some (.lst true ds) => (bnd (evR cl k p.2) fun | .int z => (match ixN ds.length z with | some j => .ok (.nx (p.2.set i (some (.lst true (ds.set j p.1))))) | none => stk) | _ => stk) | _ => stk) (Fk X.K B Dn) := hp
  cases zs : slotD p.2 i with
  | none => rw [zs] at hp1; exact hp1.no.elim
  | some d =>
    rw [zs] at hp1
    cases d with
    | lst ow ds =>
      cases ow with
      | false => exact hp1.no.elim
      | true =>
        obtain ⟨l, xs, hσ, hl, hlen⟩ := own_at m'.rps zs
        refine ⟨.ref l, hσ, m'.rd (PO'.bnd hp1) fun y w H2 m2 e2 mw hy => ?_⟩
        cases y with
        | int z =>
          cases mw.intR
          have hy' : PO' ex (match ixN ds.length z with | some j => .ok (.nx (p.2.set i (some (.lst true (ds.set j p.1))))) | none => stk) (Fk X.K B Dn) := hy
          cases hj : ixN ds.length z with
          | none => rw [hj] at hy'; exact hy'.no.elim
          | some j =>
            rw [hj] at hy'
            obtain ⟨k1, k2, k3⟩ := grow0 m'.fok m'.rps e2
            have mv2 : MRep X.K F' H2 v p.1 fv := o.rep.stp k3 fun a ha hb => (List.nodup_append.mp o.nod).2.2 a ha a hb rfl
            have hl2 : H2 l = some (.lst xs) := e2 _ _ hl
            obtain ⟨f'', m3⟩ := m2.write (ys := xs.set j v) (ds' := ds.set j p.1) zs hσ hl2 mv2 o.nod hb fun fi hm => hm.set mv2 j
            exact ⟨l, xs, z, j, rfl, rfl, hl2, by rw [hlen]; exact hj, hy'.ok _ _ _ _ m3⟩
        | _ => exact hy.no.elim
    | _ => exact hp1.no.elim
theorem st_app (g : GOk Z CX cl xp X ex G) {i : Nat} {e : IR} {x : Str} {p apos cpos pos : Pos} {v : Expr} (h1 : chkV G i x = true) (h2 : (apos.endLine == cpos.line) = true) (h3 : notStar v = true) (h4 : chk Z G e v = true) :
    PS X (.Expr (.Call (.Attribute (.Name x p) "append" apos) [v] [] cpos) pos) (RS X.K ex (evS cl (.app i e))) := by
  have pa : PA X [v] (tCons (RO X.K ex (evO cl false e)) tNil) := pa_cons (snO e false X ex G v g h4) pa_nil (star_cons h3 _ _)
  have hfew : ((backTo cpos (starEach [v] X.env)).all (fun x => !x.1) && (backToKw cpos (keywordEach [] X.env)).all (fun x => x.1.isSome) && decide ([v].length + ([] : List Keyword).length + (if ([] : List Keyword).isEmpty then 0 else 1) < 30)) = true := by
    rw [star_cons h3]
    rfl
  refine psMono (ps_expr (pe_bm PySem.F.plainAttrs_list PySem.F.slot_list_append PySem.F.type_list_append mt_append (pv_of g h1) pa rfl hfew h2 (star_cons h3 _ _) rfl)) fun Dn σ H h => ?_
  obtain ⟨B, F, τ, f, m, q⟩ := h
  have q0 : PO' ex (match slotD τ i with | some (.lst _ _) => (bnd (evO cl false e τ) fun p => (match slotD p.2 i with | some (.lst true ds) => grd (szLt ds.length) (.ok (.nx (p.2.set i (some (.lst true (ds ++ [p.1])))))) | _ => stk)) | _ => stk) (Fk X.K B Dn) := q
  cases z0 : slotD τ i with
  | none => rw [z0] at q0; exact q0.no.elim
  | some d0 =>
    rw [z0] at q0
    cases d0 with
    | lst o0 ds0 =>
      obtain ⟨v0, fv0, g0, a1, a2, a3, a4⟩ := m.rps.at z0
      have hq : ∃ l xs, v0 = .ref l ∧ SqL X.K H l xs := by
        cases a2 with
        | lstS _ b1 _ => exact ⟨_, _, rfl, .inl b1⟩
        | lstK b1 _ => exact ⟨_, _, rfl, b1.sq⟩
        | lstO _ b1 _ => exact ⟨_, _, rfl, .inl (.inl b1)⟩
      obtain ⟨l, xs0, rfl, hq⟩ := hq
      refine ⟨.ref l, a1, .inl ⟨rfl, xs0, hq⟩, m.ro (PO'.bnd q0) fun p v H' F' fv f' o hp => ?_⟩
      obtain ⟨m', hb⟩ := m.ow o
      cases zs : slotD p.2 i with
      | none => rw [zs] at hp; exact hp.no.elim
      | some d =>
        rw [zs] at hp
        cases d with
        | lst ow ds =>
          cases ow with
          | false => exact hp.no.elim
          | true =>
            obtain ⟨gd, hp⟩ := PO'.grd hp
            obtain ⟨l', xs, hσ, hl, hlen⟩ := own_at m'.rps zs
            rw [a1] at hσ
            cases hσ
            obtain ⟨f'', m3⟩ := m'.write (ys := xs ++ [v]) (ds' := ds ++ [p.1]) zs a1 hl o.rep o.nod hb fun fi hm => hm.snoc o.rep
            exact ⟨l, xs, v, rfl, rfl, hl, by rw [hlen]; exact szLt_lt gd, hp.ok _ _ _ _ m3⟩
        | _ => exact hp.no.elim
    | _ => exact q0.no.elim
theorem Fk.rt_of {K : PySem.W.Frag} {B : Bs} {F F' : Addr → Prop} {H H' : Hp} {σ : St} {τ τ' : Ev} {f f' : List Addr} {v : V} {d : D} {fv : List Addr} (m : Frm K B F H σ τ f) (o : Ow K F H f F' H' σ v d fv τ' f') : Out K B.F B.H F' H' v d fv := by
  obtain ⟨m', hb⟩ := m.ow o
  exact ⟨m'.fok, m'.same, o.rep, (List.nodup_append.mp o.nod).1, hb, m'.inn, m'.out⟩
theorem st_ret (g : GOk Z CX cl xp X ex G) {e : IR} {v : Expr} {pos : Pos} (h : chk Z G e v = true) : PS X (.Return (some v) pos) (RS X.K ex (evS cl (.ret e))) := by
  refine psMono (ps_ret (snO e true X ex G v g h)) fun Dn σ H ⟨B, F, τ, f, m, q⟩ => ?_
  exact m.ro (PO'.bnd q) fun p v H' F' fv f' o hp => hp.ok _ _ _ _ (Fk.rt_of m o)
theorem st_exp (g : GOk Z CX cl xp X ex G) {e : IR} {v : Expr} {pos : Pos} (hc : notComp v = true) (h : chk Z G e v = true) : PS X (.Expr v pos) (RS X.K ex (evS cl (.exp e))) := by
  refine psMono (ps_expr (snd e X ex G v g h).1 (by cases v <;> first | rfl | cases hc)) fun Dn σ H ⟨B, F, τ, f, m, q⟩ => ?_
  exact m.rd (PO'.bnd q) fun d v H' m' _ _ hd => hd.ok _ _ _ _ m'
theorem st_if {c : Expr} {x y : List Stmt} {pos : Pos} {t : IR} {a b : List IS} (hc : PT X c (RT X.K ex (vars t) fun τ => bnd (evR cl t τ) truD)) (ha : PSs X x (RS X.K ex (evSs cl a))) (hb : PSs X y (RS X.K ex (evSs cl b))) : PS X (.If c x y pos) (RS X.K ex (evS cl (.if_ t a b))) := by
  refine psMono (ps_if hc ha hb) fun Dn σ H ⟨B, F, τ, f, m, q⟩ => ?_
  refine m.rt (PO'.bnd q) fun r H' m' _ hr => ?_
  cases r with
  | true => rw [if_pos rfl] at hr ⊢; exact ⟨B, F, τ, f, m', hr⟩
  | false => rw [if_neg Bool.false_ne_true] at hr ⊢; exact ⟨B, F, τ, f, m', hr⟩
theorem Frm.less {K : PySem.W.Frag} {B : Bs} {L : Addr → List V → Prop} {T : Addr → List V ⊕ Str → Prop} {F : Addr → Prop} {H : Hp} {σ : St} {τ : Ev} {f : List Addr} (m : Frm K ⟨B.F, B.H, fun a xs => B.L a xs ∨ L a xs, fun a xs => B.T a xs ∨ T a xs⟩ F H σ τ f) : Frm K B F H σ τ f :=
  ⟨m.fok, m.rps, m.nod, m.same, m.own, m.inn, m.out, fun a xs h => m.pin a xs (.inl h), fun a xs h => m.pit a xs (.inl h)⟩
theorem ers_drop : ∀ (ds : List D) (i : Nat), (ers ds).drop i = ers (ds.drop i) := by
  intro ds i
  rw [ers_map, ers_map, List.map_drop]
theorem for_core {J : It} {K : PySem.W.Frag} {B : Bs} {F : Addr → Prop} {H : Hp} {σ : St} {τ : Ev} {f : List Addr} {T : Tg} {body : List IS} {its : List D} {Dn : Ends} (m : Frm K B F H σ τ f) (w : Wlk K F H J its)
    (q : PO' ex (forM (fun x τ => bnd (setT T x τ) fun τ' => evSs cl body τ') (ers its) τ) (Fk K B Dn)) :
    ∃ W : Nat → Nat → St → Hp → Prop, (∃ m, W 0 m σ H) ∧ ∀ i m σ H, W i m σ H → (J.stop i H ∧ Dn.nx σ H) ∨ (J.go i H ∧ ∃ N : St → Hp → Prop, (∀ σ' H', N σ' H' → ∃ m', m' < m ∧ W (i + 1) m' σ' H') ∧
      ∀ x H', J.yld i H x H' → gT K T x σ H' fun σ2 H2 => RS K ex (evSs cl body) { Dn with nx := N, ct := N, bk := Dn.nx } σ2 H2) := by
  let B' : Bs := ⟨B.F, B.H, fun a xs => B.L a xs ∨ (F a ∧ Rd H a (.lst xs)), fun a xs => B.T a xs ∨ SqE K H a xs⟩
  have m0 : Frm K B' F H σ τ f := ⟨m.fok, m.rps, m.nod, m.same, m.own, m.inn, m.out, fun a xs h => h.elim (m.pin a xs) id, fun a xs h => h.elim (m.pit a xs) id⟩
  let bd : D → Ev → Res Fl := fun x τ => bnd (setT T x τ) fun τ' => evSs cl body τ'
  refine ⟨fun i n σ H => n = its.length - i ∧ i ≤ its.length ∧ ∃ F τ f, Frm K B' F H σ τ f ∧ PO' ex (forM bd ((ers its).drop i) τ) (Fk K B Dn), ⟨its.length, by simp, Nat.zero_le _, F, τ, f, m0, by rw [List.drop_zero]; exact q⟩, ?_⟩
  rintro i n σ1 H1 ⟨rfl, hi, F1, τ1, f1, m1, q1⟩
  have w1 : Wlk K F1 H1 J its := w.step (fun a xs h r => m1.pin a xs (.inr ⟨h, r⟩)) fun a xs h => m1.pit a xs (.inr h)
  by_cases hlt : i < its.length
  · refine .inr ⟨w1.go hlt, fun σ H => ∃ F τ f, Frm K B' F H σ τ f ∧ PO' ex (forM bd ((ers its).drop (i + 1)) τ) (Fk K B Dn), fun σ' H' h => ⟨its.length - (i + 1), by omega, rfl, hlt, h⟩, fun x H' y => ?_⟩
    obtain ⟨eH, mx⟩ := w1.yld y (d := its[i]) (by simp [hlt])
    subst eH
    have hd : (ers its).drop i = er its[i] :: (ers its).drop (i + 1) := by
      rw [ers_drop, List.drop_eq_getElem_cons hlt, ers, ers_drop]
    rw [hd] at q1
    have q2 := PO'.bnd q1
    refine m1.gT mx.frozen (by simpa using m1.nod) (fun a ha => absurd ha (by simp)) (PO'.bnd q2) fun τ' σ' f' m' h' => ?_
    refine ⟨B', F1, τ', f', m', h'.mono fun r hr => ?_⟩
    cases r with
    | nx τ' => exact fun σ' H' F' f' m'' => ⟨F', τ', f', m'', hr⟩
    | rt d => exact fun v H' F' fv o => hr.ok _ _ _ _ o
  · have e : i = its.length := by omega
    subst e
    refine .inl ⟨w1.stop (Nat.le_refl _), ?_⟩
    have : (ers its).drop its.length = [] := by rw [← ers_length its, List.drop_length]
    rw [this] at q1
    exact q1.ok _ _ _ _ m1.less
theorem ers_rng (a b : Int) : ers (rngD a b) = rngD a b := by
  unfold rngD
  rw [ers_map, List.map_map]
  rfl
noncomputable def evRng (cl : Nat → List D → Res D) : Sr → Ev → Res (Int × Int)
  | .rng1 n, τ => bnd (evR cl n τ) fun | .int i => grd (rngOk i) (.ok (0, i)) | _ => stk
  | _, _ => stk
noncomputable def RIr (K : PySem.W.Frag) (ex : Str → Prop) (is : List Nat) (f : Ev → Res (Int × Int)) : TI := fun σ H R => ∃ S τ, Slots K S H σ τ is ∧ PO' ex (f τ) fun p => ∀ H', Same H H' → R (Itr p.1 (p.2 - p.1).toNat) H'
noncomputable def isRng : Sr → Bool
  | .rng1 _ => true
  | _ => false
theorem evSr_rng {s : Sr} (h : isRng s = true) {τ : Ev} {k : List D → Prop} (q : PO' ex (evSr cl s τ) k) : PO' ex (evRng cl s τ) fun p => k (rngD p.1 p.2) := by
  cases s with
  | rng1 n =>
    refine PO'.mk ((PO'.bnd (show PO' ex (bnd (evR cl n τ) fun | .int i => grd (rngOk i) (.ok (rngD 0 i)) | _ => stk) k from q)).mono fun d hd => ?_)
    cases d with
    | int i =>
      obtain ⟨gd, hd⟩ := PO'.grd hd
      show PO' ex (grd (rngOk i) (.ok (0, i))) _
      unfold grd
      rw [if_pos gd]
      exact hd.ok
    | _ => exact hd.no.elim
  | _ => first | exact no_h h | cases h
theorem sndR (s : Sr) (X : Cx) (ex : Str → Prop) (G : Gm) (e tg : Expr) (g : GOk Z CX cl xp X ex G) (h : chkSr Z G s e = true) (hr : isRng s = true) : PI X tg e (RIr X.K ex (varsS s) (evRng cl s)) := by
  cases s with
  | rng1 n =>
    obtain ⟨x, p, args, pos, rfl, q1⟩ := cnv_ok (k := fun x args => on1 (fun a => x == "range" && G.gl.contains 15 && notStar a && chk Z G n a) args) h
    obtain ⟨a, rfl, q2⟩ := on1_ok q1
    simp only [Bool.and_eq_true] at q2
    have e1 : x = "range" := eq_of_beq q2.1.1.1
    subst e1
    obtain ⟨k1, k2, _, _⟩ := gb_of g (show bnames[15]? = some ("range" : Str) from rfl) q2.1.1.2
    refine piMono (pi_range1 k1 k2 (pa_cons (snd n X ex G a g q2.2).1 pa_nil (star_cons q2.1.2 _ _)) (star_cons q2.1.2 _ _)) fun σ H Q ⟨S, τ, hs, q⟩ => ?_
    refine rdAt (.refl _) hs (PO'.bnd q) fun x v H1 e1 _ m1 q1 => ?_
    cases x with
    | int i =>
      cases m1.intR
      obtain ⟨gd, q1⟩ := PO'.grd q1
      have gd' : -(2 ^ 62) ≤ i ∧ i < 2 ^ 62 := of_decide_eq_true gd
      refine ⟨i, rfl, gd'.1, gd'.2, ?_⟩
      have := q1.ok _ e1
      rw [show (0, i).2 - (0, i).1 = i from Int.sub_zero i] at this
      exact this
    | _ => exact q1.no.elim
  | _ => exact no_h hr
theorem st_for (g : GOk Z CX cl xp X ex G) {t it : Expr} {x : List Stmt} {pos : Pos} {T : Tg} {s : Sr} {a : List IS} (hT' : (G.cm = true ∧ G.rs = true) ∧ chkT G T t = true) (hs : chkSr Z G s it = true) (ha : PSs X x (RS X.K ex (evSs cl a))) : PS X (.For t it x [] pos) (RS X.K ex (evS cl (.for_ T s a))) := by
  have hT := hT'.2
  by_cases hr : isRng s = true
  · refine psMono (ps_for (g.own hT'.1.2) (g.calm hT'.1.1) (sndR s X ex G it t g hs hr) (pgT g T t hT) ha (fun x => folded_src hs X.env x)) fun Dn σ H ⟨B, F, τ, f, m, q⟩ => ?_
    have q0 : PO' ex (bnd (srcO cl s τ) fun p => forM (fun x τ => bnd (setT T x τ) fun τ' => evSs cl a τ') p.1 p.2) (Fk X.K B Dn) := q
    have base : PO' ex (evSr cl s τ) fun its => PO' ex (forM (fun x τ => bnd (setT T x τ) fun τ' => evSs cl a τ') its τ) (Fk X.K B Dn) := by
      cases s with
      | rng1 u => exact (PO'.bnd (show PO' ex (bnd (evSr cl (.rng1 u) τ) fun its => .ok (its, τ)) _ from PO'.bnd q0)).mono fun its h => h.ok
      | _ => cases hr
    exact ⟨fun _ => True, τ, all_slots m.rps, (evSr_rng hr base).mono fun p hp H1 e1 => for_core (m.grow e1) (.rng p.1 p.2) (by rw [ers_rng]; exact hp)⟩
  · refine psMono (ps_for (g.own hT'.1.2) (g.calm hT'.1.1) (sndS s X ex G it t g hs) (pgT g T t hT) ha (fun x => folded_src hs X.env x)) fun Dn σ H ⟨B, F, τ, f, m, q⟩ => ?_
    have q0 : PO' ex (bnd (srcO cl s τ) fun p => forM (fun x τ => bnd (setT T x τ) fun τ' => evSs cl a τ') p.1 p.2) (Fk X.K B Dn) := q
    have q1 := PO'.bnd q0
    have hsrc : srcO cl s τ = (bnd (evSr cl s τ) fun its => .ok (ers its, frz (varsS s) τ)) := by
      cases s with
      | val u => rfl
      | rng2 u v => rfl
      | _ => exact absurd rfl hr
    rw [hsrc] at q1
    obtain ⟨F1, gg, b1, b2, b3, b4, b5, b6⟩ := freeze1 (varsS s) m.fok m.rps m.nod
    refine riAt (.refl _) b6 (PO'.bnd q1) fun its J H1 e1 _ w1 hk => ?_
    obtain ⟨c1, c2, c3⟩ := grow (fun _ => True) b1 b2 e1
    have m2 : Frm X.K B (fun a => F1 a ∨ (True ∧ H a = none ∧ H1 a ≠ none)) H1 σ (frz (varsS s) τ) gg := m.stp (b4.trans c3 (fun x hx => .inl (b5 x hx))) c1 c2 b3 fun a ha => .inl (b5 a ha)
    exact for_core m2 (w1.step (fun a xs h r => ⟨h.elim (fun z => .inl z) fun z => .inr ⟨trivial, z, r.some⟩, r⟩) fun a xs h => h) hk.ok
mutual
theorem snS : ∀ (a : IS) (X : Cx) (ex : Str → Prop) (G : Gm) (s : Stmt), GOk Z CX cl xp X ex G → chkS Z G a s = true → PS X s (RS X.K ex (evS cl a))
  | .asg tg e, X, ex, G, s, g, h => by
    obtain ⟨t, v, pos, rfl, q1⟩ := asv_ok (k := fun t v => (isNm tg && chkT G tg t) && chk Z G e v) h
    simp only [Bool.and_eq_true] at q1
    exact st_asg g q1.1.1 q1.1.2 q1.2
  | .setix i k e, X, ex, G, s, g, h => by
    obtain ⟨t, v, pos, rfl, q1⟩ := asv_ok (k := fun t v => sbv (fun o s => nmv (fun x => chkV G i x) o && notSlice s && chk Z G k s && chk Z G e v) t) h
    obtain ⟨o, s, sp, rfl, q2⟩ := sbv_ok q1
    simp only [Bool.and_eq_true] at q2
    obtain ⟨x, p, rfl, hx⟩ := nmv_ok q2.1.1.1
    exact st_setix g hx q2.1.1.2 q2.1.2 q2.2
  | .app i e, X, ex, G, s, g, h => by
    obtain ⟨v, pos, rfl, q1⟩ := exv_ok (k := fun v => clv (fun f args cpos => atv (fun o name apos => nmv (fun x => chkV G i x) o && name == "append" && apos.endLine == cpos.line && on1 (fun v => notStar v && chk Z G e v) args) f) v) h
    obtain ⟨f, args, cpos, rfl, q2⟩ := clv_ok q1
    obtain ⟨o, name, apos, rfl, q3⟩ := atv_ok q2
    simp only [Bool.and_eq_true] at q3
    obtain ⟨x, p, rfl, hx⟩ := nmv_ok q3.1.1.1
    obtain ⟨v, rfl, hv⟩ := on1_ok q3.2
    have hv' := Bool.and_eq_true_iff.mp hv
    have e1 : name = "append" := eq_of_beq q3.1.1.2
    subst e1
    exact st_app g hx q3.1.2 hv'.1 hv'.2
  | .appx i k e, X, ex, G, s, g, h => by
    obtain ⟨v, pos, rfl, q1⟩ := exv_ok (k := fun v => clv (fun f args cpos => atv (fun o name apos => sbv (fun o s => nmv (fun x => chkV G i x) o && ctv (fun c => chkC (.int ((k : Nat) : Int)) c) s) o && name == "append" && apos.endLine == cpos.line && on1 (fun v => notStar v && chk Z G e v) args) f) v) h
    obtain ⟨f, args, cpos, rfl, q2⟩ := clv_ok q1
    obtain ⟨o, name, apos, rfl, q3⟩ := atv_ok q2
    simp only [Bool.and_eq_true] at q3
    obtain ⟨o, s, sp, rfl, q4⟩ := sbv_ok q3.1.1.1
    have q5 := Bool.and_eq_true_iff.mp q4
    obtain ⟨x, p, rfl, hx⟩ := nmv_ok q5.1
    obtain ⟨c, j, cp, rfl, hc⟩ := ctv_ok q5.2
    obtain ⟨v, rfl, hv⟩ := on1_ok q3.2
    have hv' := Bool.and_eq_true_iff.mp hv
    have e1 : name = "append" := eq_of_beq q3.1.1.2
    have e2 := intC hc
    subst e1 e2
    exact st_appx g hx q3.1.2 hv'.1 hv'.2
  | .clrx i k, X, ex, G, s, g, h => by
    obtain ⟨v, pos, rfl, q1⟩ := exv_ok (k := fun v => clv (fun f args cpos => atv (fun o name apos => sbv (fun o s => nmv (fun x => chkV G i x) o && ctv (fun c => chkC (.int ((k : Nat) : Int)) c) s) o && name == "clear" && apos.endLine == cpos.line && args.isEmpty) f) v) h
    obtain ⟨f, args, cpos, rfl, q2⟩ := clv_ok q1
    obtain ⟨o, name, apos, rfl, q3⟩ := atv_ok q2
    simp only [Bool.and_eq_true] at q3
    obtain ⟨o, s, sp, rfl, q4⟩ := sbv_ok q3.1.1.1
    have q5 := Bool.and_eq_true_iff.mp q4
    obtain ⟨x, p, rfl, hx⟩ := nmv_ok q5.1
    obtain ⟨c, j, cp, rfl, hc⟩ := ctv_ok q5.2
    have e1 : name = "clear" := eq_of_beq q3.1.1.2
    have e2 := intC hc
    subst e1 e2
    cases args with
    | cons _ _ => exact no_h q3.2
    | nil => exact st_clrx g hx q3.1.2
  | .exp e, X, ex, G, s, g, h => by
    obtain ⟨v, pos, rfl, q1⟩ := exv_ok (k := fun v => notComp v && chk Z G e v) h
    have h' := Bool.and_eq_true_iff.mp q1
    exact st_exp g h'.1 h'.2
  | .ret e, X, ex, G, s, g, h => by
    obtain ⟨v, pos, rfl, q1⟩ := rtv_ok (k := fun v => chk Z G e v) h
    exact st_ret g q1
  | .if_ t a b, X, ex, G, s, g, h => by
    obtain ⟨c, x, y, pos, rfl, q1⟩ := ifv_ok (k := fun c x y => chk Z G t c && chkSs Z G a x && chkSs Z G b y) h
    simp only [Bool.and_eq_true] at q1
    exact st_if (snd t X ex G c g q1.1.1).2 (snSs a X ex G x g q1.1.2) (snSs b X ex G y g q1.2)
  | .for_ tg s body, X, ex, G, st, g, h => by
    obtain ⟨t, it, b, pos, rfl, q1⟩ := frv_ok (k := fun t it b => ((G.cm && G.rs) && chkT G tg t) && chkSr Z G s it && chkSs Z G body b) h
    simp only [Bool.and_eq_true] at q1
    exact st_for g q1.1.1 q1.1.2 (snSs body X ex G b g q1.2)
  | .raise_ n c w, X, ex, G, s, g, h => by
    obtain ⟨x, np, w', j, p, cpos, pos, rfl, q1⟩ := rsv_ok (k := fun x => G.rs && G.cm && chkG Z G n x && x == c && Z.rc.contains (n, c)) h
    simp only [Bool.and_eq_true] at q1
    have e := eq_of_beq q1.1.2
    subst e
    exact st_raise g q1.1.1.1.1 q1.1.1.1.2 q1.1.1.2 (by simpa using q1.2)
  | .tryx body n cs i hd, X, ex, G, s, g, h => no_h h
theorem snSs : ∀ (as : List IS) (X : Cx) (ex : Str → Prop) (G : Gm) (ss : List Stmt), GOk Z CX cl xp X ex G → chkSs Z G as ss = true → PSs X ss (RS X.K ex (evSs cl as))
  | [], X, ex, G, ss, g, h => by
    cases ss with
    | nil => exact pssMono pss_nil fun Dn σ H ⟨B, F, τ, f, m, q⟩ => q.ok _ _ _ _ m
    | cons _ _ => exact no_h h
  | a :: as, X, ex, G, ss, g, h => by
    cases ss with
    | nil => exact no_h h
    | cons s ss =>
      have h' : (chkS Z G a s && chkSs Z G as ss) = true := h
      simp only [Bool.and_eq_true] at h'
      refine pssMono (pss_cons (snS a X ex G s g h'.1) (snSs as X ex G ss g h'.2)) fun Dn σ H ⟨B, F, τ, f, m, q⟩ => ?_
      refine ⟨B, F, τ, f, m, (PO'.bnd q).mono fun r hr => ?_⟩
      cases r with
      | nx τ' => exact fun σ' H' F' f' m' => ⟨B, F', τ', f', m', hr⟩
      | rt d => exact hr.ok
end
end
end L2
namespace L2
open PySem PySem.Spec PyProof.Rows PySem.SeqAt
noncomputable def H0 : Hp := fun _ => none
noncomputable def CX1 (P : Program) (w : World) : CXT := fun outer H s E e s' => ∃ (a : Addr) (cls a0 : Value) (H' : Hp) (B : Heap), e = .ref a ∧ s'.os = s.os ∧ AllBare s'.gens ∧ Un (frs outer) [] H H' s.heap s'.heap ∧ HOk P w H' B ∧ Same H H' ∧
  (∀ b o, s.heap.get? b = some o → H b = none → b ∉ frs outer → B.get? b = some o) ∧ Heap.FlyingW B outer a cls a0 s'.heap ∧ E cls none H0
noncomputable def xp1 (K : PySem.W.Frag) : XK → Hp → Str → Prop := fun E _ c => ∀ C, PySem.W.nsIn K mainGlobals c = some (some (.ref C)) → E (.ref C) none H0
section
variable {P : Program} {w : World}
theorem cx1_hid {outer : List Env} {H : Hp} {s : Shared} {E : XK} {e : Value} {s' : Shared} (x : HOk P w H s.heap) (fr : ∀ b ∈ frs outer, H b = none) (h : CX1 P w outer (hidC s.heap H) s E e s') : CX1 P w outer H s E e s' := by
  obtain ⟨a, cls, a0, H', B, h1, h2, h3, h4, h5, _, h6, h7, h8⟩ := h
  exact ⟨a, cls, a0, resC H H', B, h1, h2, h3, res_un x h4, res_ok x h5 (un_pers h4) h6 fr, res_same, fun b o e n f => h6 b o e (hid_none n) f, h7, h8⟩
theorem cx1_no {outer : List Env} {H : Hp} {s : Shared} {e : Value} {s' : Shared} : ¬ CX1 P w outer H s (fun _ _ _ => False) e s' := fun ⟨_, _, _, _, _, _, _, _, _, _, _, _, _, z⟩ => z
variable {K : PySem.W.Frag} {mg : Str → Option Value} {base : Heap} {N : List Str} {qual : Str} {scope : Scope} {f : Addr} {cd : Value} {A : Around} {outer : List Env} {s : Shared} {H : Hp} {E : XK}
theorem cx_mk {H' : Hp} {B : Heap} {s2 : Shared} {a : Addr} {cls a0 : Value} (lt : LTH H) (os : s2.os = s.os) (bare : AllBare s2.gens) (fl : Heap.FlyingW B outer a cls a0 s2.heap) (hB : HOk P w H' B)
    (kB : ∀ b o, s.heap.get? b = some o → H b = none → b ∉ frs outer → B.get? b = some o) (hs : ∀ b o, s.heap.get? b = some o → H b = none → b ∈ frs outer → ∃ sl, s2.heap.get? b = some { o with slots := sl })
    (fr : ∀ b o, s.heap.get? b = some o → H b = none → H' b = none) (pz : ∀ b o u, H b = some (.frz o u) → H' b = some (.frz o u)) (pt : ∀ b xs, H b = some (.tup xs) → H' b = some (.tup xs)) (hE : E cls none H0) : CX1 P w outer H s E (.ref a) s2 := by
  refine ⟨a, cls, a0, H', B, rfl, os, bare, ⟨fun b o e n nf _ => fl.1 _ _ (kB b o e n nf), fun b o e n hf _ => hs b o e n hf, fun b o e n _ => fr b o e n, fun b o e _ => ?_, pt, pz, fun b ps e => ?_⟩, hB, fun b o e => (lt b o e).elim (fun ⟨ob, u, z⟩ => by subst z; exact pz _ _ _ e) fun ⟨xs, z⟩ => by subst z; exact pt _ _ e, kB, fl, hE⟩
  · cases q : H b with
    | none =>
      by_cases hf : b ∈ frs outer
      · obtain ⟨sl, h⟩ := hs b o e q hf
        exact ⟨_, h⟩
      · exact ⟨_, fl.1 _ _ (kB b o e q hf)⟩
    | some u =>
      have : ∃ u', H' b = some u' := by
        rcases lt b u q with ⟨ob, v, rfl⟩ | ⟨xs, rfl⟩
        · exact ⟨_, pz _ _ _ q⟩
        · exact ⟨_, pt _ _ q⟩
      obtain ⟨u', hu⟩ := this
      obtain ⟨ob, ho⟩ := (hB b u' hu).at
      exact ⟨_, fl.1 _ _ ho⟩
  · rcases lt b _ e with ⟨ob, v, z⟩ | ⟨xs, z⟩ <;> cases z
theorem cx_fr {b : Addr} {o : Obj} (e : s.heap.get? b = some o) (n : b ∉ frs outer) : b ∉ frs (envOfC qual scope s.heap.objs.size f cd :: outer) := fun z => by
  unfold frs at z n
  rcases List.mem_filterMap.mp z with ⟨env, hm, hf⟩
  rcases List.mem_cons.mp hm with rfl | hm
  · have h1 : s.heap.objs.size = b := Option.some.inj hf
    have h2 := Heap.lt_size e
    rw [h1] at h2
    exact Nat.lt_irrefl _ h2
  · exact n (List.mem_filterMap.mpr ⟨env, hm, hf⟩)
theorem cx_pass (lt : LTH H) {ex : Str → Prop} (hE : ∀ c C, ex c → PySem.W.nsIn K mainGlobals c = some (some (.ref C)) → E (.ref C) none H0) :
    Passes (CX1 P w) (cxOf (CX1 P w) P w K mg base N qual scope f cd A outer s H E) (fun cls _ _ => ∃ c C, ex c ∧ PySem.W.nsIn K mainGlobals c = some (some (.ref C)) ∧ cls = .ref C) := by
  intro pins σ H1 s1 e s' I ⟨a, cls, a0, H', B, he, os, bare, un, hB, _, kB, fl, c, C, hc, hn, hcls⟩
  subst he hcls
  have I' := I.call' os un (hB.kept fl.1) bare (fun b z => absurd z (by simp))
  show wpAny _ _ (leaving _ (.ref a)) _ _ s'
  refine wpAny_leaves_onW (show (A.deeper (envOfC qual scope s.heap.objs.size f cd)).frames = some (envOfC qual scope s.heap.objs.size f cd :: outer) from I.ok.frames) rfl fl fun h' fl' up => ?_
  refine cx_mk lt I'.os I'.bare fl' hB (fun b o e n nf => ?_) (fun b o e n hf => ?_) (fun b o e n => I'.base.free b o e n (by simp [cxOf])) I'.base.frzs I'.base.tups (hE c C hc hn)
  · exact kB b o (I.base.keep b o e n nf (by simp [cxOf])) (I.base.free b o e n (by simp [cxOf])) (cx_fr e nf)
  · obtain ⟨sl, h1⟩ := I'.base.slot b o e n hf (by simp [cxOf])
    obtain ⟨_, o', ho', nf⟩ := I.ok.funs.mem hf
    have ho' : s.heap.get? b = some o' := ho'
    rw [e] at ho'
    cases ho'
    obtain ⟨sl', h2⟩ := up b _ h1 nf
    exact ⟨sl', h2⟩
theorem cx_raise (lt : LTH H) {pins : List (Addr × Obj)} {σ : St} {H1 : Hp} {s1 : Shared} {C e : Addr} {h' : Heap} {vs : List Value} (hE : E (.ref C) none H0)
    (I : Inv (cxOf (CX1 P w) P w K mg base N qual scope f cd A outer s H E) pins σ H1 s1) (hx : Heap.MadeExcOf s1.heap h' e (.ref C) vs) :
    (cxOf (CX1 P w) P w K mg base N qual scope f cd A outer s H E).xe (.ref e) { s1 with heap := h' } := by
  have hin : ∀ env ∈ (cxOf (CX1 P w) P w K mg base N qual scope f cd A outer s H E).stack, ∀ b, env.frame = some b → b ∈ frs (cxOf (CX1 P w) P w K mg base N qual scope f cd A outer s H E).stack := fun env he b hb => List.mem_filterMap.mpr ⟨env, he, hb⟩
  show wpAny _ _ (leaving _ (.ref e)) _ _ _
  refine wpAny_leaves_madeW (base := PySem.W.hideAll s1.heap (frs (cxOf (CX1 P w) P w K mg base N qual scope f cd A outer s H E).stack)) (h := s1.heap) (show (A.deeper (envOfC qual scope s.heap.objs.size f cd)).frames = some (envOfC qual scope s.heap.objs.size f cd :: outer) from I.ok.frames) rfl (fun b o q => PySem.W.of_hideAll _ q) (PySem.W.funFrames_hide I.stack hin) hx fun h2 t fl _ _ up => ?_
  have trk : ∀ b u o, H1 b = some u → s1.heap.get? b = some o → (PySem.W.hideAll s1.heap (frs (cxOf (CX1 P w) P w K mg base N qual scope f cd A outer s H E).stack)).get? b = some o := fun b u o hu ho => PySem.W.hideAll_get _ ho fun z => by
    rw [I.stkFree b z] at hu; cases hu
  refine cx_mk (H' := H1) lt I.os I.bare fl (fun b o hb => ?_) (fun b o he n nf => ?_) (fun b o he n hf => ?_) (fun b o e n => I.base.free b o e n (by simp [cxOf])) I.base.frzs I.base.tups hE
  · refine (I.hok b o hb).stay (fun c u hc hu => ?_) (fun _ z => z) fun _ _ z => z
    rcases hc with rfl | hc
    · exact trk _ _ _ hb hu
    · exact trk _ _ _ hc hu
  · exact PySem.W.hideAll_get _ (I.base.keep b o he n nf (by simp [cxOf])) (cx_fr he nf)
  · obtain ⟨sl, h1⟩ := I.base.slot b o he n hf (by simp [cxOf])
    obtain ⟨_, o', ho', nf⟩ := I.ok.funs.mem hf
    have ho' : s.heap.get? b = some o' := ho'
    rw [he] at ho'
    cases ho'
    obtain ⟨sl', h3⟩ := up b _ (hx.keeps b _ h1) nf
    exact ⟨sl', h3⟩
end
end L2
namespace L2
open PySem PySem.Spec PyProof.Rows PySem.SeqAt
section
variable {X : Cx} {pins : List (Addr × Obj)} {σ : St} {H : Hp} {s : Shared}
theorem del_ok {M : Model} {A : Around} {E : Value → Shared → Prop} {i : Nat} {x : Str} {v : V} {Q : Unit → Shared → Prop} (I : Inv X pins σ H s) (hN : X.N.Nodup) (hi : X.N[i]? = some x) (hk : X.env.kindOf x = some .local) (hσ : σ[i]? = some (some v))
    (h : ∀ s', Inv X pins (σ.set i none) H s' → Q () s') : wpAny M A (unbindName X.env x) Q E s := by
  obtain ⟨m, hn, hl⟩ := id I.loc
  have hcls : (X.env.scope.kind == .class || (X.env.scope.kind == .module && X.env.locals != X.env.globals)) = false := by rw [I.ok.kind]; rfl
  have cne := I.cne
  obtain ⟨u, _, q⟩ := hl i x v hi hσ (.inl hk)
  have hv : m x = some u := by
    rcases q with ⟨_, e⟩ | ⟨k, _⟩
    · exact e
    · rw [hk] at k; rcases k with k | k <;> cases k
  refine wpAny_unbindName_local hk hn hv hcls fun h' w hn' hs => ?_
  obtain ⟨oL, _, _, hoL, _⟩ := id hn
  refine h _ ⟨I.ok, I.os, I.bare, ⟨fun b o e n hb hx => ?_, fun b o e n hb hx => ?_, I.base.free, fun b o e hx => ?_, I.base.tups, I.base.frzs, I.base.tbls⟩, ⟨_, hn', fun j y v' e1 e2 e3 => ?_⟩, fun y c e => ?_, I.free, I.freeC, fun p hp => ?_, fun b ob e => ?_, by simpa using I.len⟩
  · exact (hs.2 b (Nat.ne_of_lt (Nat.lt_of_lt_of_le (Heap.lt_size e) I.ok.above))).trans (I.base.keep b o e n hb hx)
  · obtain ⟨sl, e1⟩ := I.base.slot b o e n hb hx
    exact ⟨sl, (hs.2 b (Nat.ne_of_lt (Nat.lt_of_lt_of_le (Heap.lt_size e) I.ok.above))).trans e1⟩
  · obtain ⟨o', e1⟩ := I.base.there b o e hx
    exact ⟨o', (hs.2 b (Nat.ne_of_lt (Nat.lt_of_lt_of_le (Heap.lt_size e) I.ok.above))).trans e1⟩
  · have hj : j ≠ i := by
      rintro rfl
      have hlt : j < σ.length := (List.getElem?_eq_some_iff.mp hσ).1
      rw [List.getElem?_set_self hlt] at e2
      cases e2
    rw [List.getElem?_set_ne (Ne.symm hj)] at e2
    obtain ⟨u', r', q⟩ := hl j y v' e1 e2 e3
    refine ⟨u', r', ?_⟩
    rcases q with ⟨k, e⟩ | ⟨k, c, e, z⟩
    · refine .inl ⟨k, ?_⟩
      have : y ≠ x := fun e => hj (nodup_ix hN e1 (e ▸ hi))
      simp [this, e]
    · exact .inr ⟨k, c, e, z.sameBut hs (cne y c e)⟩
  · obtain ⟨w', z⟩ := I.cell y c e
    exact ⟨w', z.sameBut hs (cne y c e)⟩
  · obtain ⟨e, n, ne, nf, d⟩ := I.pin p hp
    exact ⟨(hs.2 p.1 ne).trans e, n, ne, nf, d⟩
  · refine (I.hok b ob e).stay (fun c w' hc q => (hs.2 c ?_).trans q) (fun _ q => q) fun _ _ q => q
    rintro rfl
    rcases hc with rfl | hc
    · rw [I.free] at e; cases e
    · rw [I.free] at hc; cases hc
theorem unb_ok {M : Model} {A : Around} {E : Value → Shared → Prop} {i : Nat} {x : Str} {pos : Pos} {Q : Unit → Shared → Prop} (I : Inv X pins σ H s) (hN : X.N.Nodup) (hi : X.N[i]? = some x) (hk : X.env.kindOf x = some .local)
    (h : ∀ s', Inv X pins (σ.set i none) H s' → Q () s') : wpAny M A (do bindName X.env x .none; unbindBehindTheSuite X.env x pos) Q E s := by
  have hiσ : i < σ.length := by rw [I.len]; exact (List.getElem?_eq_some_iff.mp hi).1
  unfold bindName unbindBehindTheSuite
  refine wpAny_bind (wpAny_bind (wpAny_holding (wpAny_point (wpAny_bind (store_ok (v := .non) I hN hi (.inl hk) rfl (fun s1 I1 => wpAny_point (wpAny_onRaise (del_ok I1 hN hi hk (v := .non) (by rw [List.getElem?_set_self hiσ]) fun s2 I2 => ?_))) (.inr hk))))))
  rw [List.set_set] at I2
  exact h s2 I2
theorem Inv.track {a : Addr} {o : Obj} {u : HO} (I : Inv X pins σ H s) (ha : s.heap.get? a = some o) (n : H a = none) (hu : ObjOk X.prog X.w (upd H a (.frz o u)) s.heap a u) (n0 : ∀ ob, X.s₀.heap.get? a = some ob → X.H₀ a = none → a ∉ X.ex → False)
    (n0' : X.H₀ a = none) (nl : a ≠ X.env.locals) (nc : ∀ x c, X.env.cells.lookup x = some c → c ≠ a) (np : ∀ p ∈ X.pn ++ pins, p.1 ≠ a) : Inv X pins σ (upd H a (.frz o u)) s := by
  refine ⟨I.ok, I.os, I.bare, ⟨I.base.keep, I.base.slot, fun b ob e z hx => ?_, I.base.there, fun b xs e => ?_, fun b ob v e => ?_, fun b ps e => ?_⟩, I.loc, I.cell, ?_, fun x c e => ?_, fun p hp => ?_, fun b ob e => ?_, I.len⟩
  · have : b ≠ a := by rintro rfl; exact n0 ob e z hx
    rw [upd_ne this]
    exact I.base.free b ob e z hx
  · have : b ≠ a := by rintro rfl; rw [n0'] at e; cases e
    rw [upd_ne this]; exact I.base.tups b xs e
  · have : b ≠ a := by rintro rfl; rw [n0'] at e; cases e
    rw [upd_ne this]; exact I.base.frzs b ob v e
  · have : b ≠ a := by rintro rfl; rw [n0'] at e; cases e
    obtain ⟨more, z⟩ := I.base.tbls b ps e
    exact ⟨more, by rw [upd_ne this]; exact z⟩
  · rw [upd_ne (Ne.symm nl)]; exact I.free
  · rw [upd_ne (nc x c e)]; exact I.freeC x c e
  · obtain ⟨e, z, r⟩ := I.pin p hp
    exact ⟨e, by rw [upd_ne (np p hp)]; exact z, r⟩
  · by_cases hb : b = a
    · subst hb
      rw [upd_same] at e
      cases e
      exact ⟨ha, hu⟩
    · rw [upd_ne hb] at e
      exact (I.hok b ob e).stay (fun _ _ _ z => z) (fun c z => by rw [upd_ne (ne_of_none z n)]; exact z) fun c xs z => by rw [upd_ne (ne_of_none z n)]; exact z
theorem fly_inv {H1 H' : Hp} {s1 s' : Shared} {B : Heap} {a : Addr} {cls a0 : Value} {h5 : Heap} (I : Inv X pins σ H1 s1) (os : s'.os = s1.os) (bare : AllBare s'.gens) (un : Un (frs X.stack) [] H1 H' s1.heap s'.heap) (hB : HOk X.prog X.w H' B) (sm : Same H1 H')
    (kB : ∀ b o, s1.heap.get? b = some o → H1 b = none → b ∉ frs X.stack → B.get? b = some o) (fl : Heap.FlyingW B X.stack a cls a0 h5) (up : s'.heap.UpToSlots h5) : Inv X pins σ H' { s' with heap := h5 } := by
  refine I.call' (s' := { s' with heap := h5 }) os ⟨fun b o e n nf _ => fl.1 _ _ (kB b o e n nf), fun b o e n hf _ => ?_, un.free, fun b o e _ => ?_, fun b xs e => sm _ _ e, fun b o u e => sm _ _ e, fun b ps e => ⟨#[], by rw [sm _ _ e]; simp⟩⟩ (hB.kept fl.1) bare (fun b z => absurd z (by simp))
  · obtain ⟨sl, h1⟩ := un.slot b o e n hf (by simp)
    obtain ⟨_, o', ho', nf⟩ := I.stack.mem hf
    rw [e] at ho'
    cases ho'
    obtain ⟨sl', h2⟩ := up b _ h1 nf
    exact ⟨sl', h2⟩
  · cases q : H1 b with
    | none =>
      by_cases hf : b ∈ frs X.stack
      · obtain ⟨sl, h1⟩ := un.slot b o e q hf (by simp)
        obtain ⟨_, o', ho', nf⟩ := I.stack.mem hf
        rw [e] at ho'
        cases ho'
        obtain ⟨sl', h2⟩ := up b _ h1 nf
        exact ⟨_, h2⟩
      · exact ⟨_, fl.1 _ _ (kB b o e q hf)⟩
    | some u =>
      obtain ⟨ob, ho⟩ := (hB b u (sm _ _ q)).at
      exact ⟨_, fl.1 _ _ ho⟩
end
theorem Rps.drop {K : PySem.W.Frag} {F : Addr → Prop} {H : Hp} {o : Option V} {σ : St} {τ : Ev} {f : List Addr} (i : Nat) (h : Rps K F H σ τ f) (nd : f.Nodup) : ∃ g, Rps K F H (σ.set i o) (τ.set i Option.none) g ∧ g.Nodup ∧ ∀ a ∈ g, a ∈ f := by
  induction h generalizing i with
  | nil => exact ⟨[], .nil, nd, fun _ h => h⟩
  | none h ih =>
    cases i with
    | zero => exact ⟨_, .none h, nd, fun _ h => h⟩
    | succ i =>
      obtain ⟨g, h1, h2, h3⟩ := ih i nd
      exact ⟨g, .none h1, h2, h3⟩
  | @some _ _ f0 _ _ _ m h ih =>
    obtain ⟨nd1, nd2, nd3⟩ := List.nodup_append.mp nd
    cases i with
    | zero => exact ⟨_, .none h, nd2, fun _ h => List.mem_append_right _ h⟩
    | succ i =>
      obtain ⟨g, h1, h2, h3⟩ := ih i nd2
      exact ⟨f0 ++ g, .some m h1, List.nodup_append.mpr ⟨nd1, h2, fun a ha b hb => nd3 a ha b (h3 b hb)⟩, fun a ha => (List.mem_append.mp ha).elim (List.mem_append_left _) fun z => List.mem_append_right _ (h3 a z)⟩
theorem rps_none {K : PySem.W.Frag} {F : Addr → Prop} {H : Hp} {σ : St} {n : Nat} (h : σ.length = n) : Rps K F H σ (List.replicate n none) [] := by
  subst h
  induction σ with
  | nil => exact .nil
  | cons _ σ ih => exact .none ih
end L2
namespace L2
open PySem PySem.Spec PyProof.Rows PySem.SeqAt
noncomputable def xTry (X : Cx) (pins : List (Addr × Obj)) (E : Value → Shared → Prop) : Cx := { X with xe := E, pn := X.pn ++ pins }
noncomputable def xSuite (X : Cx) (a : Addr) : Cx := { X with A := X.A.mark (some (.ref a)), calm := false, xe := fun _ _ => False }
noncomputable def RSB (K : PySem.W.Frag) (B : Bs) (ex : Str → Prop) (g : Ev → Res Fl) : TS := fun Dn σ H => ∃ F τ f, Frm K B F H σ τ f ∧ PO' ex (g τ) (Fk K B Dn)
section
variable {X : Cx} {pins pins' : List (Addr × Obj)} {σ : St} {H : Hp} {s : Shared} {E : Value → Shared → Prop} {a : Addr}
theorem inv_try (I : Inv X pins σ H s) : Inv (xTry X pins E) [] σ H s :=
  ⟨⟨I.ok.mod, I.ok.kind, I.ok.glob, I.ok.blt, I.ok.above, I.ok.inj, I.ok.has, I.ok.cab, I.ok.hd, I.ok.frames, I.ok.stk, I.ok.exf, I.ok.bs, I.ok.bsz, I.ok.noex, I.ok.exfs, I.ok.funs, I.ok.frf⟩, I.os, I.bare, I.base, I.loc, I.cell, I.free, I.freeC, fun p hp => I.pin p (by simpa [xTry] using hp), I.hok, I.len⟩
theorem inv_untry (I : Inv (xTry X pins E) pins' σ H s) : Inv X pins σ H s :=
  ⟨⟨I.ok.mod, I.ok.kind, I.ok.glob, I.ok.blt, I.ok.above, I.ok.inj, I.ok.has, I.ok.cab, I.ok.hd, I.ok.frames, I.ok.stk, I.ok.exf, I.ok.bs, I.ok.bsz, I.ok.noex, I.ok.exfs, I.ok.funs, I.ok.frf⟩, I.os, I.bare, I.base, I.loc, I.cell, I.free, I.freeC, fun p hp => I.pin p (List.mem_append_left _ hp), I.hok, I.len⟩
theorem inv_suite (I : Inv X pins σ H s) : Inv (xSuite X a) pins σ H s :=
  ⟨⟨I.ok.mod, I.ok.kind, I.ok.glob, I.ok.blt, I.ok.above, I.ok.inj, I.ok.has, I.ok.cab, (fun z => nomatch z), I.ok.frames, I.ok.stk, I.ok.exf, I.ok.bs, I.ok.bsz, I.ok.noex, I.ok.exfs, I.ok.funs, I.ok.frf⟩, I.os, I.bare, I.base, I.loc, I.cell, I.free, I.freeC, I.pin, I.hok, I.len⟩
theorem inv_unsuite (ok : X.Ok) (I : Inv (xSuite X a) pins σ H s) : Inv X pins σ H s :=
  ⟨ok, I.os, I.bare, I.base, I.loc, I.cell, I.free, I.freeC, I.pin, I.hok, I.len⟩
end
section
variable {Z : Sg} {CX : CXT} {cl : Nat → List D → Res D} {xp : XK → Hp → Str → Prop} {X : Cx} {ex : Str → Prop} {G : Gm} {pins : List (Addr × Obj)} {a : Addr}
theorem gok_nox (g : GOk Z CX cl xp X ex G) : GOk Z CX cl xp X.nox nox { G with rs := false } where
  N := g.N
  nod := g.nod
  calm := g.calm
  fk := g.fk
  un := g.un
  own := fun z => by cases z
  kd := g.kd
  noD := g.noD
  gl := g.gl
  nam := g.nam
  df := g.df
  blt := g.blt
  cst := g.cst
  fns := g.fns
  xcv := g.xcv
  xcl := g.xcl
  xmt := g.xmt
  xrs := g.xrs
  rse := fun z => by cases z
  exs := ⟨fun _ _ _ => False, fun pins σ H s e s' _ h => (g.exn _ _ _ _ _ h).elim, fun c _ z => z.elim⟩
  hid := g.hid
  exn := g.exn
theorem gok_try (g : GOk Z CX cl xp X ex G) {E : Value → Shared → Prop} {ex' : Str → Prop} (hE : ∃ E' : XK, Passes CX (xTry X pins E) E' ∧ ∀ c H, ex' c → xp E' H c) : GOk Z CX cl xp (xTry X pins E) ex' { G with rs := false } where
  N := g.N
  nod := g.nod
  calm := g.calm
  fk := g.fk
  un := g.un
  own := fun z => by cases z
  kd := g.kd
  noD := g.noD
  gl := g.gl
  nam := g.nam
  df := g.df
  blt := g.blt
  cst := g.cst
  fns := g.fns
  xcv := g.xcv
  xcl := g.xcl
  xmt := g.xmt
  xrs := g.xrs
  rse := fun z => by cases z
  exs := hE
  hid := g.hid
  exn := g.exn
theorem gok_suite (g : GOk Z CX cl xp X ex G) (hpl : ∀ f ∈ Z.fns, f ∈ Z.pl → ∀ x, Z.name f = some x → FnC X.prog X.w X.K X.mg X.base CX (X.A.mark (some (.ref a))) cl xp f x) : GOk Z CX cl xp (xSuite X a) nox { G with cm := false, rs := false } where
  N := g.N
  nod := g.nod
  calm := fun z => by cases z
  fk := g.fk
  un := g.un
  own := fun z => by cases z
  kd := g.kd
  noD := g.noD
  gl := g.gl
  nam := g.nam
  df := g.df
  blt := g.blt
  cst := g.cst
  fns := fun f hf h x hx => hpl f hf (h.elim (fun z => by cases z) id) x hx
  xcv := g.xcv
  xcl := g.xcl
  xmt := g.xmt
  xrs := g.xrs
  rse := fun z => by cases z
  exs := ⟨fun _ _ _ => False, fun pins σ H s e s' _ h => (g.exn _ _ _ _ _ h).elim, fun c _ z => z.elim⟩
  hid := g.hid
  exn := g.exn
noncomputable def catchE (X : Cx) (pins : List (Addr × Obj)) (Dn : Ends) (hs : List ExceptHandler) : Value → Shared → Prop := fun e s1 =>
  wpAny (model X.prog X.w) X.A (noteFrame e X.env) (fun _ s2 => wpAny (model X.prog X.w) X.A (setFlight e none) (fun _ s3 => wpAny (model X.prog X.w) X.A (handleBy e X.env hs) (SP X pins Dn) X.xe s3) X.xe s2) X.xe s1
theorem catch_ok (g : GOk Z (CX1 X.prog X.w) cl xp X ex G) (hst : X.stack = X.env :: X.outer) (hfr : X.env.frame = some X.env.locals) (lt : LTH X.H₀) (hpl : ∀ a : Addr, ∀ f ∈ Z.fns, f ∈ Z.pl → ∀ x, Z.name f = some x → FnC X.prog X.w X.K X.mg X.base (CX1 X.prog X.w) (X.A.mark (some (.ref a))) cl xp f x)
    {B0 : Bs} (hB0 : B0.H = X.H₀) (hBF : FOk B0.F B0.H) (hBL : ∀ a xs, ¬ B0.L a xs) (hBT : ∀ a xs, ¬ B0.T a xs) {hd : List IS} {n i : Nat} {c x y : Str} {np hpos : Pos} {b0 : Stmt} {suite : List Stmt} {Dn : Ends} {C C' : Addr} {N : Nat}
    (h2 : chkG Z G n x = true) (hn : PySem.W.nsIn X.K mainGlobals c = some (some (.ref C))) (hnm : nameIn X.K C = some c) (hm : X.mg x = some (.ref C')) (hex : PySem.W.exmOne X.K (.ref C) (.ref C') = some true) (h4 : G.N[i]? = some y) (h5 : G.kd[i]? = some .local)
    (h6 : chkSs Z { G with cm := false, rs := false } hd (b0 :: suite) = true) (hN : N = X.N.length) (q : PO' ex (bnd (noX (evSs cl hd ((List.replicate N none).set i (some (.exc c))))) fun | .nx τ' => .ok (.nx (τ'.set i none)) | _ => stk) (Fk X.K B0 Dn)) :
    Passes (CX1 X.prog X.w) (xTry X pins (catchE X pins Dn [.ExceptHandler (some (.Name x np)) (some y) (b0 :: suite) hpos])) (fun cls _ _ => cls = .ref C) := by
  intro pins' σ' H1 s1 e s' I2 ⟨a, cls, a0, H', B, he, os, bare, un, hB, sm, kB, fl, hcls⟩
  subst he hcls
  obtain ⟨k1, k2, k3, k4⟩ := gl_of g h2
  have hk : X.env.kindOf y = some .local := (g.kd i y h4).trans h5
  have hNd : X.N.Nodup := by rw [g.N]; exact g.nod
  have hi : X.N[i]? = some y := by rw [g.N]; exact h4
  have ok := (inv_untry I2).ok
  have fl0 : Heap.FlyingW B (X.env :: X.outer) a (.ref C) a0 s'.heap := hst ▸ fl
  show wpAny (model X.prog X.w) X.A (noteFrame (.ref a) X.env) _ X.xe s'
  refine wpAny_looks_onW (A := X.A) (by rw [← hst]; exact ok.frames) hfr fl0 fun h4' held4 up4 => ?_
  refine wpAny_landsW held4 fun h5' fl5 up5 => ?_
  have I5 : Inv (xTry X pins (catchE X pins Dn [.ExceptHandler (some (.Name x np)) (some y) (b0 :: suite) hpos])) pins' σ' H' { s' with heap := h5' } := fly_inv I2 os bare un hB sm kB (show Heap.FlyingW B X.stack a (.ref C) a0 h5' from hst ▸ fl5) (up4.trans up5)
  have J5 : Inv (xSuite X a) pins σ' H' { s' with heap := h5' } := inv_suite (inv_untry I5)
  refine wpAny_handleBy_cons (codeAny_handlers_test (ld_glob J5 k1 hm ?_ k4)) (by intro q; cases q)
  obtain ⟨oe5, he5, hc5⟩ := fl5.there
  refine (PySem.W.exm_one J5.kIn (IX.type ⟨oe5, he5, hc5⟩) hex).here ?_
  refine codeAny_handlers_suite_as ?_
  refine lands_againW fl5 fun h6' fl6 up6 => ?_
  have I6 : Inv (xTry X pins (catchE X pins Dn [.ExceptHandler (some (.Name x np)) (some y) (b0 :: suite) hpos])) pins' σ' H' { s' with heap := h6' } := fly_inv I2 os bare un hB sm kB (show Heap.FlyingW B X.stack a (.ref C) a0 h6' from hst ▸ fl6) ((up4.trans up5).trans up6)
  obtain ⟨oe, vs, he6, hc6, hd6, _⟩ := fl6.first
  have na : H' a = none := by
    cases z : H' a with
    | none => rfl
    | some u =>
      obtain ⟨ob, ho⟩ := (hB a u z).at
      rw [fl6.2.1] at ho; cases ho
  have nst : ∀ b, b ∉ X.fs → b ≠ X.env.locals → b ∉ frs X.stack := fun b h1 h2 z => by
    rw [hst] at z
    unfold frs at z
    rcases List.mem_filterMap.mp z with ⟨env, hm, hf⟩
    rcases List.mem_cons.mp hm with rfl | hm
    · rw [hfr] at hf; exact h2 (Option.some.inj hf).symm
    · exact h1 (List.mem_filterMap.mpr ⟨env, hm, hf⟩)
  have nl : a ≠ X.env.locals := by
    rintro rfl
    obtain ⟨m, ⟨o, es, ep, ho, hd, _⟩, _⟩ := I6.loc
    have ho : h6'.get? X.env.locals = some o := ho
    rw [he6] at ho; cases ho
    rw [hd6] at hd; cases hd
  have I6t : Inv (xSuite X a) pins σ' (upd H' a (.frz oe XU)) { s' with heap := h6' } := by
    refine (inv_suite (inv_untry I6)).track he6 na ⟨trivial, ⟨_, he6⟩, fun _ _ _ _ => trivial⟩ (fun ob e z hx => ?_) ?_ nl (fun y c e z => ?_) fun p hp z => ?_
    · by_cases hf : a ∈ X.fs
      · obtain ⟨sl, e1⟩ := I6.base.slot a ob e z hf hx
        have e1 : h6'.get? a = _ := e1
        obtain ⟨_, o', ho', nf⟩ := ok.funs.mem hf
        rw [show X.s₀.heap.get? a = _ from e] at ho'; cases ho'
        rw [he6] at e1; cases e1
        exact nf _ hd6
      · have e1 := I2.base.keep a ob e z hf hx
        have e2 := I2.base.free a ob e z hx
        have := kB a ob e1 e2 (nst a hf nl)
        rw [fl6.2.1] at this; cases this
    · show X.H₀ a = none
      cases z : X.H₀ a with
      | none => rfl
      | some u =>
        exfalso
        rcases lt a u z with ⟨ob, v, rfl⟩ | ⟨xs, rfl⟩
        · have := I6.base.frzs a ob v z; rw [na] at this; cases this
        · have := I6.base.tups a xs z; rw [na] at this; cases this
    · subst z
      obtain ⟨v, o, ho, hd⟩ := I6.cell y c e
      have ho : h6'.get? c = some o := ho
      rw [he6] at ho; cases ho
      rw [hd6] at hd; cases hd
    · subst z
      obtain ⟨e1, e2, e3, e4, _⟩ := I2.pin p (List.mem_append_left _ hp)
      have := kB p.1 p.2 e1 e2 (nst _ e4 e3)
      rw [fl6.2.1] at this; cases this
  refine store_ok (X := xSuite X a) (v := .ref a) I6t hNd hi (.inl hk) rfl (fun s7 I7 => ?_) (.inr hk)
  have sm0 : Same B0.H (upd H' a (.frz oe XU)) := by
    rw [hB0]
    intro b o e
    have hb : H' b = some o := by
      rcases lt b o e with ⟨ob, v, rfl⟩ | ⟨xs, rfl⟩
      · exact I6.base.frzs b ob v e
      · exact I6.base.tups b xs e
    rw [upd_ne (ne_of_none hb na)]
    exact hb
  have hlen : σ'.length = N := by rw [hN]; exact I6.len
  have hiN : i < σ'.length := by rw [I6.len]; exact (List.getElem?_eq_some_iff.mp hi).1
  have xo : SqE X.K (upd H' a (.frz oe XU)) a (.inr c) := ⟨C, oe, vs, hn, hnm, upd_same, hc6, hd6⟩
  obtain ⟨g', h', r0, p0⟩ := (rps_none (K := X.K) (F := B0.F) (H := upd H' a (.frz oe XU)) hlen).put i (MRep.exc xo)
  have gn : g' = [] := by
    have := p0.length_eq
    simp at this
    exact this.1
  subst gn
  have frm : Frm X.K B0 B0.F (upd H' a (.frz oe XU)) (σ'.set i (some (.ref a))) ((List.replicate N none).set i (some (.exc c))) [] :=
    ⟨fun b hb z => hBF b hb (sm0.free z), r0, List.nodup_nil, sm0, fun _ z => absurd z (by simp), fun _ z => z, fun _ z => .inl z, fun a xs z => (hBL a xs z).elim, fun a xs z => (hBT a xs z).elim⟩
  have q2 : PO' nox (evSs cl hd ((List.replicate N none).set i (some (.exc c)))) (Fk X.K B0 { nx := fun σ8 H8 => ∃ F8 τ8 f8, Frm X.K B0 F8 H8 σ8 τ8 f8 ∧ Fk X.K B0 Dn (.nx (τ8.set i none)), rt := fun _ _ => False }) := by
    cases z : evSs cl hd ((List.replicate N none).set i (some (.exc c))) with
    | error er => rw [z] at q; exact q.no.elim
    | ok r =>
      rw [z] at q
      cases r with
      | nx τ8 => exact fun σ8 H8 F8 f8 m8 => ⟨F8, τ8, f8, m8, q.ok⟩
      | _ => exact q.no.elim
  refine wpAny_mono (snSs hd (xSuite X a) nox _ (b0 :: suite) (gok_suite g (hpl a)) h6 pins s7 _ _ _ I7 ⟨B0, B0.F, _, [], frm, q2⟩) (fun fw s8 hs => ?_) fun _ _ z => z.elim
  cases fw with
  | next =>
    obtain ⟨σ8, H8, I8, F8, τ8, f8, m8, q8⟩ := hs
    refine unb_ok (inv_unsuite ok I8) hNd hi hk fun s9 I9 => ?_
    obtain ⟨g8, r9, n9, m9⟩ := Rps.drop (o := none) i m8.rps m8.nod
    exact ⟨_, _, I9, q8 _ _ F8 g8 ⟨m8.fok, r9, n9, m8.same, fun b hb => m8.own b (m9 b hb), m8.inn, m8.out, m8.pin, m8.pit⟩⟩
  | brk => obtain ⟨_, _, _, z⟩ := hs; exact z.elim
  | cont => obtain ⟨_, _, _, z⟩ := hs; exact z.elim
  | ret u => obtain ⟨_, _, _, _, _, z⟩ := hs; exact z.elim
end
end L2
namespace L2
open PySem PySem.Spec PyProof.Rows PySem.SeqAt
noncomputable def ehv (k : Str → Str → Stmt → List Stmt → Bool) : ExceptHandler → Bool
  | .ExceptHandler t n b _ => opv (nmv fun x => match n with
    | none => false
    | some y => match b with
      | [] => false
      | b0 :: r => k x y b0 r) t
theorem ehv_ok {k : Str → Str → Stmt → List Stmt → Bool} {e : ExceptHandler} (h : ehv k e = true) : ∃ x np y b0 r hp, e = .ExceptHandler (some (.Name x np)) (some y) (b0 :: r) hp ∧ k x y b0 r = true := by
  cases e with
  | ExceptHandler t n b hp =>
    cases t with
    | none => exact no_h h
    | some t =>
      obtain ⟨x, np, rfl, h⟩ := nmv_ok (show nmv _ t = true from h)
      cases n with
      | none => exact no_h h
      | some y =>
        cases b with
        | nil => exact no_h h
        | cons b0 r => exact ⟨x, np, y, b0, r, hp, rfl, h⟩
noncomputable def tyv : Stmt → (List Stmt → Str → Str → Stmt → List Stmt → Bool) → Bool
  | .Try b hs els fin _, k => els.isEmpty && (fin.isEmpty && on1 (ehv (k b)) hs)
  | _, _ => false
theorem tyv_ok {s : Stmt} {k : List Stmt → Str → Str → Stmt → List Stmt → Bool} (h : tyv s k = true) : ∃ b x np y b0 r hp pos, s = .Try b [.ExceptHandler (some (.Name x np)) (some y) (b0 :: r) hp] [] [] pos ∧ k b x y b0 r = true := by
  cases s with
  | Try b hs els fin pos =>
    cases els with
    | cons _ _ => exact no_h h
    | nil =>
      cases fin with
      | cons _ _ => exact no_h h
      | nil =>
        obtain ⟨e, rfl, h⟩ := on1_ok (show on1 (ehv (k b)) hs = true from h)
        obtain ⟨x, np, y, b0, r, hp, rfl, h⟩ := ehv_ok h
        exact ⟨b, x, np, y, b0, r, hp, pos, rfl, h⟩
  | _ => exact no_h h
noncomputable def chkTry (Z : Sg) (G : Gm) : IS → Stmt → Bool
  | .tryx body n cs i hd, s => tyv s fun b x y b0 r => chkSs Z { G with rs := false } body b && chkG Z G n x && cs.all (fun c => Z.xm.contains (c, n)) && G.N[i]? == some y && G.kd[i]? == some .local && chkSs Z { G with cm := false, rs := false } hd (b0 :: r)
  | _, _ => false
noncomputable def isTry : IS → Bool
  | .tryx _ _ _ _ _ => true
  | _ => false
noncomputable def chkB (Z : Sg) (G : Gm) : List IS → List Stmt → Bool
  | [], l => l.isEmpty
  | a :: as, l => match l with
    | [] => false
    | s :: ss => (if isTry a = true then chkTry Z G a s else chkS Z G a s) && chkB Z G as ss
section
variable {Z : Sg} {cl : Nat → List D → Res D} {X : Cx} {ex : Str → Prop} {G : Gm}
theorem st_try (g : GOk Z (CX1 X.prog X.w) cl (xp1 X.K) X ex G) (hst : X.stack = X.env :: X.outer) (hfr : X.env.frame = some X.env.locals) (lt : LTH X.H₀) (hpl : ∀ a : Addr, ∀ f ∈ Z.fns, f ∈ Z.pl → ∀ x, Z.name f = some x → FnC X.prog X.w X.K X.mg X.base (CX1 X.prog X.w) (X.A.mark (some (.ref a))) cl (xp1 X.K) f x)
    {B0 : Bs} (hB0 : B0.H = X.H₀) (hBF : FOk B0.F B0.H) (hBL : ∀ a xs, ¬ B0.L a xs) (hBT : ∀ a xs, ¬ B0.T a xs) {a : IS} {st : Stmt} (h : chkTry Z G a st = true) : PS X st (RSB X.K B0 ex (evS cl a)) := by
  cases a with
  | tryx body n cs i hd =>
    obtain ⟨b, x, np, y, b0, r, hp, pos, rfl, h0⟩ := tyv_ok (k := fun b x y b0 r => chkSs Z { G with rs := false } body b && chkG Z G n x && cs.all (fun c => Z.xm.contains (c, n)) && G.N[i]? == some y && G.kd[i]? == some .local && chkSs Z { G with cm := false, rs := false } hd (b0 :: r)) h
    have h : (chkSs Z { G with rs := false } body b && chkG Z G n x && cs.all (fun c => Z.xm.contains (c, n)) && G.N[i]? == some y && G.kd[i]? == some .local && chkSs Z { G with cm := false, rs := false } hd (b0 :: r)) = true := h0
    simp only [Bool.and_eq_true] at h
    obtain ⟨⟨⟨⟨⟨h1, h2⟩, h3⟩, h4⟩, h5⟩, h6⟩ := h
    have h4 := eq_of_beq h4
    have h5 := eq_of_beq h5
    rw [List.all_eq_true] at h3
    obtain ⟨k1, k2, k3, k4⟩ := gl_of g h2
    intro pins s σ H Dn I ⟨F, τ, f, m, q⟩
    have hτ : τ.length = X.N.length := by rw [← m.rps.len]; exact I.len
    refine wpAny_Try_except ?_
    have q : PO' ex (match evSs cl body τ with
      | .ok (.nx τ') => .ok (.nx τ')
      | .error (.exc c) => grd (cs.contains c) (bnd (noX (evSs cl hd ((List.replicate τ.length none).set i (some (.exc c))))) fun
        | .nx τ' => .ok (.nx (τ'.set i none))
        | _ => stk)
      | _ => stk) (Fk X.K B0 Dn) := q
    cases z : evSs cl body τ with
    | ok rr =>
      rw [z] at q
      cases rr with
      | nx τ' =>
        have q : Fk X.K B0 Dn (.nx τ') := q.ok
        refine wpAny_mono (snSs body X.nox nox _ b (gok_nox g) h1 pins s σ H Dn (I.wish _) ⟨B0, F, τ, f, m, by rw [z]; exact q⟩) (fun fw s' hs => ?_) fun _ _ z => False.elim z
        have hs := SP.unwish hs
        cases fw with
        | next => exact wpAny_execs_nil hs
        | _ => exact hs
      | _ => exact q.no.elim
    | error er =>
      rw [z] at q
      cases er with
      | stuck => exact q.no.elim
      | exc c =>
        obtain ⟨hcs, q⟩ := PO'.grd q
        have hc : (c, n) ∈ Z.xm := by simpa using h3 c (by simpa using hcs)
        obtain ⟨C, C', hn, _, hnm, hm, hex⟩ := g.xmt c n x hc k2
        have ps := catch_ok (pins := pins) (np := np) (hpos := hp) (Dn := Dn) g hst hfr lt hpl hB0 hBF hBL hBT h2 hn hnm hm hex h4 h5 h6 hτ q
        have go : GOk Z (CX1 X.prog X.w) cl (xp1 X.K) (xTry X pins (catchE X pins Dn [.ExceptHandler (some (.Name x np)) (some y) (b0 :: r) hp])) (fun c' => c' = c) { G with rs := false } :=
          gok_try g ⟨_, ps, fun c' H e C'' hC => by subst e; rw [hn] at hC; cases hC; rfl⟩
        refine wpAny_mono (snSs body _ _ _ b go h1 [] s σ H Dn (inv_try I) ⟨B0, F, τ, f, m, by rw [z]; exact rfl⟩) (fun fw s' hs => ?_) fun e s' he => he
        cases fw with
        | next =>
          obtain ⟨σ', H', I', q'⟩ := hs
          exact wpAny_execs_nil ⟨σ', H', inv_untry I', q'⟩
        | brk => obtain ⟨σ', H', I', q'⟩ := hs; exact ⟨σ', H', inv_untry I', q'⟩
        | cont => obtain ⟨σ', H', I', q'⟩ := hs; exact ⟨σ', H', inv_untry I', q'⟩
        | ret u => obtain ⟨v, σ', H', I', rv, q'⟩ := hs; exact ⟨v, σ', H', inv_untry I', rv, q'⟩
  | _ => exact no_h h
theorem snB (g : GOk Z (CX1 X.prog X.w) cl (xp1 X.K) X ex G) (hst : X.stack = X.env :: X.outer) (hfr : X.env.frame = some X.env.locals) (lt : LTH X.H₀) (hpl : ∀ a : Addr, ∀ f ∈ Z.fns, f ∈ Z.pl → ∀ x, Z.name f = some x → FnC X.prog X.w X.K X.mg X.base (CX1 X.prog X.w) (X.A.mark (some (.ref a))) cl (xp1 X.K) f x)
    {B0 : Bs} (hB0 : B0.H = X.H₀) (hBF : FOk B0.F B0.H) (hBL : ∀ a xs, ¬ B0.L a xs) (hBT : ∀ a xs, ¬ B0.T a xs) : ∀ (as : List IS) (ss : List Stmt), chkB Z G as ss = true → PSs X ss (RSB X.K B0 ex (evSs cl as))
  | [], ss, h => by
    cases ss with
    | nil => exact pssMono pss_nil fun Dn σ H ⟨F, τ, f, m, q⟩ => q.ok _ _ _ _ m
    | cons _ _ => exact no_h h
  | a :: as, ss, h => by
    cases ss with
    | nil => exact no_h h
    | cons s ss =>
      have h' : ((if isTry a = true then chkTry Z G a s else chkS Z G a s) && chkB Z G as ss) = true := h
      rw [Bool.and_eq_true] at h'
      have p1 : PS X s (RSB X.K B0 ex (evS cl a)) := by
        by_cases ht : isTry a = true
        · rw [if_pos ht] at h'
          exact st_try g hst hfr lt hpl hB0 hBF hBL hBT h'.1
        · rw [if_neg ht] at h'
          exact psMono (snS a X ex G s g h'.1) fun Dn σ H ⟨F, τ, f, m, q⟩ => ⟨B0, F, τ, f, m, q⟩
      refine pssMono (pss_cons p1 (snB g hst hfr lt hpl hB0 hBF hBL hBT as ss h'.2)) fun Dn σ H ⟨F, τ, f, m, q⟩ => ?_
      refine ⟨F, τ, f, m, (PO'.bnd q).mono fun r hr => ?_⟩
      cases r with
      | nx τ' => exact fun σ' H' F' f' m' => ⟨F', τ', f', m', hr⟩
      | rt d => exact hr.ok
end
end L2
namespace L2
open PySem PySem.Spec PyProof.Rows PySem.SeqAt
noncomputable def chkDef (Z : Sg) (fn : Fn) (ps : List Str) (st : Stmt) : Bool :=
  (defScope st).kind == .function && !(defScope st).isCoroutine && !(defScope st).isGenerator && decide (fn.G.N.Nodup) && fn.G.N.take ps.length == ps
  && ps.all (fun x => (defScope st).names.lookup x == some .local || (defScope st).names.lookup x == some .cell) && (defScope st).names.all (fun y => y.2 != .free)
  && (List.range fn.G.N.length).all (fun i => (fn.G.N[i]?).bind ((defScope st).names.lookup ·) == fn.G.kd[i]?)
  && fn.G.N.all (fun x => !(x == "__debug__") && !(x == "__classdict__"))
  && fn.G.gl.all (fun n => match Z.name n with | some x => (defScope st).names.lookup x == some .globalImplicit | none => false)
  && decide (ps.length = fn.np) && chkB Z fn.G fn.body (defBody st)
structure DefSc (Z : Sg) (fn : Fn) (ps : List Str) (st : Stmt) : Prop where
  sc : FnScope fn.G.N ps (defScope st)
  kd : ∀ (i : Nat) (x : Str), fn.G.N[i]? = some x → (defScope st).names.lookup x = fn.G.kd[i]?
  noD : ∀ x ∈ fn.G.N, (x == ("__debug__" : Str)) = false ∧ (x == ("__classdict__" : Str)) = false
  gl : ∀ n ∈ fn.G.gl, ∀ x, Z.name n = some x → (defScope st).names.lookup x = some .globalImplicit
  np : ps.length = fn.np
  body : chkB Z fn.G fn.body (defBody st) = true
theorem defSc_of {Z : Sg} {fn : Fn} {ps : List Str} {st : Stmt} (h : chkDef Z fn ps st = true) : DefSc Z fn ps st := by
  unfold chkDef at h
  simp only [Bool.and_eq_true] at h
  obtain ⟨⟨⟨⟨⟨⟨⟨⟨⟨⟨⟨h1, h2⟩, h3⟩, h4⟩, h5⟩, h6⟩, h7⟩, h8⟩, h9⟩, h10⟩, h11⟩, h12⟩ := h
  rw [List.all_eq_true] at h6 h7 h8 h9 h10
  refine ⟨⟨eq_of_beq h1, by simpa using h2, by simpa using h3, of_decide_eq_true h4, eq_of_beq h5, fun x hx => ?_, fun y hy => by simpa using h7 y hy⟩, fun i x hx => ?_, fun x hx => by simpa using h9 x hx, fun n hn x hx => ?_, of_decide_eq_true h11, h12⟩
  · have := h6 x hx
    rw [Bool.or_eq_true] at this
    exact this.elim (fun z => .inl (eq_of_beq z)) fun z => .inr (eq_of_beq z)
  · have hlt : i < fn.G.N.length := (List.getElem?_eq_some_iff.mp hx).1
    have := eq_of_beq (h8 i (List.mem_range.mpr hlt))
    rw [hx] at this
    exact this
  · have := h10 n hn
    rw [hx] at this
    exact eq_of_beq this
structure DefOk (K : PySem.W.Frag) (mg : Str → Option Value) (Z : Sg) (T : Tb) (f : Nat) (x : Str) : Prop where
  ex : ∃ (fn : Fn) (st : Stmt) (fa : Addr) (fd : FuncData) (ps : List Str), T f = some fn ∧ Fun K x x st fa fd ∧ mg x = some (.ref fa) ∧ Binds K fd ps [] ∧ DefSc Z fn ps st
section
variable {P : Program} {w : World} {K : PySem.W.Frag} {mg : Str → Option Value} {base : Heap} {Z : Sg} {T : Tb}
noncomputable def CVk (mg : Str → Option Value) (x : Str) (v : V) : Prop := (∃ C, v = .ref C ∧ mg x = some (.ref C)) ∨ (∃ T, v = .ty T ∧ mg x = none ∧ bootBuiltins x = some (.type T))
structure TopOk (K : PySem.W.Frag) (mg : Str → Option Value) (Z : Sg) (T : Tb) : Prop where
  nam : ∀ n x, Z.name n = some x → x ≠ "__name__" ∧ (x == ("__debug__" : Str)) = false
  blt : ∀ (n : Nat) (x : Str), bnames[n]? = some x → mg x = none
  cst : ∀ n d x, (n, d) ∈ Z.kst → Z.name n = some x → ∃ u v, mg x = some u ∧ RelV v u ∧ ∀ S H, HRep K S H v d
  fns : ∀ f ∈ Z.fns, ∀ x, Z.name f = some x → DefOk K mg Z T f x
  plc : ∀ f ∈ Z.pl, ∀ fn, T f = some fn → fn.G.cm = false
  xcv : ∀ n ∈ Z.cls, ∀ x, Z.name n = some x → ∃ v, CVk mg x v
  xcl : ∀ c n b x, (c, n, b) ∈ Z.xt → Z.name n = some x → ∃ C, PySem.W.nsIn K mainGlobals c = some (some (.ref C)) ∧ ExcAt K C ∧ ∀ v, CVk mg x v → PySem.W.kitOne K (.ref C) (vv v) = some b
  xmt : ∀ c n x, (c, n) ∈ Z.xm → Z.name n = some x → ∃ C C', PySem.W.nsIn K mainGlobals c = some (some (.ref C)) ∧ PySem.W.nsIn K mainGlobals x = some (some (.ref C')) ∧ nameIn K C = some c ∧ mg x = some (.ref C') ∧ PySem.W.exmOne K (.ref C) (.ref C') = some true
  xrs : ∀ n c, (n, c) ∈ Z.rc → Z.name n = some c ∧ ∃ C, mg c = some (.ref C) ∧ PySem.W.nsIn K mainGlobals c = some (some (.ref C)) ∧ PySem.W.excIn K C bmV "ValueError.__new__" = true
theorem start_rps {F : Addr → Prop} {H : Hp} {vs : List V} {ds : List D} (n : Nat) (h : HReps K F H vs ds) : Rps K F H (vs.map some ++ List.replicate n none) ((ers ds).map some ++ List.replicate n none) [] :=
  HReps.ind (P := fun vs ds => Rps K F H (vs.map some ++ List.replicate n none) ((ers ds).map some ++ List.replicate n none) []) (by
    induction n with
    | zero => exact .nil
    | succ n ih => exact .none ih) (fun _ _ _ _ a _ j => .some (f := []) a.frozen j) h
structure Rm (n : Nat) (A : Around) : Prop where
  dp : A.depth + 3 * n + 5 < recursionLimit
  un : A.units + 16 * n + 200 < cLine
theorem Rm.room {n : Nat} {A : Around} (r : Rm n A) (hn : n < 900) (h : A.handled = none) : Room n A := ⟨fun _ => h, by have := r.dp; rw [Nat.mod_eq_of_lt (by omega)]; exact this, by have := r.un; rw [Nat.mod_eq_of_lt (by omega)]; exact this⟩
theorem Rm.roomp {n : Nat} {A : Around} (r : Rm n A) (hn : n < 900) : Room (1000 + n) A := ⟨fun z => by omega, by have := r.dp; rw [show (1000 + n) % 1000 = n by omega]; exact this, by have := r.un; rw [show (1000 + n) % 1000 = n by omega]; exact this⟩
theorem Rm.of {n k : Nat} {A : Around} (r : Room k A) (h : k % 1000 = n) : Rm n A := ⟨by have := r.dp; rw [h] at this; exact this, by have := r.un; rw [h] at this; exact this⟩
theorem fn_body (t : TopOk K mg Z T) {n k : Nat} {f : Nat} {fn : Fn} {x : Str} {st : Stmt} {fa : Addr} {fd : FuncData} {ps : List Str} (hk : k % 1000 = n) (hn : n < 900) (h1 : T f = some fn) (h2 : Fun K x x st fa fd) (h5 : DefSc Z fn ps st) (hp : k < 1000 ∨ fn.G.cm = false)
    (ih : ∀ (A : Around), Rm n A → ∀ f ∈ Z.fns, (A.handled = none ∨ f ∈ Z.pl) → ∀ x, Z.name f = some x → FnC P w K mg base (CX1 P w) A (callF T n) (xp1 K) f x) :
    FnOk P w K mg base (CX1 P w) (k + 1) fa fd ps (spF K (callF T (n + 1)) (xp1 K) f ps) := by
  have hcall : ∀ ds, callF T (n + 1) f ds = runF (callF T n) fn ds := fun ds => by
    show (match T f with | some fn => runF (callF T n) fn ds | none => stk) = _
    rw [h1]
  obtain ⟨oc, od, kV, doc, pm, an, cdv, ct, osl, rfl, lk, hcd⟩ := h2.ex
  refine fn_of lk hcd h5.sc (by omega) (fun vs H Q E h => h.1) fun A outer s H vs Q E hr hsp => ?_
  obtain ⟨hl, lt, F, ds, fok, m, q⟩ := hsp
  have hcm : fn.G.cm = true → A.handled = none := fun z => hp.elim (fun h => hr.hd h) fun h => by rw [h] at z; cases z
  refine ⟨_, snB (Z := Z) (cl := callF T n) (ex := xp1 K E H) (G := fn.G) (B0 := ⟨F, H, fun _ _ => False, fun _ _ => False⟩) ?_ rfl rfl lt (fun a f' hf' hpl' x' hx' => ih ((A.deeper (envOfC x (defScope st) s.heap.objs.size fa cdv)).mark (some (.ref a))) ⟨(Rm.of hr hk).dp, (Rm.of hr hk).un⟩ f' hf' (.inr hpl') x' hx') rfl fok (fun _ _ z => z) (fun _ _ z => z) fn.body (defBody st) h5.body, ?_⟩
  · refine ⟨rfl, h5.sc.nd, fun z => by show A.handled.isNone = true; rw [hcm z]; rfl, h5.sc.kind, ?_, fun _ => PassesOwn.leaving, fun i y hy => h5.kd i y hy, fun i y hy => h5.noD y (List.mem_of_getElem? hy), fun m hm y hy => h5.gl m hm y hy, t.nam, fun _ _ => rfl, t.blt, t.cst, ?_, t.xcv, t.xcl, t.xmt, t.xrs, ?_, ?_, ?_, ?_⟩
    · have := hr.un
      show (A.deeper _).units + 42 < cLine
      omega
    · exact fun f' hf' hc x' hx' => ih _ (Rm.of hr hk) f' hf' (hc.elim (fun z => .inl (hcm z)) .inr) x' hx'
    · exact fun _ pins σ H1 s1 c C h' e vs I hex hn hx => cx_raise lt (hex C hn) I hx
    · exact ⟨_, cx_pass (ex := xp1 K E H) lt fun c C hc hn => hc C hn, fun c H' hc C hn => ⟨c, C, hc, hn, rfl⟩⟩
    · exact fun outer H s E e s' x fr h => cx1_hid x fr h
    · exact fun H outer s e s' => cx1_no
  · rw [hcall] at q
    obtain ⟨gd, q⟩ := PO'.grd q
    have gd' : (ers ds).length = fn.np := of_decide_eq_true gd
    have hn' : fn.G.N.length - vs.length = fn.G.N.length - fn.np := by rw [m.length, ← ers_length ds, gd']
    refine ⟨F, (ers ds).map some ++ List.replicate (fn.G.N.length - fn.np) none, [], ⟨fok, ?_, List.nodup_nil, .refl _, fun a ha => absurd ha (by simp), fun a h => h, fun a h => .inl h, fun a xs h => h.elim, fun a xs h => h.elim⟩, (PO'.bnd q).mono fun r hr => ?_⟩
    · show Rps K F H (start fn.G.N vs) _ []
      unfold start
      rw [hn']
      exact start_rps _ m
    · cases r with
      | nx τ' => exact fun σ' H' F' f' m' => hr.ok .non H' F' [] ⟨m'.fok, m'.same, .non, List.nodup_nil, fun a ha => absurd ha (by simp), m'.inn, m'.out⟩
      | rt d => exact fun v H' F' fv o => hr.ok v H' F' fv o
theorem fnc_all (t : TopOk K mg Z T) : ∀ (n : Nat), n < 900 → ∀ (A : Around), Rm n A → ∀ f ∈ Z.fns, (A.handled = none ∨ f ∈ Z.pl) → ∀ x, Z.name f = some x → FnC P w K mg base (CX1 P w) A (callF T n) (xp1 K) f x
  | 0, h9, A, hr, f, hf, hc, x, hx => by
    obtain ⟨fn, st, fa, fd, ps, h1, h2, h3, h4, h5⟩ := (t.fns f hf x hx).ex
    have no : ∀ vs H Q E, ¬ spF K (callF T 0) (xp1 K) f ps vs H Q E := fun vs H Q E ⟨_, _, F, ds, _, _, h⟩ => h
    exact ⟨1000 + 0, fa, fd, ps, h3, h2.kp, h4, ⟨fun vs H Q E h => h.1, fun A outer s H args us vs Q E _ _ _ _ h => (no _ _ _ _ h).elim⟩, hr.roomp h9, fun ex ds k h => h.elim⟩
  | n + 1, h9, A, hr, f, hf, hc, x, hx => by
    obtain ⟨fn, st, fa, fd, ps, h1, h2, h3, h4, h5⟩ := (t.fns f hf x hx).ex
    have ih := fnc_all t n (by omega)
    have hlen : ∀ (ex : Str → Prop) ds (k : D → Prop), PO' ex (callF T (n + 1) f ds) k → ds.length = ps.length := fun ex ds k h => by
      have hcall : callF T (n + 1) f ds = runF (callF T n) fn ds := by
        show (match T f with | some fn => runF (callF T n) fn ds | none => stk) = _
        rw [h1]
      rw [hcall] at h
      obtain ⟨gd, _⟩ := PO'.grd h
      rw [of_decide_eq_true gd, h5.np]
    by_cases hpl : f ∈ Z.pl
    · exact ⟨1000 + n + 1, fa, fd, ps, h3, h2.kp, h4, fn_body t (k := 1000 + n) (n := n) (by omega) (by omega) h1 h2 h5 (.inr (t.plc f hpl fn h1)) ih, hr.roomp h9, hlen⟩
    · exact ⟨n + 1, fa, fd, ps, h3, h2.kp, h4, fn_body t (k := n) (n := n) (by omega) (by omega) h1 h2 h5 (.inl (by omega)) ih, hr.room h9 (hc.elim id fun z => absurd z hpl), hlen⟩
end
end L2
namespace L2
open PySem PySem.Spec PyProof.Rows PySem.SeqAt
section
variable {P : Program} {w : World} {K : PySem.W.Frag} {mg : Str → Option Value} {base : Heap} {Z : Sg} {T : Tb}
theorem CVk.fn {mg : Str → Option Value} {x : Str} {v v' : V} (h : CVk mg x v) (h' : CVk mg x v') : v = v' := by
  rcases h with ⟨C, rfl, h1⟩ | ⟨T, rfl, h1, h2⟩ <;> rcases h' with ⟨C', rfl, k1⟩ | ⟨T', rfl, k1, k2⟩
  · rw [h1] at k1; cases k1; rfl
  · rw [h1] at k1; cases k1
  · rw [h1] at k1; cases k1
  · rw [h2] at k2; cases k2; rfl
noncomputable def spL (K : PySem.W.Frag) (cl : Nat → List D → Res D) (f : Nat) (ps : List Str) : Sp := fun vs H Q E => vs.length = ps.length ∧ ∃ F ds, FOk F H ∧ HReps K F H vs ds ∧
  PO' nox (cl f (ers ds)) fun d => ∀ v H' F' fv, Out K F H F' H' v d fv → Q v H'
theorem chkB_ss {G : Gm} {as : List IS} {ss : List Stmt} (n : (as.all fun a => !isTry a) = true) (h : chkB Z G as ss = true) : chkSs Z G as ss = true := by
  induction as generalizing ss with
  | nil =>
    cases ss with
    | nil => rfl
    | cons _ _ => exact no_h h
  | cons a as ih =>
    cases ss with
    | nil => exact no_h h
    | cons s ss =>
      have h' : ((if isTry a = true then chkTry Z G a s else chkS Z G a s) && chkB Z G as ss) = true := h
      rw [List.all_cons, Bool.and_eq_true] at n
      rw [Bool.and_eq_true] at h'
      have na : isTry a = false := notFalse n.1
      rw [na, if_neg Bool.false_ne_true] at h'
      show (chkS Z G a s && chkSs Z G as ss) = true
      rw [Bool.and_eq_true]
      exact ⟨h'.1, ih n.2 h'.2⟩
theorem def_fn (t : TopOk K mg Z T) (n : Nat) (hn : n < 900) {f : Nat} {fn : Fn} {x : Str} {st : Stmt} {fa : Addr} {fd : FuncData} {ps : List Str} (h1 : T f = some fn) (hty : (fn.body.all fun a => !isTry a) = true) (h2 : Fun K x x st fa fd) (h5 : DefSc Z fn ps st) : FnOk P w K mg base (CX1 P w) (n + 1) fa fd ps (spL K (callF T (n + 1)) f ps) := by
  have hcall : ∀ ds, callF T (n + 1) f ds = runF (callF T n) fn ds := fun ds => by
    show (match T f with | some fn => runF (callF T n) fn ds | none => stk) = _
    rw [h1]
  obtain ⟨oc, od, kV, doc, pm, an, cdv, ct, osl, rfl, lk, hcd⟩ := h2.ex
  refine fn_of lk hcd h5.sc (by omega) (fun vs H Q E h => h.1) fun A outer s H vs Q E hr hsp => ?_
  have hh : A.handled = none := hr.hd (by omega)
  refine ⟨_, (snSs (Z := Z) (CX := CX1 P w) (cl := callF T n) (xp := xp1 K) fn.body (cxOf (CX1 P w) P w K mg base fn.G.N x (defScope st) fa cdv A outer s H E).nox nox fn.G (defBody st) ?_ (chkB_ss hty h5.body)).nox, ?_⟩
  · refine ⟨rfl, h5.sc.nd, fun z => by show A.handled.isNone = true; rw [hh]; rfl, h5.sc.kind, ?_, fun _ => PassesOwn.never, fun i y hy => h5.kd i y hy, fun i y hy => h5.noD y (List.mem_of_getElem? hy), fun m hm y hy => h5.gl m hm y hy, t.nam, fun _ _ => rfl, t.blt, t.cst, ?_, t.xcv, t.xcl, t.xmt, t.xrs, ?_, ?_, ?_, ?_⟩
    · have := hr.un
      show (A.deeper _).units + 42 < cLine
      omega
    · exact fun f' hf' hc x' hx' => fnc_all t n hn _ (Rm.of hr (by omega)) f' hf' (.inl hh) x' hx'
    · exact fun _ pins σ H1 s1 c C h' e vs I hex => hex.elim
    · exact ⟨fun _ _ _ => False, fun pins σ H s e s' _ h => (cx1_no h).elim, fun c _ z => z.elim⟩
    · exact fun outer H s E e s' x fr h => cx1_hid x fr h
    · exact fun H outer s e s' => cx1_no
  · obtain ⟨hl, F, ds, fok, m, q⟩ := hsp
    rw [hcall] at q
    obtain ⟨gd, q⟩ := PO'.grd q
    have gd' : (ers ds).length = fn.np := of_decide_eq_true gd
    have hn' : fn.G.N.length - vs.length = fn.G.N.length - fn.np := by rw [m.length, ← ers_length ds, gd']
    refine ⟨⟨F, H, fun _ _ => False, fun _ _ => False⟩, F, (ers ds).map some ++ List.replicate (fn.G.N.length - fn.np) none, [], ⟨fok, ?_, List.nodup_nil, .refl _, fun a ha => absurd ha (by simp), fun a h => h, fun a h => .inl h, fun a xs h => h.elim, fun a xs h => h.elim⟩, (PO'.bnd q).mono fun r hr => ?_⟩
    · show Rps K F H (start fn.G.N vs) _ []
      unfold start
      rw [hn']
      exact start_rps _ m
    · cases r with
      | nx τ' => exact fun σ' H' F' f' m' => hr.ok .non H' F' [] ⟨m'.fok, m'.same, .non, List.nodup_nil, fun a ha => absurd ha (by simp), m'.inn, m'.out⟩
      | rt d => exact fun v H' F' fv o => hr.ok v H' F' fv o
theorem law_sp {f n : Nat} {x : Str} {a : Addr} {H : Hp} {ns : List Int} (hS : Ls K H a (ns.map V.int)) (hl : callF T n f [.lst false (ns.map .int)] = .ok (.bl true)) :
    spL K (callF T n) f [x] [.ref a] H (fun v _ => v = .bl true) fun _ _ _ => False := by
  have m : HReps K (fun a => H a ≠ none) H [.ref a] [.lst false (ns.map .int)] := by
    refine .cons ?_ .nil
    rcases hS with hS | hS
    · exact .lst hS.some hS (HReps.ofInts ns)
    · exact .lstK hS (HReps.ofInts ns)
  refine ⟨rfl, fun a => H a ≠ none, [.lst false (ns.map .int)], fun a h => h, m, ?_⟩
  have he : ers [.lst false (ns.map .int)] = [D.lst false (ns.map .int)] := by
    rw [ers, ers, er, ers_map, List.map_map]
    rfl
  rw [he, hl]
  intro v H' F' fv o
  cases o.rep
  rfl
theorem law_walk {l : PySem.W.OpenLaw} {q : Program} {loose : List Str} {XP : (Str → Option Value) → Heap → Prop} {YP : World → Heap → Prop} {d : DefRec} {K : Params → PySem.W.Frag} {T : Tb} {n f : Nat} {x : Str} (hn : l.most = some 63) (hdf : d.params.defaults = []) (hr : Room (n + 1) callerA)
    (hY : ∀ (w : World) (h : Heap), YP w h → (K w.params).In h)
    (F : ∀ (w : World) (mg : Str → Option Value) (fa : Addr) (h : Heap), (K w.params).In h → h.Ns mainGlobals mg → mg d.name = some (.ref fa) →
      ∃ fd : FuncData, (∀ (s : Shared) (u : Value), BindsTo s fd ⟨[u], []⟩ [(x, u)]) ∧ ∀ base : Heap, (K w.params).In base → base.Ns mainGlobals mg → FnOk l.prog w (K w.params) mg base (CX1 l.prog w) (n + 1) fa fd [x] (spL (K w.params) (callF T (n + 1)) f [x]))
    (hl : ∀ ns : List Int, ns.length ≤ 63 → callF T (n + 1) f [.lst false (ns.map .int)] = .ok (.bl true)) :
    PySem.W.WalkO q loose XP YP l.row.toRowW d [] (fun f vs => PySem.call f vs) :=
  L2.walk_of (n := 63) (k := n + 1) (x := x) (CX := fun w => CX1 l.prog w) (sp := fun w => spL (K w.params) (callF T (n + 1)) f [x]) hn (by decide) hdf hr hY F (fun w H a ns h1 _ hS => law_sp hS (hl ns h1)) fun _ _ _ _ _ z => cx1_no z
end
end L2
namespace L2
open PySem PySem.Spec PyProof.Rows PySem.SeqAt
namespace Ev
section
variable {α β : Type} {cl : Nat → List D → Res D} {τ : Ev} {mv : Bool}
theorem bnd_k {a : α} {f : α → Res β} : bnd (.ok a) f = f a := rfl
theorem grd_t {x : Res α} : grd true x = x := rfl
theorem if_t {a b : α} : (if true = true then a else b) = a := rfl
theorem if_f {a b : α} : (if false = true then a else b) = b := rfl
theorem r_c {d : D} : evR cl (.c d) τ = .ok d := rfl
theorem r_g {n : Nat} {d : D} : evR cl (.g n d) τ = .ok d := rfl
theorem r_v {i : Nat} : evR cl (.v i) τ = (match slotD τ i with | some d => .ok d | none => stk) := rfl
noncomputable def binK (cl : Nat → List D → Res D) (op : BOp) (b : IR) (τ : Ev) (x : D) : Res D := bnd (evR cl b τ) (opB op x)
theorem binK_k {op : BOp} {b : IR} {x : D} : binK cl op b τ x = bnd (evR cl b τ) (opB op x) := rfl
theorem r_bin {op : BOp} {a b : IR} : evR cl (.bin op a b) τ = bnd (evR cl a τ) (binK cl op b τ) := rfl
noncomputable def blK (r : Bool) : Res D := .ok (.bl r)
theorem blK_k {r : Bool} : blK r = .ok (.bl r) := rfl
noncomputable def cmpK2 (op : COp) (x y : D) : Res D := bnd (opC op x y) blK
theorem cmpK2_k {op : COp} {x y : D} : cmpK2 op x y = bnd (opC op x y) blK := rfl
noncomputable def cmpK (cl : Nat → List D → Res D) (op : COp) (b : IR) (τ : Ev) (x : D) : Res D := bnd (evR cl b τ) (cmpK2 op x)
theorem cmpK_k {op : COp} {b : IR} {x : D} : cmpK cl op b τ x = bnd (evR cl b τ) (cmpK2 op x) := rfl
theorem r_cmp {op : COp} {a b : IR} : evR cl (.cmp op a b) τ = bnd (evR cl a τ) (cmpK cl op b τ) := rfl
noncomputable def chK3 (cl : Nat → List D → Res D) (op' : COp) (c : IR) (τ : Ev) (y : D) (r : Bool) : Res D := if r = true then bnd (evR cl c τ) (cmpK2 op' y) else .ok (.bl false)
theorem chK3_k {op' : COp} {c : IR} {y : D} {r : Bool} : chK3 cl op' c τ y r = if r = true then bnd (evR cl c τ) (cmpK2 op' y) else .ok (.bl false) := rfl
noncomputable def chK2 (cl : Nat → List D → Res D) (op op' : COp) (c : IR) (τ : Ev) (x y : D) : Res D := bnd (opC op x y) (chK3 cl op' c τ y)
theorem chK2_k {op op' : COp} {c : IR} {x y : D} : chK2 cl op op' c τ x y = bnd (opC op x y) (chK3 cl op' c τ y) := rfl
noncomputable def chK (cl : Nat → List D → Res D) (op op' : COp) (b c : IR) (τ : Ev) (x : D) : Res D := bnd (evR cl b τ) (chK2 cl op op' c τ x)
theorem chK_k {op op' : COp} {b c : IR} {x : D} : chK cl op op' b c τ x = bnd (evR cl b τ) (chK2 cl op op' c τ x) := rfl
theorem r_chain {op op' : COp} {a b c : IR} : evR cl (.chain op op' a b c) τ = bnd (evR cl a τ) (chK cl op op' b c τ) := rfl
noncomputable def orK2 (cl : Nat → List D → Res D) (b : IR) (τ : Ev) (x : D) (r : Bool) : Res D := if r = true then .ok x else evR cl b τ
theorem orK2_k {b : IR} {x : D} {r : Bool} : orK2 cl b τ x r = if r = true then .ok x else evR cl b τ := rfl
noncomputable def orK (cl : Nat → List D → Res D) (b : IR) (τ : Ev) (x : D) : Res D := bnd (truD x) (orK2 cl b τ x)
theorem orK_k {b : IR} {x : D} : orK cl b τ x = bnd (truD x) (orK2 cl b τ x) := rfl
theorem r_or {a b : IR} : evR cl (.or_ a b) τ = bnd (evR cl a τ) (orK cl b τ) := rfl
noncomputable def notK2 (r : Bool) : Res D := .ok (.bl !r)
theorem notK2_k {r : Bool} : notK2 r = .ok (.bl !r) := rfl
noncomputable def notK (x : D) : Res D := bnd (truD x) notK2
theorem notK_k {x : D} : notK x = bnd (truD x) notK2 := rfl
noncomputable def andK2 (cl : Nat → List D → Res D) (b : IR) (τ : Ev) (x : D) (r : Bool) : Res D := if r = true then evR cl b τ else .ok x
theorem andK2_k {b : IR} {x : D} {r : Bool} : andK2 cl b τ x r = if r = true then evR cl b τ else .ok x := rfl
noncomputable def andK (cl : Nat → List D → Res D) (b : IR) (τ : Ev) (x : D) : Res D := bnd (truD x) (andK2 cl b τ x)
theorem andK_k {b : IR} {x : D} : andK cl b τ x = bnd (truD x) (andK2 cl b τ x) := rfl
theorem r_and {a b : IR} : evR cl (.and_ a b) τ = bnd (evR cl a τ) (andK cl b τ) := rfl
noncomputable def lsetK (d : D) : Res D := lsetD d
theorem r_lset {a : IR} : evR cl (.lset a) τ = bnd (evR cl a τ) lsetK := rfl
theorem r_not {a : IR} : evR cl (.not_ a) τ = bnd (evR cl a τ) notK := rfl
noncomputable def tupK (ds : List D) : Res D := grd (szOk ds.length) (.ok (.tup ds))
theorem tupK_k {ds : List D} : tupK ds = grd (szOk ds.length) (.ok (.tup ds)) := rfl
theorem r_tup {es : List IR} : evR cl (.tup es) τ = bnd (evRs cl es τ) tupK := rfl
noncomputable def lstK (ds : List D) : Res D := grd (szOk ds.length) (.ok (.lst true ds))
theorem lstK_k {ds : List D} : lstK ds = grd (szOk ds.length) (.ok (.lst true ds)) := rfl
theorem r_lst {es : List IR} : evR cl (.lst es) τ = bnd (evRs cl es τ) lstK := rfl
noncomputable def idxK (cl : Nat → List D → Res D) (i : IR) (τ : Ev) (x : D) : Res D := bnd (evR cl i τ) (opIx x)
theorem idxK_k {i : IR} {x : D} : idxK cl i τ x = bnd (evR cl i τ) (opIx x) := rfl
theorem r_idx {a i : IR} : evR cl (.idx a i) τ = bnd (evR cl a τ) (idxK cl i τ) := rfl
noncomputable def slK2 (cl : Nat → List D → Res D) (hi : Option IR) (τ : Ev) (x : D) (l : Option Int) : Res D := bnd (evRO cl hi τ) (opSl x l)
theorem slK2_k {hi : Option IR} {x : D} {l : Option Int} : slK2 cl hi τ x l = bnd (evRO cl hi τ) (opSl x l) := rfl
noncomputable def slK (cl : Nat → List D → Res D) (lo hi : Option IR) (τ : Ev) (x : D) : Res D := bnd (evRO cl lo τ) (slK2 cl hi τ x)
theorem slK_k {lo hi : Option IR} {x : D} : slK cl lo hi τ x = bnd (evRO cl lo τ) (slK2 cl hi τ x) := rfl
theorem r_sl {a : IR} {lo hi : Option IR} : evR cl (.sl a lo hi) τ = bnd (evR cl a τ) (slK cl lo hi τ) := rfl
noncomputable def callK (cl : Nat → List D → Res D) (f : Nat) (ds : List D) : Res D := cl f (ers ds)
theorem callK_k {f : Nat} {ds : List D} : callK cl f ds = cl f (ers ds) := rfl
theorem r_call {f : Nat} {es : List IR} : evR cl (.call f es) τ = bnd (evRs cl es τ) (callK cl f) := rfl
theorem r_bi {f : Bi} {es : List IR} : evR cl (.bi f es) τ = bnd (evRs cl es τ) (opBi f) := rfl
noncomputable def isiK (k : Kd) (x : D) : Res D := grd (notX x) (.ok (.bl (isiD k x)))
theorem isiK_k {k : Kd} {x : D} : isiK k x = grd (notX x) (.ok (.bl (isiD k x))) := rfl
theorem nx_n : notX .non = true := rfl
theorem nx_b {b : Bool} : notX (.bl b) = true := rfl
theorem nx_i {i : Int} : notX (.int i) = true := rfl
theorem nx_s {x : Str} : notX (.str x) = true := rfl
theorem nx_t {ds : List D} : notX (.tup ds) = true := rfl
theorem nx_l {o : Bool} {ds : List D} : notX (.lst o ds) = true := rfl
theorem r_isi {a : IR} {k : Kd} : evR cl (.isi a k) τ = bnd (evR cl a τ) (isiK k) := rfl
noncomputable def mthK (cl : Nat → List D → Res D) (m : Mt) (es : List IR) (τ : Ev) (x : D) : Res D := grd (isStrD x) (bnd (evRs cl es τ) (opMt m x))
theorem mthK_k {m : Mt} {es : List IR} {x : D} : mthK cl m es τ x = grd (isStrD x) (bnd (evRs cl es τ) (opMt m x)) := rfl
theorem r_mth {m : Mt} {o : IR} {es : List IR} : evR cl (.mth m o es) τ = bnd (evR cl o τ) (mthK cl m es τ) := rfl
noncomputable def lstT (ds : List D) : Res D := .ok (.lst true ds)
theorem lstT_k {ds : List D} : lstT ds = .ok (.lst true ds) := rfl
noncomputable def compK (cl : Nat → List D → Res D) (G : Gm) (fr : List Nat) (T : Tg) (I : List IR) (E : IR) (τ : Ev) (its : List D) : Res D := grd (szLt its.length) (bnd (noX (fmapM (bodyM cl T I E (blk G fr τ)) its)) lstT)
theorem compK_k {G : Gm} {fr : List Nat} {T : Tg} {I : List IR} {E : IR} {its : List D} : compK cl G fr T I E τ its = grd (szLt its.length) (bnd (noX (fmapM (bodyM cl T I E (blk G fr τ)) its)) lstT) := rfl
theorem r_comp {G : Gm} {fr : List Nat} {T : Tg} {s : Sr} {I : List IR} {E : IR} : evR cl (.comp G fr T s I E) τ = bnd (evSr cl s τ) (compK cl G fr T I E τ) := rfl
theorem rs_n : evRs cl [] τ = .ok [] := rfl
noncomputable def consK (d : D) (ds : List D) : Res (List D) := .ok (d :: ds)
theorem consK_k {d : D} {ds : List D} : consK d ds = .ok (d :: ds) := rfl
noncomputable def rsK (cl : Nat → List D → Res D) (es : List IR) (τ : Ev) (d : D) : Res (List D) := bnd (evRs cl es τ) (consK d)
theorem rsK_k {es : List IR} {d : D} : rsK cl es τ d = bnd (evRs cl es τ) (consK d) := rfl
theorem rs_c {e : IR} {es : List IR} : evRs cl (e :: es) τ = bnd (evR cl e τ) (rsK cl es τ) := rfl
noncomputable def intO : D → Res (Option Int)
  | .int i => .ok (some i)
  | _ => stk
theorem intO_i {i : Int} : intO (.int i) = .ok (some i) := rfl
theorem ro_n : evRO cl none τ = .ok none := rfl
theorem ro_s {e : IR} : evRO cl (some e) τ = bnd (evR cl e τ) intO := rfl
theorem ts_n : evTs cl [] τ = .ok true := rfl
noncomputable def tsK (cl : Nat → List D → Res D) (es : List IR) (τ : Ev) (r : Bool) : Res Bool := if r = true then evTs cl es τ else .ok false
theorem tsK_k {es : List IR} {r : Bool} : tsK cl es τ r = if r = true then evTs cl es τ else .ok false := rfl
theorem ts_c {e : IR} {es : List IR} : evTs cl (e :: es) τ = bnd (bnd (evR cl e τ) truD) (tsK cl es τ) := rfl
noncomputable def rng1D : D → Res (List D)
  | .int i => grd (rngOk i) (.ok (rngD 0 i))
  | _ => stk
theorem rng1D_i {i : Int} : rng1D (.int i) = grd (rngOk i) (.ok (rngD 0 i)) := rfl
theorem s_r1 {n : IR} : evSr cl (.rng1 n) τ = bnd (evR cl n τ) rng1D := rfl
noncomputable def rng2D : D → D → Res (List D)
  | .int i, .int j => grd (rngOk i && rngOk j) (.ok (rngD i j))
  | _, _ => stk
theorem rng2D_i {i j : Int} : rng2D (.int i) (.int j) = grd (rngOk i && rngOk j) (.ok (rngD i j)) := rfl
noncomputable def r2K (cl : Nat → List D → Res D) (b : IR) (τ : Ev) (x : D) : Res (List D) := bnd (evR cl b τ) (rng2D x)
theorem r2K_k {b : IR} {x : D} : r2K cl b τ x = bnd (evR cl b τ) (rng2D x) := rfl
theorem s_r2 {a b : IR} : evSr cl (.rng2 a b) τ = bnd (evR cl a τ) (r2K cl b τ) := rfl
theorem s_val {e : IR} : evSr cl (.val e) τ = bnd (evR cl e τ) itemsD := rfl
theorem it_l {o : Bool} {ds : List D} : itemsD (.lst o ds) = .ok ds := rfl
theorem t_t {t : IR} : evT cl t τ = bnd (evR cl t τ) truD := rfl
theorem o_v {i : Nat} : evO cl mv (.v i) τ = (match slotD τ i with | some d => if mv = true then .ok (d, τ.set i none) else .ok (er d, τ.set i (some (er d))) | none => stk) := rfl
noncomputable def otupK (p : List D × Ev) : Res (D × Ev) := grd (szOk p.1.length) (.ok (.tup p.1, p.2))
theorem otupK_k {p : List D × Ev} : otupK p = grd (szOk p.1.length) (.ok (.tup p.1, p.2)) := rfl
theorem o_tup {es : List IR} : evO cl mv (.tup es) τ = bnd (evOs cl mv es τ) otupK := rfl
noncomputable def olstK (p : List D × Ev) : Res (D × Ev) := grd (szOk p.1.length) (.ok (.lst true p.1, p.2))
theorem olstK_k {p : List D × Ev} : olstK p = grd (szOk p.1.length) (.ok (.lst true p.1, p.2)) := rfl
theorem o_lst {es : List IR} : evO cl mv (.lst es) τ = bnd (evOs cl mv es τ) olstK := rfl
noncomputable def ocallK3 (es : List IR) (τ : Ev) (ds : List D) (d : D) : Res (D × Ev) := if apartD d ds = true then .ok (d, τ) else .ok (d, frz (varss es) τ)
theorem ocallK3_k {es : List IR} {ds : List D} {d : D} : ocallK3 es τ ds d = if apartD d ds = true then .ok (d, τ) else .ok (d, frz (varss es) τ) := rfl
noncomputable def ocallK2 (es : List IR) (τ : Ev) (ds : List D) (d : D) : Res (D × Ev) := if lfree d = true then .ok (d, τ) else ocallK3 es τ ds d
theorem ocallK2_k {es : List IR} {ds : List D} {d : D} : ocallK2 es τ ds d = if lfree d = true then .ok (d, τ) else ocallK3 es τ ds d := rfl
noncomputable def ocallK (cl : Nat → List D → Res D) (f : Nat) (es : List IR) (τ : Ev) (ds : List D) : Res (D × Ev) := bnd (cl f (ers ds)) (ocallK2 es τ ds)
theorem ocallK_k {f : Nat} {es : List IR} {ds : List D} : ocallK cl f es τ ds = bnd (cl f (ers ds)) (ocallK2 es τ ds) := rfl
theorem o_call {f : Nat} {es : List IR} : evO cl mv (.call f es) τ = bnd (evRs cl es τ) (ocallK cl f es τ) := rfl
noncomputable def keepK (e : IR) (τ : Ev) (d : D) : Res (D × Ev) := .ok (keepD e d τ)
theorem keepK_k {e : IR} {d : D} : keepK e τ d = .ok (keepD e d τ) := rfl
theorem o_c {d : D} : evO cl mv (.c d) τ = bnd (evR cl (.c d) τ) (keepK (.c d) τ) := rfl
theorem o_g {n : Nat} {d : D} : evO cl mv (.g n d) τ = bnd (evR cl (.g n d) τ) (keepK (.g n d) τ) := rfl
theorem o_bin {op : BOp} {a b : IR} : evO cl mv (.bin op a b) τ = bnd (evR cl (.bin op a b) τ) (keepK (.bin op a b) τ) := rfl
theorem o_cmp {op : COp} {a b : IR} : evO cl mv (.cmp op a b) τ = bnd (evR cl (.cmp op a b) τ) (keepK (.cmp op a b) τ) := rfl
theorem o_chain {op op' : COp} {a b c : IR} : evO cl mv (.chain op op' a b c) τ = bnd (evR cl (.chain op op' a b c) τ) (keepK (.chain op op' a b c) τ) := rfl
theorem o_or {a b : IR} : evO cl mv (.or_ a b) τ = bnd (evR cl (.or_ a b) τ) (keepK (.or_ a b) τ) := rfl
theorem o_and {a b : IR} : evO cl mv (.and_ a b) τ = bnd (evR cl (.and_ a b) τ) (keepK (.and_ a b) τ) := rfl
theorem o_lset {a : IR} : evO cl mv (.lset a) τ = bnd (evR cl (.lset a) τ) (keepK (.lset a) τ) := rfl
theorem o_not {a : IR} : evO cl mv (.not_ a) τ = bnd (evR cl (.not_ a) τ) (keepK (.not_ a) τ) := rfl
theorem o_idx {a i : IR} : evO cl mv (.idx a i) τ = bnd (evR cl (.idx a i) τ) (keepK (.idx a i) τ) := rfl
theorem o_sl {a : IR} {lo hi : Option IR} : evO cl mv (.sl a lo hi) τ = bnd (evR cl (.sl a lo hi) τ) (keepK (.sl a lo hi) τ) := rfl
theorem o_bi {f : Bi} {es : List IR} : evO cl mv (.bi f es) τ = bnd (evR cl (.bi f es) τ) (keepK (.bi f es) τ) := rfl
theorem o_isi {a : IR} {k : Kd} : evO cl mv (.isi a k) τ = bnd (evR cl (.isi a k) τ) (keepK (.isi a k) τ) := rfl
theorem o_mth {m : Mt} {o : IR} {es : List IR} : evO cl mv (.mth m o es) τ = bnd (evR cl (.mth m o es) τ) (keepK (.mth m o es) τ) := rfl
theorem o_comp {G : Gm} {fr : List Nat} {T : Tg} {s : Sr} {I : List IR} {E : IR} : evO cl mv (.comp G fr T s I E) τ = bnd (evR cl (.comp G fr T s I E) τ) (keepK (.comp G fr T s I E) τ) := rfl
theorem os_n : evOs cl mv [] τ = .ok ([], τ) := rfl
noncomputable def osK2 (d : D) (q : List D × Ev) : Res (List D × Ev) := .ok (d :: q.1, q.2)
theorem osK2_k {d : D} {q : List D × Ev} : osK2 d q = .ok (d :: q.1, q.2) := rfl
noncomputable def osK (cl : Nat → List D → Res D) (mv : Bool) (es : List IR) (p : D × Ev) : Res (List D × Ev) := bnd (evOs cl mv es p.2) (osK2 p.1)
theorem osK_k {es : List IR} {p : D × Ev} : osK cl mv es p = bnd (evOs cl mv es p.2) (osK2 p.1) := rfl
theorem os_c {e : IR} {es : List IR} : evOs cl mv (e :: es) τ = bnd (evO cl mv e τ) (osK cl mv es) := rfl
noncomputable def smK (d : D) : Res (Option D) := .ok (some d)
theorem smK_k {d : D} : smK d = .ok (some d) := rfl
noncomputable def bdK2 (cl : Nat → List D → Res D) (E : IR) (τ : Ev) (r : Bool) : Res (Option D) := if r = true then bnd (evR cl E τ) smK else .ok none
theorem bdK2_k {E : IR} {r : Bool} : bdK2 cl E τ r = if r = true then bnd (evR cl E τ) smK else .ok none := rfl
noncomputable def bdK (cl : Nat → List D → Res D) (I : List IR) (E : IR) (τ : Ev) : Res (Option D) := bnd (evTs cl I τ) (bdK2 cl E τ)
theorem bdK_k {I : List IR} {E : IR} : bdK cl I E τ = bnd (evTs cl I τ) (bdK2 cl E τ) := rfl
theorem body_eq {T : Tg} {I : List IR} {E : IR} {x : D} : bodyM cl T I E τ x = bnd (setT T x τ) (bdK cl I E) := rfl
theorem blk_eq {G : Gm} {fr : List Nat} : blk G fr τ = fr.map (slotD τ) ++ List.replicate (G.N.length - fr.length) none := rfl
theorem k_i {e : IR} {i : Int} : keepD e (.int i) τ = (.int i, τ) := rfl
theorem k_s {e : IR} {x : Str} : keepD e (.str x) τ = (.str x, τ) := rfl
theorem k_b {e : IR} {b : Bool} : keepD e (.bl b) τ = (.bl b, τ) := rfl
theorem k_n {e : IR} : keepD e .non τ = (.non, τ) := rfl
noncomputable def nxK (τ' : Ev) : Res Fl := .ok (.nx τ')
theorem nxK_k : nxK τ = .ok (.nx τ) := rfl
noncomputable def asgK (tg : Tg) (p : D × Ev) : Res Fl := bnd (setT tg p.1 p.2) nxK
theorem asgK_k {tg : Tg} {p : D × Ev} : asgK tg p = bnd (setT tg p.1 p.2) nxK := rfl
theorem st_asg {tg : Tg} {e : IR} : evS cl (.asg tg e) τ = bnd (evO cl false e τ) (asgK tg) := rfl
noncomputable def setxD (i : Nat) (p : D × Ev) (ds : List D) : D → Res Fl
  | .int z => (match ixN ds.length z with
    | some j => .ok (.nx (p.2.set i (some (.lst true (ds.set j p.1)))))
    | none => stk)
  | _ => stk
noncomputable def setL (cl : Nat → List D → Res D) (i : Nat) (k : IR) (p : D × Ev) : Option D → Res Fl
  | some (.lst true ds) => bnd (evR cl k p.2) (setxD i p ds)
  | _ => stk
theorem setL_t {i : Nat} {k : IR} {p : D × Ev} {ds : List D} : setL cl i k p (some (.lst true ds)) = bnd (evR cl k p.2) (setxD i p ds) := rfl
theorem setxD_i {i : Nat} {p : D × Ev} {ds : List D} {z : Int} : setxD i p ds (.int z) = (match ixN ds.length z with | some j => .ok (.nx (p.2.set i (some (.lst true (ds.set j p.1))))) | none => stk) := rfl
noncomputable def setixK (cl : Nat → List D → Res D) (i : Nat) (k : IR) (p : D × Ev) : Res Fl := setL cl i k p (slotD p.2 i)
theorem setixK_k {i : Nat} {k : IR} {p : D × Ev} : setixK cl i k p = setL cl i k p (slotD p.2 i) := rfl
theorem st_setix {i : Nat} {k e : IR} : evS cl (.setix i k e) τ = bnd (evO cl false e τ) (setixK cl i k) := rfl
noncomputable def appD (i : Nat) (p : D × Ev) : Option D → Res Fl
  | some (.lst true ds) => grd (szLt ds.length) (.ok (.nx (p.2.set i (some (.lst true (ds ++ [p.1]))))))
  | _ => stk
noncomputable def appK (i : Nat) (p : D × Ev) : Res Fl := appD i p (slotD p.2 i)
theorem appK_k {i : Nat} {p : D × Ev} : appK i p = appD i p (slotD p.2 i) := rfl
noncomputable def app0 (cl : Nat → List D → Res D) (i : Nat) (e : IR) (τ : Ev) : Option D → Res Fl
  | some (.lst _ _) => bnd (evO cl false e τ) (appK i)
  | _ => stk
theorem app0_t {i : Nat} {e : IR} {o : Bool} {ds : List D} : app0 cl i e τ (some (.lst o ds)) = bnd (evO cl false e τ) (appK i) := rfl
theorem appD_t {i : Nat} {p : D × Ev} {ds : List D} : appD i p (some (.lst true ds)) = grd (szLt ds.length) (.ok (.nx (p.2.set i (some (.lst true (ds ++ [p.1])))))) := rfl
theorem st_app {i : Nat} {e : IR} : evS cl (.app i e) τ = app0 cl i e τ (slotD τ i) := rfl
noncomputable def expK (τ : Ev) (d : D) : Res Fl := .ok (.nx τ)
theorem expK_k {d : D} : expK τ d = .ok (.nx τ) := rfl
theorem st_exp {e : IR} : evS cl (.exp e) τ = bnd (evR cl e τ) (expK τ) := rfl
noncomputable def rtK (p : D × Ev) : Res Fl := .ok (.rt p.1)
theorem rtK_k {p : D × Ev} : rtK p = .ok (.rt p.1) := rfl
theorem st_ret {e : IR} : evS cl (.ret e) τ = bnd (evO cl true e τ) rtK := rfl
noncomputable def ifK (cl : Nat → List D → Res D) (a b : List IS) (τ : Ev) (r : Bool) : Res Fl := if r = true then evSs cl a τ else evSs cl b τ
theorem ifK_k {a b : List IS} {r : Bool} : ifK cl a b τ r = if r = true then evSs cl a τ else evSs cl b τ := rfl
theorem st_rse {n : Nat} {c w : Str} : evS cl (.raise_ n c w) τ = .error (.exc c) := rfl
theorem bnd_x {α β : Type} {c : Str} {f : α → Res β} : bnd (.error (.exc c)) f = .error (.exc c) := rfl
theorem er_x {c : Str} : er (.exc c) = .exc c := rfl
theorem st_if {t : IR} {a b : List IS} : evS cl (.if_ t a b) τ = bnd (evT cl t τ) (ifK cl a b τ) := rfl
noncomputable def turn (cl : Nat → List D → Res D) (tg : Tg) (body : List IS) (x : D) (τ : Ev) : Res Fl := bnd (setT tg x τ) (evSs cl body)
theorem turn_eq {tg : Tg} {body : List IS} {x : D} : turn cl tg body x τ = bnd (setT tg x τ) (evSs cl body) := rfl
noncomputable def forK (cl : Nat → List D → Res D) (tg : Tg) (body : List IS) (p : List D × Ev) : Res Fl := forM (turn cl tg body) p.1 p.2
theorem forK_k {tg : Tg} {body : List IS} {p : List D × Ev} : forK cl tg body p = forM (turn cl tg body) p.1 p.2 := rfl
theorem st_for {tg : Tg} {s : Sr} {body : List IS} : evS cl (.for_ tg s body) τ = bnd (srcO cl s τ) (forK cl tg body) := rfl
noncomputable def seqF (f : Ev → Res Fl) : Fl → Res Fl
  | .nx τ' => f τ'
  | .rt d => .ok (.rt d)
theorem ss_n : evSs cl [] τ = .ok (.nx τ) := rfl
theorem ss_c {s : IS} {r : List IS} : evSs cl (s :: r) τ = bnd (evS cl s τ) (seqF (evSs cl r)) := rfl
theorem sq_nx {f : Ev → Res Fl} : seqF f (.nx τ) = f τ := rfl
theorem sq_rt {f : Ev → Res Fl} {d : D} : seqF f (.rt d) = .ok (.rt d) := rfl
noncomputable def srcK (τ : Ev) (its : List D) : Res (List D × Ev) := .ok (its, τ)
theorem srcK_k {its : List D} : srcK τ its = .ok (its, τ) := rfl
noncomputable def srcvK (e : IR) (τ : Ev) (its : List D) : Res (List D × Ev) := .ok (ers its, frz (vars e) τ)
theorem srcvK_k {e : IR} {its : List D} : srcvK e τ its = .ok (ers its, frz (vars e) τ) := rfl
theorem src_1 {n : IR} : srcO cl (.rng1 n) τ = bnd (evSr cl (.rng1 n) τ) (srcK τ) := rfl
theorem src_v {e : IR} : srcO cl (.val e) τ = bnd (evSr cl (.val e) τ) (srcvK e τ) := rfl
noncomputable def forF (body : D → Ev → Res Fl) (xs : List D) : Fl → Res Fl
  | .nx τ' => forM body xs τ'
  | .rt d => .ok (.rt d)
theorem for_n {body : D → Ev → Res Fl} : forM body [] τ = .ok (.nx τ) := rfl
theorem for_c {body : D → Ev → Res Fl} {x : D} {xs : List D} : forM body (x :: xs) τ = bnd (body x τ) (forF body xs) := rfl
theorem ff_nx {body : D → Ev → Res Fl} {xs : List D} : forF body xs (.nx τ) = forM body xs τ := rfl
theorem ff_rt {body : D → Ev → Res Fl} {xs : List D} {d : D} : forF body xs (.rt d) = .ok (.rt d) := rfl
theorem t_pr {i j : Nat} {a b : D} : setT (.pr i j) (.tup [a, b]) τ = .ok ((τ.set i (some a)).set j (some b)) := rfl
theorem t_nm {i : Nat} {d : D} : setT (.nm i) d τ = .ok (τ.set i (some d)) := rfl
theorem sl_0 {o : Option D} : slotD (o :: τ) 0 = o := by unfold slotD; simp
theorem sl_s {o : Option D} {i : Nat} : slotD (o :: τ) (i + 1) = slotD τ i := slotD_cons
theorem set_0 {o p : Option D} : (o :: τ).set 0 p = p :: τ := rfl
theorem set_s {o p : Option D} {i : Nat} : (o :: τ).set (i + 1) p = o :: τ.set i p := rfl
theorem b_add {a b : Int} : opB .add (.int a) (.int b) = .ok (.int (a + b)) := rfl
theorem b_adds {a b : Str} : opB .add (.str a) (.str b) = grd (szOk (a.length + b.length)) (.ok (.str (a ++ b))) := rfl
theorem b_addl {o o' : Bool} {a b : List D} : opB .add (.lst o a) (.lst o' b) = grd (szOk (a.length + b.length)) (.ok (.lst true (a ++ b))) := rfl
theorem b_sub {a b : Int} : opB .sub (.int a) (.int b) = .ok (.int (a - b)) := rfl
theorem b_mul {a b : Int} : opB .mul (.int a) (.int b) = grd (decide (-(2 ^ 64) < a ∧ a < 2 ^ 64) || decide (-(2 ^ 64) < b ∧ b < 2 ^ 64)) (.ok (.int (a * b))) := rfl
theorem b_fdiv {a b : Int} : opB .fdiv (.int a) (.int b) = grd (decide (0 < b ∧ b < 1073741824)) (.ok (.int (a / b))) := rfl
theorem b_mod {a b : Int} : opB .mod (.int a) (.int b) = grd (decide (0 < b)) (.ok (.int (a % b))) := rfl
theorem x_l {o : Bool} {ds : List D} {i : Int} : opIx (.lst o ds) (.int i) = (match atI ds i with | some d => .ok d | none => stk) := rfl
theorem x_t {ds : List D} {i : Int} : opIx (.tup ds) (.int i) = (match atI ds i with | some d => .ok d | none => stk) := rfl
theorem x_s {z : Str} {i : Int} : opIx (.str z) (.int i) = grd (szOk z.length) (match atI z.cps.toList i with | some c => .ok (.str ⟨#[c]⟩) | none => stk) := rfl
theorem sl_l {o : Bool} {ds : List D} {lo hi : Option Int} : opSl (.lst o ds) lo hi = .ok (.lst true (cutG ds lo hi)) := rfl
theorem sl_t {z : Str} {lo hi : Option Int} : opSl (.str z) lo hi = grd (szOk z.length) (.ok (.str (Txt.slice z lo hi))) := rfl
theorem tr_b {b : Bool} : truD (.bl b) = .ok b := rfl
theorem c_eq {a b : D} : opC .eq a b = eqN 40 a b := rfl
noncomputable def notB (r : Bool) : Res Bool := .ok !r
theorem notB_k {r : Bool} : notB r = .ok !r := rfl
theorem c_ne {a b : D} : opC .ne a b = bnd (eqN 40 a b) notB := rfl
theorem e_ii {n : Nat} {a b : Int} : eqN (n + 1) (.int a) (.int b) = .ok (a == b) := rfl
theorem e_ss {n : Nat} {a b : Str} : eqN (n + 1) (.str a) (.str b) = .ok (a == b) := rfl
theorem e_nn {n : Nat} : eqN (n + 1) .non .non = .ok true := rfl
theorem c_isn {a : D} : opC .isn a .non = .ok (!isNon a) := rfl
theorem n_n : isNon .non = true := rfl
theorem n_i {i : Int} : isNon (.int i) = false := rfl
theorem n_s {i : Str} : isNon (.str i) = false := rfl
theorem c_lt {a b : Int} : opC .lt (.int a) (.int b) = .ok (decide (a < b)) := rfl
theorem c_le {a b : Int} : opC .le (.int a) (.int b) = .ok (decide (a ≤ b)) := rfl
theorem bi_ls {x : Str} : opBi .len [.str x] = grd (szOk x.length) (.ok (.int x.length)) := rfl
theorem bi_listl {o : Bool} {ds : List D} : opBi .list [.lst o ds] = .ok (.lst true ds) := rfl
theorem bi_ll {o : Bool} {ds : List D} : opBi .len [.lst o ds] = .ok (.int ds.length) := rfl
theorem asStrs_i (ns : List Str) : asStrs (ns.map .str) = some ns := by
  induction ns with
  | nil => rfl
  | cons n ns ih =>
    show (asStrs (ns.map .str)).map (n :: ·) = _
    rw [ih]
    rfl
theorem mt_join {x : Str} {o : Bool} {ys : List Str} (h : (ys.map (·.length)).sum + ys.length * x.length ≤ 16777216) : opMt .join (.str x) [.lst o (ys.map .str)] = .ok (.str (Txt.join x ys)) := by
  show (match asStrs (ys.map .str) with | some ys => grd (decide ((ys.map (fun y : Str => y.length)).sum + ys.length * x.length ≤ 16777216)) (.ok (.str (Txt.join x ys))) | none => stk) = (_ : Res D)
  rw [asStrs_i]
  show grd (decide _) _ = _
  rw [decide_eq_true h]
  rfl
theorem isj_tt {ds : List D} : isiD .tuple (.tup ds) = true := rfl
theorem str_t {x : Str} : isStrD (.str x) = true := rfl
theorem lf_i (ns : List Int) : lfrees (ns.map .int) = true := by
  rw [lfrees_all, List.all_map, List.all_eq_true]
  intro x _
  rfl
theorem lf_s (ns : List Str) : lfrees (ns.map .str) = true := by
  rw [lfrees_all, List.all_map, List.all_eq_true]
  intro x _
  rfl
theorem er_i {i : Int} : er (.int i) = .int i := by rw [er]
theorem er_s {i : Str} : er (.str i) = .str i := by rw [er]
theorem er_b {i : Bool} : er (.bl i) = .bl i := by rw [er]
theorem er_n : er .non = .non := by rw [er]
theorem er_t {ds : List D} : er (.tup ds) = .tup (ers ds) := by rw [er]
theorem er_l {o : Bool} {ds : List D} : er (.lst o ds) = .lst false (ers ds) := by rw [er]
theorem ers_n : ers [] = [] := by rw [ers]
theorem ers_c {d : D} {ds : List D} : ers (d :: ds) = er d :: ers ds := by rw [ers]
theorem ers_ii (ns : List Int) : ers (ns.map .int) = ns.map .int := ers_lfrees (lf_i ns)
theorem ers_ss (ns : List Str) : ers (ns.map .str) = ns.map .str := ers_lfrees (lf_s ns)
theorem lfr_i {i : Int} : lfree (.int i) = true := rfl
theorem lfr_s {i : Str} : lfree (.str i) = true := rfl
theorem lfr_b {i : Bool} : lfree (.bl i) = true := rfl
theorem lfr_n : lfree .non = true := rfl
theorem lfr_t {ds : List D} : lfree (.tup ds) = lfrees ds := rfl
theorem lfr_l {o : Bool} {ds : List D} : lfree (.lst o ds) = false := rfl
theorem lfrs_n : lfrees [] = true := rfl
theorem lfrs_c {d : D} {ds : List D} : lfrees (d :: ds) = (lfree d && lfrees ds) := rfl
noncomputable def retF : Fl → Res D
  | .nx _ => .ok .non
  | .rt d => .ok d
theorem run {fn : Fn} {ds : List D} (h : ds.length = fn.np) : runF cl fn ds = bnd (evSs cl fn.body (ds.map some ++ List.replicate (fn.G.N.length - fn.np) none)) retF := by
  unfold runF
  rw [decide_eq_true h]
  rfl
theorem ret_nx : retF (.nx τ) = .ok .non := rfl
theorem ret_rt {d : D} : retF (.rt d) = .ok d := rfl
theorem call {T : Tb} {n f : Nat} {fn : Fn} {ds : List D} (h : T f = some fn) : callF T (n + 1) f ds = runF (callF T n) fn ds := by
  show (match T f with | some fn => runF (callF T n) fn ds | none => stk) = _
  rw [h]
theorem go {T : Tb} {n f : Nat} {fn : Fn} {ds : List D} {m k : Nat} {body : List IS} (h : T f = some fn) (h1 : fn.np = m) (h2 : fn.G.N.length = k) (h3 : fn.body = body) (hl : ds.length = m) :
    callF T (n + 1) f ds = bnd (evSs (callF T n) body (ds.map some ++ List.replicate (k - m) none)) retF := by
  rw [call h, run (by rw [hl, h1]), h1, h2, h3]
end
end Ev
end L2
namespace L2
open PySem PySem.Spec PyProof.Rows PySem.SeqAt
namespace Ev
section
variable {cl : Nat → List D → Res D} {τ : Ev}
theorem line : sizeLine = 16777216 := sizeLine_eq
theorem c_mulL {a b : Int} (h1 : -18446744073709551616 < a) (h2 : a < 18446744073709551616) : opB .mul (.int a) (.int b) = .ok (.int (a * b)) := by
  rw [b_mul, decide_eq_true (show -(2 ^ 64) < a ∧ a < 2 ^ 64 from ⟨by omega, by omega⟩)]
  rfl
theorem c_mulR {a b : Int} (h1 : -18446744073709551616 < b) (h2 : b < 18446744073709551616) : opB .mul (.int a) (.int b) = .ok (.int (a * b)) := by
  rw [b_mul, decide_eq_true (show -(2 ^ 64) < b ∧ b < 2 ^ 64 from ⟨by omega, by omega⟩), Bool.or_true]
  rfl
theorem c_fdiv {a b : Int} (h1 : 0 < b) (h2 : b < 1073741824) : opB .fdiv (.int a) (.int b) = .ok (.int (a / b)) := by
  rw [b_fdiv, decide_eq_true ⟨h1, h2⟩]
  rfl
theorem c_mod {a b : Int} (h1 : 0 < b) : opB .mod (.int a) (.int b) = .ok (.int (a % b)) := by
  rw [b_mod, decide_eq_true h1]
  rfl
theorem szOk_t {n : Nat} (h : n ≤ 16777216) : szOk n = true := decide_eq_true (by rw [line]; exact h)
theorem szLt_t {n : Nat} (h : n < 16777216) : szLt n = true := decide_eq_true (by rw [line]; exact h)
theorem rngOk_t {i : Int} (h1 : -4611686018427387904 ≤ i) (h2 : i < 4611686018427387904) : rngOk i = true := decide_eq_true ⟨by omega, by omega⟩
theorem atI_map {α β : Type} (f : α → β) (xs : List α) (i : Int) : atI (xs.map f) i = (atI xs i).map f := by
  unfold atI
  rw [List.length_map]
  cases ixN xs.length i with
  | none => rfl
  | some j => exact List.getElem?_map ..
theorem atI_in {α : Type} {xs : List α} {i : Int} (d : α) (h0 : 0 ≤ i) (h1 : i < xs.length) : atI xs i = some (xs.getD i.toNat d) := by
  unfold atI ixN
  rw [if_pos h0, if_pos h1]
  show xs[i.toNat]? = _
  have : i.toNat < xs.length := by omega
  rw [List.getD_eq_getElem?_getD, List.getElem?_eq_getElem this]
  rfl
theorem x_i {o : Bool} {xs : List Int} {i : Int} (h0 : 0 ≤ i) (h1 : i < xs.length) : opIx (.lst o (xs.map .int)) (.int i) = .ok (.int (xs.getD i.toNat 0)) := by
  rw [x_l, atI_map, atI_in 0 h0 h1]
  rfl
theorem x_ss {o : Bool} {xs : List Str} {i : Int} (h0 : 0 ≤ i) (h1 : i < xs.length) : opIx (.lst o (xs.map .str)) (.int i) = .ok (.str (xs.getD i.toNat ⟨#[]⟩)) := by
  rw [x_l, atI_map, atI_in ⟨#[]⟩ h0 h1]
  rfl
theorem x_c {z : Str} {i : Int} (h0 : 0 ≤ i) (h1 : i < z.length) (hz : z.length ≤ 16777216) : opIx (.str z) (.int i) = .ok (.str ⟨#[z.cps.toList.getD i.toNat 0]⟩) := by
  rw [x_s, szOk_t hz]
  have hl : z.cps.toList.length = z.length := by simp [Str.length]
  rw [atI_in 0 h0 (by rw [hl]; exact h1)]
  rfl
theorem cutG_map {α β : Type} (f : α → β) (xs : List α) (lo hi : Option Int) : cutG (xs.map f) lo hi = (cutG xs lo hi).map f := by
  unfold cutG
  rw [List.length_map, List.map_take, List.map_drop]
theorem cut_to {α : Type} (xs : List α) {m : Int} (h : 0 ≤ m) : cutG xs none (some m) = xs.take m.toNat := by
  unfold cutG HT.sIx
  simp only [List.drop_zero, Nat.sub_zero]
  rw [if_neg (by omega)]
  by_cases hm : m.toNat ≤ xs.length
  · rw [show min m.toNat xs.length = m.toNat from Nat.min_eq_left hm]
  · rw [show min m.toNat xs.length = xs.length from Nat.min_eq_right (by omega), List.take_length, List.take_of_length_le (by omega)]
noncomputable def fz : Bool → Option D → Option D
  | true, some d => some (er d)
  | true, none => none
  | false, o => o
theorem fz_t {d : D} : fz true (some d) = some (er d) := rfl
theorem fz_n : fz true none = none := rfl
theorem fz_f {o : Option D} : fz false o = o := rfl
theorem frz_n {is : List Nat} {k : Nat} : frzA is k [] = [] := rfl
theorem frz_c {is : List Nat} {k : Nat} {o : Option D} {τ : Ev} : frzA is k (o :: τ) = fz (is.contains k) o :: frzA is (k + 1) τ := by
  show (if is.contains k then o.map er else o) :: frzA is (k + 1) τ = _
  cases is.contains k <;> cases o <;> rfl
theorem vr_c {d : D} : vars (.c d) = [] := rfl
theorem vr_g {n : Nat} {d : D} : vars (.g n d) = [] := rfl
theorem vr_v {i : Nat} : vars (.v i) = [i] := rfl
theorem vr_bin {o : BOp} {a b : IR} : vars (.bin o a b) = vars a ++ vars b := rfl
theorem vr_tup {es : List IR} : vars (.tup es) = varss es := rfl
theorem vr_lst {es : List IR} : vars (.lst es) = varss es := rfl
theorem vr_call {f : Nat} {es : List IR} : vars (.call f es) = varss es := rfl
theorem vr_bi {f : Bi} {es : List IR} : vars (.bi f es) = varss es := rfl
theorem vr_idx {a i : IR} : vars (.idx a i) = vars a ++ vars i := rfl
theorem vr_mth {m : Mt} {o : IR} {es : List IR} : vars (.mth m o es) = vars o ++ varss es := rfl
theorem vrs_n : varss [] = [] := rfl
theorem vrs_c {e : IR} {es : List IR} : varss (e :: es) = vars e ++ varss es := rfl
theorem nl_comp {G : Gm} {fr : List Nat} {t : Tg} {s : Sr} {i : List IR} {e : IR} : newList? (.comp G fr t s i e) = true := rfl
theorem nl_sl {a : IR} {b c : Option IR} : newList? (.sl a b c) = false := rfl
theorem nl_add {a b : IR} {o : BOp} : newList? (.bin o a b) = false := rfl
theorem nl_list {es : List IR} : newList? (.bi .list es) = true := rfl
theorem nl_v {i : Nat} : newList? (.v i) = false := rfl
theorem nl_idx {a i : IR} : newList? (.idx a i) = false := rfl
theorem k_ll {e : IR} {o : Bool} {ds : List D} {τ : Ev} : keepD e (.lst o ds) τ = cond (newList? e) (cond (lfrees ds) (.lst true ds, τ) (.lst true (ers ds), frz (vars e) τ)) (.lst false (ers ds), frz (vars e) τ) := by
  unfold keepD
  rw [if_neg (show ¬ lfree (.lst o ds) = true by intro z; cases z)]
  cases newList? e
  · exact Prod.ext (by show er (.lst o ds) = _; rw [er]; rfl) rfl
  · show (if lfrees ds = true then _ else _) = _
    cases lfrees ds <;> rfl
theorem k_tt {e : IR} {ds : List D} {τ : Ev} : keepD e (.tup ds) τ = cond (lfrees ds) (.tup ds, τ) (.tup (ers ds), frz (vars e) τ) := by
  unfold keepD
  cases h : lfrees ds with
  | true => rw [if_pos (show lfree (.tup ds) = true from h)]; rfl
  | false =>
    rw [if_neg (show ¬ lfree (.tup ds) = true by intro z; rw [show lfree (.tup ds) = lfrees ds from rfl, h] at z; cases z)]
    cases newList? e <;> exact Prod.ext (by show er (.tup ds) = _; rw [er]; rfl) rfl
theorem for_inv {body : D → Ev → Res Fl} (P : Nat → Ev → Prop) : ∀ (its : List D) (k : Nat) (τ : Ev), P k τ → (∀ (i : Nat) (x : D) (τ : Ev), its[i]? = some x → P (k + i) τ → ∃ τ', body x τ = .ok (.nx τ') ∧ P (k + i + 1) τ') → ∃ τ', forM body its τ = .ok (.nx τ') ∧ P (k + its.length) τ'
  | [], k, τ, h, _ => ⟨τ, rfl, h⟩
  | x :: xs, k, τ, h, hb => by
    obtain ⟨τ1, e1, h1⟩ := hb 0 x τ rfl h
    obtain ⟨τ2, e2, h2⟩ := for_inv P xs (k + 1) τ1 h1 fun i y σ hy hp => by
      obtain ⟨τ', e', h'⟩ := hb (i + 1) y σ (by simpa using hy) (by rw [show k + (i + 1) = k + 1 + i by omega]; exact hp)
      exact ⟨τ', e', by rw [show k + 1 + i + 1 = k + (i + 1) + 1 by omega]; exact h'⟩
    refine ⟨τ2, ?_, by rw [List.length_cons, show k + (xs.length + 1) = k + 1 + xs.length by omega]; exact h2⟩
    rw [for_c, e1, bnd_k, ff_nx, e2]
theorem for_all {body : D → Ev → Res Fl} (P : Nat → Ev → Prop) {its : List D} {τ : Ev} (h : P 0 τ) (hb : ∀ (i : Nat) (x : D) (τ : Ev), its[i]? = some x → P i τ → ∃ τ', body x τ = .ok (.nx τ') ∧ P (i + 1) τ') : ∃ τ', forM body its τ = .ok (.nx τ') ∧ P its.length τ' := by
  obtain ⟨τ', h1, h2⟩ := for_inv P its 0 τ h fun i x τ hx hp => by
    rw [Nat.zero_add] at hp ⊢
    exact hb i x τ hx hp
  exact ⟨τ', h1, by rw [Nat.zero_add] at h2; exact h2⟩
theorem for_fold {α β : Type} {body : D → Ev → Res Fl} (f : β → α → β) (emb : α → D) (st : β → Ev → Prop) : ∀ (xs : List α) (b : β) (τ : Ev), st b τ → (∀ (x : α) (b : β) (τ : Ev), x ∈ xs → st b τ → ∃ τ', body (emb x) τ = .ok (.nx τ') ∧ st (f b x) τ') →
    ∃ τ', forM body (xs.map emb) τ = .ok (.nx τ') ∧ st (xs.foldl f b) τ'
  | [], b, τ, h, _ => ⟨τ, rfl, h⟩
  | x :: xs, b, τ, h, hb => by
    obtain ⟨τ1, e1, h1⟩ := hb x b τ (by simp) h
    obtain ⟨τ2, e2, h2⟩ := for_fold f emb st xs (f b x) τ1 h1 fun y b σ hy hp => hb y b σ (List.mem_cons_of_mem _ hy) hp
    refine ⟨τ2, ?_, h2⟩
    rw [List.map_cons, for_c, e1, bnd_k, ff_nx, e2]
theorem fmap_all {α β : Type} {g : D → Res (Option D)} (emb : α → D) (out : α → β) (emb' : β → D) : ∀ (xs : List α), (∀ x ∈ xs, g (emb x) = .ok (some (emb' (out x)))) → fmapM g (xs.map emb) = .ok ((xs.map out).map emb')
  | [], _ => rfl
  | x :: xs, h => by
    show bnd (g (emb x)) _ = _
    rw [h x (by simp)]
    show bnd (fmapM g (xs.map emb)) _ = _
    rw [fmap_all emb out emb' xs fun y hy => h y (List.mem_cons_of_mem _ hy)]
    rfl
theorem noX_k {α : Type} {a : α} : noX (.ok a : Res α) = .ok a := rfl
theorem rngD_map (a b : Int) : rngD a b = ((List.range (b - a).toNat).map fun k => a + (k : Nat)).map .int := by
  unfold rngD
  rw [List.map_map]
  rfl
end
end Ev
end L2
namespace L2
open PySem
theorem ev0 : type_of% (And.intro (And.intro (And.intro (And.intro (And.intro (And.intro (And.intro (And.intro @Ev.bnd_k @Ev.grd_t) (And.intro @Ev.if_t @Ev.if_f)) (And.intro (And.intro @Ev.r_c @Ev.r_g) (And.intro @Ev.r_v @Ev.binK_k))) (And.intro (And.intro (And.intro @Ev.r_bin @Ev.blK_k) (And.intro @Ev.cmpK2_k @Ev.cmpK_k)) (And.intro (And.intro @Ev.r_cmp @Ev.chK3_k) (And.intro @Ev.chK2_k @Ev.chK_k)))) (And.intro (And.intro (And.intro (And.intro @Ev.r_chain @Ev.orK2_k) (And.intro @Ev.orK_k @Ev.r_or)) (And.intro (And.intro @Ev.notK2_k @Ev.notK_k) (And.intro @Ev.andK2_k @Ev.andK_k))) (And.intro (And.intro (And.intro @Ev.r_and @Ev.r_lset) (And.intro @Ev.r_not @Ev.tupK_k)) (And.intro (And.intro @Ev.r_tup @Ev.lstK_k) (And.intro @Ev.r_lst @Ev.idxK_k))))) (And.intro (And.intro (And.intro (And.intro (And.intro @Ev.r_idx @Ev.slK2_k) (And.intro @Ev.slK_k @Ev.r_sl)) (And.intro (And.intro @Ev.callK_k @Ev.r_call) (And.intro @Ev.r_bi @Ev.isiK_k))) (And.intro (And.intro (And.intro @Ev.nx_n @Ev.nx_b) (And.intro @Ev.nx_i @Ev.nx_s)) (And.intro (And.intro @Ev.nx_t @Ev.nx_l) (And.intro @Ev.r_isi @Ev.mthK_k)))) (And.intro (And.intro (And.intro (And.intro @Ev.r_mth @Ev.lstT_k) (And.intro @Ev.compK_k @Ev.r_comp)) (And.intro (And.intro @Ev.rs_n @Ev.consK_k) (And.intro @Ev.rsK_k @Ev.rs_c))) (And.intro (And.intro (And.intro @Ev.intO_i @Ev.ro_n) (And.intro @Ev.ro_s @Ev.ts_n)) (And.intro (And.intro @Ev.tsK_k @Ev.ts_c) (And.intro @Ev.rng1D_i (And.intro @Ev.s_r1 @Ev.rng2D_i))))))) (And.intro (And.intro (And.intro (And.intro (And.intro (And.intro @Ev.r2K_k @Ev.s_r2) (And.intro @Ev.s_val @Ev.it_l)) (And.intro (And.intro @Ev.t_t @Ev.o_v) (And.intro @Ev.otupK_k @Ev.o_tup))) (And.intro (And.intro (And.intro @Ev.olstK_k @Ev.o_lst) (And.intro @Ev.ocallK3_k @Ev.ocallK2_k)) (And.intro (And.intro @Ev.ocallK_k @Ev.o_call) (And.intro @Ev.keepK_k @Ev.o_c)))) (And.intro (And.intro (And.intro (And.intro @Ev.o_g @Ev.o_bin) (And.intro @Ev.o_cmp @Ev.o_chain)) (And.intro (And.intro @Ev.o_or @Ev.o_and) (And.intro @Ev.o_lset @Ev.o_not))) (And.intro (And.intro (And.intro @Ev.o_idx @Ev.o_sl) (And.intro @Ev.o_bi @Ev.o_isi)) (And.intro (And.intro @Ev.o_mth @Ev.o_comp) (And.intro @Ev.os_n @Ev.osK2_k))))) (And.intro (And.intro (And.intro (And.intro (And.intro @Ev.osK_k @Ev.os_c) (And.intro @Ev.smK_k @Ev.bdK2_k)) (And.intro (And.intro @Ev.bdK_k @Ev.body_eq) (And.intro @Ev.blk_eq @Ev.k_i))) (And.intro (And.intro (And.intro @Ev.k_s @Ev.k_b) (And.intro @Ev.k_n @Ev.nxK_k)) (And.intro (And.intro @Ev.asgK_k @Ev.st_asg) (And.intro @Ev.setL_t @Ev.setxD_i)))) (And.intro (And.intro (And.intro (And.intro @Ev.setixK_k @Ev.st_setix) (And.intro @Ev.appK_k @Ev.app0_t)) (And.intro (And.intro @Ev.appD_t @Ev.st_app) (And.intro @Ev.expK_k @Ev.st_exp))) (And.intro (And.intro (And.intro @Ev.rtK_k @Ev.st_ret) (And.intro @Ev.ifK_k @Ev.st_rse)) (And.intro (And.intro @Ev.bnd_x @Ev.er_x) (And.intro @Ev.st_if (And.intro @Ev.forK_k @Ev.st_for)))))))) (And.intro (And.intro (And.intro (And.intro (And.intro (And.intro (And.intro @Ev.ss_n @Ev.ss_c) (And.intro @Ev.sq_nx @Ev.sq_rt)) (And.intro (And.intro @Ev.srcK_k @Ev.srcvK_k) (And.intro @Ev.src_1 @Ev.src_v))) (And.intro (And.intro (And.intro @Ev.for_n @Ev.for_c) (And.intro @Ev.ff_nx @Ev.ff_rt)) (And.intro (And.intro @Ev.t_pr @Ev.t_nm) (And.intro @Ev.sl_0 @Ev.sl_s)))) (And.intro (And.intro (And.intro (And.intro @Ev.set_0 @Ev.set_s) (And.intro @Ev.b_add @Ev.b_adds)) (And.intro (And.intro @Ev.b_addl @Ev.b_sub) (And.intro @Ev.x_t @Ev.sl_l))) (And.intro (And.intro (And.intro @Ev.sl_t @Ev.tr_b) (And.intro @Ev.c_eq @Ev.notB_k)) (And.intro (And.intro @Ev.c_ne @Ev.e_ii) (And.intro @Ev.e_ss @Ev.e_nn))))) (And.intro (And.intro (And.intro (And.intro (And.intro @Ev.c_isn @Ev.n_n) (And.intro @Ev.n_i @Ev.n_s)) (And.intro (And.intro @Ev.c_lt @Ev.c_le) (And.intro @Ev.bi_ls @Ev.bi_listl))) (And.intro (And.intro (And.intro @Ev.bi_ll @Ev.isj_tt) (And.intro @Ev.str_t @Ev.er_i)) (And.intro (And.intro @Ev.er_s @Ev.er_b) (And.intro @Ev.er_n @Ev.er_t)))) (And.intro (And.intro (And.intro (And.intro @Ev.er_l @Ev.ers_n) (And.intro @Ev.ers_c @Ev.ers_ii)) (And.intro (And.intro @Ev.ers_ss @Ev.lfr_i) (And.intro @Ev.lfr_s @Ev.lfr_b))) (And.intro (And.intro (And.intro @Ev.lfr_n @Ev.lfr_t) (And.intro @Ev.lfr_l @Ev.lfrs_n)) (And.intro (And.intro @Ev.lfrs_c @Ev.ret_nx) (And.intro @Ev.ret_rt (And.intro @Ev.c_mulL @Ev.c_mulR))))))) (And.intro (And.intro (And.intro (And.intro (And.intro (And.intro @Ev.c_fdiv @Ev.c_mod) (And.intro @Ev.szOk_t @Ev.szLt_t)) (And.intro (And.intro @Ev.rngOk_t @Ev.x_i) (And.intro @Ev.x_ss @Ev.x_c))) (And.intro (And.intro (And.intro @Ev.noX_k @Ev.fz_t) (And.intro @Ev.fz_n @Ev.fz_f)) (And.intro (And.intro @Ev.frz_n @Ev.frz_c) (And.intro @Ev.vr_c @Ev.vr_g)))) (And.intro (And.intro (And.intro (And.intro @Ev.vr_v @Ev.vr_bin) (And.intro @Ev.vr_tup @Ev.vr_lst)) (And.intro (And.intro @Ev.vr_call @Ev.vr_bi) (And.intro @Ev.vr_idx @Ev.vr_mth))) (And.intro (And.intro (And.intro @Ev.vrs_n @Ev.vrs_c) (And.intro @Ev.nl_comp @Ev.nl_add)) (And.intro (And.intro @Ev.nl_sl @Ev.nl_list) (And.intro @Ev.nl_v @Ev.nl_idx))))) (And.intro (And.intro (And.intro (And.intro (And.intro @Ev.k_ll @Ev.k_tt) (And.intro @cond_true.{1} @cond_false.{1})) (And.intro (And.intro @Ev.lf_i @Ev.lf_s) (And.intro @List.contains_cons.{0} @List.contains_nil.{0}))) (And.intro (And.intro (And.intro @Bool.or_false @Bool.or_true) (And.intro @Bool.true_or @Bool.false_or)) (And.intro (And.intro @List.map_cons.{0, 0} @List.map_nil.{0, 0}) (And.intro @List.cons_append.{0} @List.nil_append.{0})))) (And.intro (And.intro (And.intro (And.intro @List.replicate_succ.{0} @List.replicate_zero.{0}) (And.intro @List.length_cons.{0} @List.length_nil.{0})) (And.intro (And.intro @Nat.zero_add @decide_true) (And.intro @Bool.and_self @Bool.not_true))) (And.intro (And.intro (And.intro @Bool.not_false @Bool.and_true) (And.intro @Bool.true_and @Bool.and_false)) (And.intro (And.intro @Bool.false_and @beq_self_eq_true.{0}) (And.intro @if_true.{1} (And.intro @if_false.{1} @Bool.false_eq_true))))))))) := ⟨⟨⟨⟨⟨⟨⟨⟨@Ev.bnd_k, @Ev.grd_t⟩, ⟨@Ev.if_t, @Ev.if_f⟩⟩, ⟨⟨@Ev.r_c, @Ev.r_g⟩, ⟨@Ev.r_v, @Ev.binK_k⟩⟩⟩, ⟨⟨⟨@Ev.r_bin, @Ev.blK_k⟩, ⟨@Ev.cmpK2_k, @Ev.cmpK_k⟩⟩, ⟨⟨@Ev.r_cmp, @Ev.chK3_k⟩, ⟨@Ev.chK2_k, @Ev.chK_k⟩⟩⟩⟩, ⟨⟨⟨⟨@Ev.r_chain, @Ev.orK2_k⟩, ⟨@Ev.orK_k, @Ev.r_or⟩⟩, ⟨⟨@Ev.notK2_k, @Ev.notK_k⟩, ⟨@Ev.andK2_k, @Ev.andK_k⟩⟩⟩, ⟨⟨⟨@Ev.r_and, @Ev.r_lset⟩, ⟨@Ev.r_not, @Ev.tupK_k⟩⟩, ⟨⟨@Ev.r_tup, @Ev.lstK_k⟩, ⟨@Ev.r_lst, @Ev.idxK_k⟩⟩⟩⟩⟩, ⟨⟨⟨⟨⟨@Ev.r_idx, @Ev.slK2_k⟩, ⟨@Ev.slK_k, @Ev.r_sl⟩⟩, ⟨⟨@Ev.callK_k, @Ev.r_call⟩, ⟨@Ev.r_bi, @Ev.isiK_k⟩⟩⟩, ⟨⟨⟨@Ev.nx_n, @Ev.nx_b⟩, ⟨@Ev.nx_i, @Ev.nx_s⟩⟩, ⟨⟨@Ev.nx_t, @Ev.nx_l⟩, ⟨@Ev.r_isi, @Ev.mthK_k⟩⟩⟩⟩, ⟨⟨⟨⟨@Ev.r_mth, @Ev.lstT_k⟩, ⟨@Ev.compK_k, @Ev.r_comp⟩⟩, ⟨⟨@Ev.rs_n, @Ev.consK_k⟩, ⟨@Ev.rsK_k, @Ev.rs_c⟩⟩⟩, ⟨⟨⟨@Ev.intO_i, @Ev.ro_n⟩, ⟨@Ev.ro_s, @Ev.ts_n⟩⟩, ⟨⟨@Ev.tsK_k, @Ev.ts_c⟩, ⟨@Ev.rng1D_i, ⟨@Ev.s_r1, @Ev.rng2D_i⟩⟩⟩⟩⟩⟩⟩, ⟨⟨⟨⟨⟨⟨@Ev.r2K_k, @Ev.s_r2⟩, ⟨@Ev.s_val, @Ev.it_l⟩⟩, ⟨⟨@Ev.t_t, @Ev.o_v⟩, ⟨@Ev.otupK_k, @Ev.o_tup⟩⟩⟩, ⟨⟨⟨@Ev.olstK_k, @Ev.o_lst⟩, ⟨@Ev.ocallK3_k, @Ev.ocallK2_k⟩⟩, ⟨⟨@Ev.ocallK_k, @Ev.o_call⟩, ⟨@Ev.keepK_k, @Ev.o_c⟩⟩⟩⟩, ⟨⟨⟨⟨@Ev.o_g, @Ev.o_bin⟩, ⟨@Ev.o_cmp, @Ev.o_chain⟩⟩, ⟨⟨@Ev.o_or, @Ev.o_and⟩, ⟨@Ev.o_lset, @Ev.o_not⟩⟩⟩, ⟨⟨⟨@Ev.o_idx, @Ev.o_sl⟩, ⟨@Ev.o_bi, @Ev.o_isi⟩⟩, ⟨⟨@Ev.o_mth, @Ev.o_comp⟩, ⟨@Ev.os_n, @Ev.osK2_k⟩⟩⟩⟩⟩, ⟨⟨⟨⟨⟨@Ev.osK_k, @Ev.os_c⟩, ⟨@Ev.smK_k, @Ev.bdK2_k⟩⟩, ⟨⟨@Ev.bdK_k, @Ev.body_eq⟩, ⟨@Ev.blk_eq, @Ev.k_i⟩⟩⟩, ⟨⟨⟨@Ev.k_s, @Ev.k_b⟩, ⟨@Ev.k_n, @Ev.nxK_k⟩⟩, ⟨⟨@Ev.asgK_k, @Ev.st_asg⟩, ⟨@Ev.setL_t, @Ev.setxD_i⟩⟩⟩⟩, ⟨⟨⟨⟨@Ev.setixK_k, @Ev.st_setix⟩, ⟨@Ev.appK_k, @Ev.app0_t⟩⟩, ⟨⟨@Ev.appD_t, @Ev.st_app⟩, ⟨@Ev.expK_k, @Ev.st_exp⟩⟩⟩, ⟨⟨⟨@Ev.rtK_k, @Ev.st_ret⟩, ⟨@Ev.ifK_k, @Ev.st_rse⟩⟩, ⟨⟨@Ev.bnd_x, @Ev.er_x⟩, ⟨@Ev.st_if, ⟨@Ev.forK_k, @Ev.st_for⟩⟩⟩⟩⟩⟩⟩⟩, ⟨⟨⟨⟨⟨⟨⟨@Ev.ss_n, @Ev.ss_c⟩, ⟨@Ev.sq_nx, @Ev.sq_rt⟩⟩, ⟨⟨@Ev.srcK_k, @Ev.srcvK_k⟩, ⟨@Ev.src_1, @Ev.src_v⟩⟩⟩, ⟨⟨⟨@Ev.for_n, @Ev.for_c⟩, ⟨@Ev.ff_nx, @Ev.ff_rt⟩⟩, ⟨⟨@Ev.t_pr, @Ev.t_nm⟩, ⟨@Ev.sl_0, @Ev.sl_s⟩⟩⟩⟩, ⟨⟨⟨⟨@Ev.set_0, @Ev.set_s⟩, ⟨@Ev.b_add, @Ev.b_adds⟩⟩, ⟨⟨@Ev.b_addl, @Ev.b_sub⟩, ⟨@Ev.x_t, @Ev.sl_l⟩⟩⟩, ⟨⟨⟨@Ev.sl_t, @Ev.tr_b⟩, ⟨@Ev.c_eq, @Ev.notB_k⟩⟩, ⟨⟨@Ev.c_ne, @Ev.e_ii⟩, ⟨@Ev.e_ss, @Ev.e_nn⟩⟩⟩⟩⟩, ⟨⟨⟨⟨⟨@Ev.c_isn, @Ev.n_n⟩, ⟨@Ev.n_i, @Ev.n_s⟩⟩, ⟨⟨@Ev.c_lt, @Ev.c_le⟩, ⟨@Ev.bi_ls, @Ev.bi_listl⟩⟩⟩, ⟨⟨⟨@Ev.bi_ll, @Ev.isj_tt⟩, ⟨@Ev.str_t, @Ev.er_i⟩⟩, ⟨⟨@Ev.er_s, @Ev.er_b⟩, ⟨@Ev.er_n, @Ev.er_t⟩⟩⟩⟩, ⟨⟨⟨⟨@Ev.er_l, @Ev.ers_n⟩, ⟨@Ev.ers_c, @Ev.ers_ii⟩⟩, ⟨⟨@Ev.ers_ss, @Ev.lfr_i⟩, ⟨@Ev.lfr_s, @Ev.lfr_b⟩⟩⟩, ⟨⟨⟨@Ev.lfr_n, @Ev.lfr_t⟩, ⟨@Ev.lfr_l, @Ev.lfrs_n⟩⟩, ⟨⟨@Ev.lfrs_c, @Ev.ret_nx⟩, ⟨@Ev.ret_rt, ⟨@Ev.c_mulL, @Ev.c_mulR⟩⟩⟩⟩⟩⟩⟩, ⟨⟨⟨⟨⟨⟨@Ev.c_fdiv, @Ev.c_mod⟩, ⟨@Ev.szOk_t, @Ev.szLt_t⟩⟩, ⟨⟨@Ev.rngOk_t, @Ev.x_i⟩, ⟨@Ev.x_ss, @Ev.x_c⟩⟩⟩, ⟨⟨⟨@Ev.noX_k, @Ev.fz_t⟩, ⟨@Ev.fz_n, @Ev.fz_f⟩⟩, ⟨⟨@Ev.frz_n, @Ev.frz_c⟩, ⟨@Ev.vr_c, @Ev.vr_g⟩⟩⟩⟩, ⟨⟨⟨⟨@Ev.vr_v, @Ev.vr_bin⟩, ⟨@Ev.vr_tup, @Ev.vr_lst⟩⟩, ⟨⟨@Ev.vr_call, @Ev.vr_bi⟩, ⟨@Ev.vr_idx, @Ev.vr_mth⟩⟩⟩, ⟨⟨⟨@Ev.vrs_n, @Ev.vrs_c⟩, ⟨@Ev.nl_comp, @Ev.nl_add⟩⟩, ⟨⟨@Ev.nl_sl, @Ev.nl_list⟩, ⟨@Ev.nl_v, @Ev.nl_idx⟩⟩⟩⟩⟩, ⟨⟨⟨⟨⟨@Ev.k_ll, @Ev.k_tt⟩, ⟨@cond_true.{1}, @cond_false.{1}⟩⟩, ⟨⟨@Ev.lf_i, @Ev.lf_s⟩, ⟨@List.contains_cons.{0}, @List.contains_nil.{0}⟩⟩⟩, ⟨⟨⟨@Bool.or_false, @Bool.or_true⟩, ⟨@Bool.true_or, @Bool.false_or⟩⟩, ⟨⟨@List.map_cons.{0, 0}, @List.map_nil.{0, 0}⟩, ⟨@List.cons_append.{0}, @List.nil_append.{0}⟩⟩⟩⟩, ⟨⟨⟨⟨@List.replicate_succ.{0}, @List.replicate_zero.{0}⟩, ⟨@List.length_cons.{0}, @List.length_nil.{0}⟩⟩, ⟨⟨@Nat.zero_add, @decide_true⟩, ⟨@Bool.and_self, @Bool.not_true⟩⟩⟩, ⟨⟨⟨@Bool.not_false, @Bool.and_true⟩, ⟨@Bool.true_and, @Bool.and_false⟩⟩, ⟨⟨@Bool.false_and, @beq_self_eq_true.{0}⟩, ⟨@if_true.{1}, ⟨@if_false.{1}, @Bool.false_eq_true⟩⟩⟩⟩⟩⟩⟩⟩⟩
end L2
namespace L2
open PySem
namespace Fr
noncomputable def bCell : List IS := [(.if_ (.cmp .lt (.v 1) (.bi .len [(.v 0)])) [(.ret (.idx (.v 0) (.v 1)))] []), (.ret (.c (.int 0)))]
end Fr
end L2
namespace Law
open PySem L2
noncomputable def top (i : Nat) : Stmt := PySem.Challenge.pw_flagroll_k07_allotments_begun.main.body.getD i (.Pass ⟨0, 0, 0, 0⟩)
noncomputable def Z : Sg := { nm := (["PLACES", "run_size", "run_index", "allot_new", "face_at", "shares_of", "faces_by_place", "places_moved", "_law_cell_at", "_law_stream", "_law_names", "_law_word", "_law_refused", "law", "Twice", "NoSalt", "NoFace", "BadShare", "TooMuch", "NoWord", "NoGroup", "BadThings", "NoLine", "BadStage", "BadOutcome"] : List Str) ++ (["NoSwitch", "NoRule", "Unlike", "ValueError", "RollError"] : List Str), kst := [(18, (.int 10007))], fns := [19, 20, 21, 22, 23, 24, 25, 26, 27, 28, 29, 30, 31], cls := [33, 34, 32, 35, 36, 37, 38, 39, 40, 41, 42, 43, 44, 45, 46], xt := [("Twice", 33, false), ("Twice", 34, false), ("Twice", 32, true), ("Twice", 35, false), ("Twice", 36, false), ("Twice", 37, false), ("Twice", 38, false), ("Twice", 39, false), ("Twice", 40, false), ("Twice", 41, false), ("Twice", 42, false), ("Twice", 43, false), ("Twice", 44, false), ("Twice", 45, false), ("Twice", 46, true)], pl := [29], rc := [(32, "Twice")], xm := [("Twice", 47)] }
noncomputable def b19 : List IS :=
  [(.ret (.bi .sum [(.comp { N := ["low", "high"], kd := [.local, .local], gl := [], df := false } [] (.pr 0 1) (.val (.v 0)) [] (.bin .sub (.v 1) (.v 0)))]))]
noncomputable def d19 : Fn := { np := 1, G := { N := ["run"], kd := [.local], gl := [1], df := true }, body := b19 }
noncomputable def b20 : List IS :=
  [(.asg (.nm 2) (.c (.int 0))), (.for_ (.pr 3 4) (.val (.v 0)) [(.if_ (.chain .le .lt (.v 3) (.v 1) (.v 4)) [(.ret (.bin .sub (.bin .add (.v 2) (.v 1)) (.v 3)))] []), (.asg (.nm 2) (.bin .sub (.bin .add (.v 2) (.v 4)) (.v 3)))]), (.ret (.c .non))]
noncomputable def d20 : Fn := { np := 2, G := { N := ["run", "place", "ahead", "low", "high"], kd := [.local, .local, .local, .local, .local], gl := [], df := true }, body := b20 }
noncomputable def b21 : List IS :=
  [(.if_ (.cmp .lt (.lset (.v 0)) (.bi .len [(.v 0)])) [(.raise_ 32 "Twice" "a face stands twice among the faces")] []), (.ret (.tup [(.comp { N := ["face"], kd := [.local], gl := [], df := false } [] (.nm 0) (.val (.v 0)) [] (.tup [(.v 0), (.lst [])])), (.lst [(.tup [(.c (.int 0)), (.g 18 (.int 10007))])])]))]
noncomputable def d21 : Fn := { np := 1, G := { N := ["faces"], kd := [.local], gl := [0, 12, 32, 18], df := true }, body := b21 }
noncomputable def b22 : List IS :=
  [(.for_ (.pr 2 3) (.val (.idx (.v 0) (.c (.int 0)))) [(.if_ (.cmp .isn (.call 20 [(.v 3), (.v 1)]) (.c .non)) [(.ret (.v 2))] [])]), (.ret (.c .non))]
noncomputable def d22 : Fn := { np := 2, G := { N := ["allot", "place", "face", "run"], kd := [.local, .local, .local, .local], gl := [20], df := true }, body := b22 }
noncomputable def b23 : List IS :=
  [(.ret (.comp { N := ["face", "run"], kd := [.local, .local], gl := [19], df := false } [] (.pr 0 1) (.val (.idx (.v 0) (.c (.int 0)))) [] (.tup [(.v 0), (.call 19 [(.v 1)])])))]
noncomputable def d23 : Fn := { np := 1, G := { N := ["allot"], kd := [.local], gl := [], df := true }, body := b23 }
noncomputable def b24 : List IS :=
  [(.asg (.nm 1) (.bin .mul (.lst [(.c .non)]) (.g 18 (.int 10007)))), (.for_ (.pr 2 3) (.val (.idx (.v 0) (.c (.int 0)))) [(.for_ (.pr 4 5) (.val (.v 3)) [(.for_ (.nm 6) (.rng2 (.v 4) (.v 5)) [(.setix 1 (.v 6) (.v 2))])])]), (.ret (.v 1))]
noncomputable def d24 : Fn := { np := 1, G := { N := ["allot", "faces", "face", "run", "low", "high", "place"], kd := [.local, .local, .local, .local, .local, .local, .local], gl := [18, 15], df := true }, body := b24 }
noncomputable def b25 : List IS :=
  [(.asg (.nm 2) (.call 24 [(.v 0)])), (.asg (.nm 3) (.call 24 [(.v 1)])), (.ret (.bi .len [(.comp { N := ["faces", "other_faces", "place"], kd := [.cell, .cell, .local], gl := [], df := false } [2, 3] (.nm 2) (.rng1 (.g 18 (.int 10007))) [(.cmp .ne (.idx (.v 0) (.v 2)) (.idx (.v 1) (.v 2)))] (.v 2))]))]
noncomputable def d25 : Fn := { np := 2, G := { N := ["one", "other", "faces", "other_faces"], kd := [.local, .local, .cell, .cell], gl := [24, 0, 15, 18], df := true }, body := b25 }
noncomputable def b26 : List IS :=
  [(.if_ (.cmp .lt (.v 1) (.bi .len [(.v 0)])) [(.ret (.idx (.v 0) (.v 1)))] []), (.ret (.c (.int 0)))]
noncomputable def d26 : Fn := { np := 2, G := { N := ["_law_script", "_law_k"], kd := [.local, .local], gl := [0], df := true }, body := b26 }
noncomputable def b27 : List IS :=
  [(.asg (.nm 2) (.lst [])), (.asg (.nm 3) (.bin .add (.bin .mod (.v 0) (.c (.int 2147483647))) (.c (.int 1)))), (.for_ (.nm 4) (.rng1 (.v 1)) [(.asg (.nm 3) (.bin .mod (.bin .add (.bin .add (.bin .mul (.v 3) (.c (.int 48271))) (.bin .mul (.bin .mul (.c (.int 7)) (.v 4)) (.v 4))) (.c (.int 3))) (.c (.int 2147483647)))), (.app 2 (.bin .fdiv (.v 3) (.c (.int 16))))]), (.ret (.v 2))]
noncomputable def d27 : Fn := { np := 2, G := { N := ["_law_cell", "_law_many", "_law_found", "_law_number", "_law_k"], kd := [.local, .local, .local, .local, .local], gl := [15], df := true }, body := b27 }
noncomputable def b28 : List IS :=
  [(.asg (.nm 2) (.c (.str "abcdefghijklmnopqrstuvwxyz"))), (.asg (.nm 3) (.mth .join (.c (.str "")) [(.comp { N := ["_law_abc", "_law_number"], kd := [.cell, .local], gl := [], df := false } [2] (.nm 1) (.val (.call 27 [(.bin .fdiv (.v 0) (.c (.int 3))), (.c (.int 8))])) [] (.idx (.v 0) (.bin .mod (.v 1) (.c (.int 26)))))])), (.if_ (.and_ (.cmp .eq (.bin .mod (.v 0) (.c (.int 3))) (.c (.int 1))) (.cmp .le (.v 1) (.c (.int 8)))) [(.ret (.comp { N := ["_law_base", "_law_k"], kd := [.cell, .local], gl := [], df := false } [3] (.nm 1) (.rng1 (.v 1)) [] (.sl (.v 0) none (some (.bin .add (.v 1) (.c (.int 1)))))))] []), (.asg (.nm 3) (.sl (.v 3) none (some (.bin .add (.c (.int 1)) (.bin .mod (.bin .fdiv (.v 0) (.c (.int 3))) (.c (.int 8))))))), (.asg (.nm 4) (.bin .mod (.bin .fdiv (.v 0) (.c (.int 24))) (.bi .len [(.v 3)]))), (.ret (.comp { N := ["_law_base", "_law_at", "_law_abc", "_law_cell", "_law_k"], kd := [.cell, .cell, .cell, .cell, .local], gl := [], df := false } [3, 4, 2, 0] (.nm 4) (.rng1 (.v 1)) [] (.bin .add (.bin .add (.sl (.v 0) none (some (.v 1))) (.idx (.v 2) (.bin .mod (.bin .add (.bin .fdiv (.v 3) (.c (.int 3))) (.bin .mul (.c (.int 7)) (.v 4))) (.c (.int 26))))) (.sl (.v 0) (some (.bin .add (.v 1) (.c (.int 1)))) none))))]
noncomputable def d28 : Fn := { np := 2, G := { N := ["_law_cell", "_law_many", "_law_abc", "_law_base", "_law_at"], kd := [.cell, .local, .cell, .cell, .cell], gl := [27, 15, 0], df := true }, body := b28 }
noncomputable def b29 : List IS :=
  [(.asg (.nm 1) (.lst [])), (.if_ (.isx (.v 0) [33] [("Twice", false)]) [(.app 1 (.c (.str "salt")))] []), (.if_ (.isx (.v 0) [34] [("Twice", false)]) [(.app 1 (.c (.str "face")))] []), (.if_ (.isx (.v 0) [32] [("Twice", true)]) [(.app 1 (.c (.str "twice")))] []), (.if_ (.isx (.v 0) [35] [("Twice", false)]) [(.app 1 (.c (.str "share")))] []), (.if_ (.isx (.v 0) [36] [("Twice", false)]) [(.app 1 (.c (.str "much")))] []), (.if_ (.isx (.v 0) [37] [("Twice", false)]) [(.app 1 (.c (.str "word")))] []), (.if_ (.isx (.v 0) [38] [("Twice", false)]) [(.app 1 (.c (.str "group")))] []), (.if_ (.isx (.v 0) [39] [("Twice", false)]) [(.app 1 (.c (.str "things")))] []), (.if_ (.isx (.v 0) [40] [("Twice", false)]) [(.app 1 (.c (.str "line")))] []), (.if_ (.or_ (.isx (.v 0) [41, 42] [("Twice", false)]) (.or_ (.isx (.v 0) [43, 44] [("Twice", false)]) (.isx (.v 0) [45] [("Twice", false)]))) [(.app 1 (.c (.str "other")))] []), (.if_ (.not_ (.isx (.v 0) [46] [("Twice", true)])) [(.app 1 (.c (.str "base")))] []), (.ret (.mth .join (.c (.str "")) [(.v 1)]))]
noncomputable def d29 : Fn := { np := 1, G := { N := ["_law_e", "_law_words"], kd := [.local, .local], gl := [14, 33, 34, 32, 35, 36, 37, 38, 39, 40, 41, 42, 43, 44, 45, 46], df := true, cm := false }, body := b29 }
noncomputable def b30 : List IS :=
  [(.asg (.nm 1) (.c (.str "none"))), (.tryx [(.exp (.call 21 [(.v 0)]))] 47 ["Twice"] 2 [(.asg (.nm 1) (.call 29 [(.v 2)]))]), (.ret (.v 1))]
noncomputable def d30 : Fn := { np := 1, G := { N := ["_law_faces", "_law_word_here", "_law_e"], kd := [.local, .local, .local], gl := [47, 21, 29], df := true }, body := b30 }
noncomputable def b31 : List IS :=
  [(.asg (.nm 1) (.call 26 [(.v 0), (.c (.int 0))])), (.asg (.nm 2) (.call 28 [(.call 26 [(.v 0), (.c (.int 1))]), (.bin .mod (.v 1) (.c (.int 13)))])), (.if_ (.and_ (.cmp .ne (.v 2) (.lst [])) (.cmp .eq (.bin .mod (.bin .fdiv (.v 1) (.c (.int 13))) (.c (.int 3))) (.c (.int 1)))) [(.asg (.nm 3) (.bin .mod (.bin .fdiv (.v 1) (.c (.int 39))) (.bin .add (.bi .len [(.v 2)]) (.c (.int 1))))), (.asg (.nm 4) (.idx (.v 2) (.bin .mod (.bin .fdiv (.v 1) (.c (.int 39))) (.bi .len [(.v 2)])))), (.if_ (.cmp .ne (.call 30 [(.bin .add (.bin .add (.sl (.v 2) none (some (.v 3))) (.lst [(.v 4)])) (.sl (.v 2) (some (.v 3)) none))]) (.c (.str "twice"))) [(.ret (.c (.bl false)))] [])] []), (.asg (.nm 5) (.bi .list [(.v 2)])), (.asg (.nm 6) (.call 21 [(.v 5)])), (.asg (.nm 7) (.tup [(.comp { N := ["_law_face"], kd := [.local], gl := [], df := false } [] (.nm 0) (.val (.v 2)) [] (.tup [(.v 0), (.lst [])])), (.lst [(.tup [(.c (.int 0)), (.c (.int 10007))])])])), (.if_ (.or_ (.not_ (.isi (.v 6) .tuple)) (.or_ (.cmp .ne (.v 6) (.v 7)) (.cmp .ne (.v 5) (.v 2)))) [(.ret (.c (.bl false)))] []), (.if_ (.or_ (.cmp .ne (.call 23 [(.v 6)]) (.comp { N := ["_law_face"], kd := [.local], gl := [], df := false } [] (.nm 0) (.val (.v 2)) [] (.tup [(.v 0), (.c (.int 0))]))) (.cmp .ne (.call 25 [(.v 6), (.call 21 [(.v 2)])]) (.c (.int 0)))) [(.ret (.c (.bl false)))] []), (.for_ (.nm 8) (.val (.bin .add (.lst [(.c (.int 0)), (.c (.int 10006))]) (.comp { N := ["_law_cell"], kd := [.local], gl := [], df := false } [] (.nm 0) (.val (.sl (.v 0) (some (.c (.int 2))) (some (.c (.int 8))))) [] (.bin .mod (.v 0) (.c (.int 10007)))))) [(.if_ (.cmp .isn (.call 22 [(.v 6), (.v 8)]) (.c .non)) [(.ret (.c (.bl false)))] [])]), (.clrx 6 1), (.appx 6 0 (.tup [(.c (.str "zz")), (.lst [])])), (.app 5 (.c (.str "zz"))), (.ret (.cmp .eq (.call 21 [(.v 2)]) (.v 7)))]
noncomputable def d31 : Fn := { np := 1, G := { N := ["_law_script", "_law_number", "_law_faces", "_law_at", "_law_double", "_law_handed", "_law_found", "_law_due", "_law_place"], kd := [.local, .local, .local, .local, .local, .local, .local, .local, .local], gl := [26, 28, 0, 30, 5, 21, 14, 6, 23, 25, 22], df := true }, body := b31 }
noncomputable def T : Tb := fun n => match n with
  | 19 => some d19
  | 20 => some d20
  | 21 => some d21
  | 22 => some d22
  | 23 => some d23
  | 24 => some d24
  | 25 => some d25
  | 26 => some d26
  | 27 => some d27
  | 28 => some d28
  | 29 => some d29
  | 30 => some d30
  | 31 => some d31
  | _ => none
theorem c19 : chkDef Z d19 ["run"] (top 18) = true := by decide +kernel
theorem c20 : chkDef Z d20 ["run", "place"] (top 19) = true := by decide +kernel
theorem c21 : chkDef Z d21 ["faces"] (top 21) = true := by decide +kernel
theorem c22 : chkDef Z d22 ["allot", "place"] (top 22) = true := by decide +kernel
theorem c23 : chkDef Z d23 ["allot"] (top 23) = true := by decide +kernel
theorem c24 : chkDef Z d24 ["allot"] (top 24) = true := by decide +kernel
theorem c25 : chkDef Z d25 ["one", "other"] (top 25) = true := by decide +kernel
theorem c26 : chkDef Z d26 ["_law_script", "_law_k"] (top 27) = true := by decide +kernel
theorem c27 : chkDef Z d27 ["_law_cell", "_law_many"] (top 28) = true := by decide +kernel
theorem c28 : chkDef Z d28 ["_law_cell", "_law_many"] (top 29) = true := by decide +kernel
theorem c29 : chkDef Z d29 ["_law_e"] (top 30) = true := by decide +kernel
theorem c30 : chkDef Z d30 ["_law_faces"] (top 31) = true := by decide +kernel
theorem c31 : chkDef Z d31 ["_law_script"] (top 32) = true := by decide +kernel
theorem nam_ok : ∀ n x, Z.name n = some x → x ≠ "__name__" ∧ (x == ("__debug__" : Str)) = false := by
  have h : (bnames ++ Z.nm).all (fun x => !(x == "__name__") && !(x == "__debug__")) = true := by decide +kernel
  intro n x hx
  have := List.all_eq_true.mp h x (List.mem_of_getElem? hx)
  simpa using this
theorem ln1 {fd : FuncData} {ps : List Str} (h : ∀ x0 : Value, bindArgs fd ⟨[x0], []⟩ = pure (ps.zip [x0])) (us : List Value) (e : us.length = 1) : bindArgs fd ⟨us, []⟩ = pure (ps.zip us) := by
  match us, e with
  | [x0], _ => exact h x0
theorem ln2 {fd : FuncData} {ps : List Str} (h : ∀ x0 x1 : Value, bindArgs fd ⟨[x0, x1], []⟩ = pure (ps.zip [x0, x1])) (us : List Value) (e : us.length = 2) : bindArgs fd ⟨us, []⟩ = pure (ps.zip us) := by
  match us, e with
  | [x0, x1], _ => exact h x0 x1
theorem top_mk {w32 w33 w34 w35 w36 w37 w38 w39 w40 w41 w42 w43 w44 w45 w47 : Addr} {K : W.Frag} {h : Heap} {mg : Str → Option Value} {f19 f20 f21 f22 f23 f24 f25 f26 f27 f28 f29 f30 f31 : Addr} {od19 an19 od20 an20 od21 an21 od22 an22 od23 an23 od24 an24 od25 an25 od26 an26 od27 an27 od28 an28 od29 an29 od30 an30 od31 an31 : Option Addr} {sl19 sl20 sl21 sl22 sl23 sl24 sl25 sl26 sl27 sl28 sl29 sl30 sl31 : Array (Option Value)} {oc19 kV19 dc19 pm19 cd19 ct19 oc20 kV20 dc20 pm20 cd20 ct20 oc21 kV21 dc21 pm21 cd21 ct21 oc22 kV22 dc22 pm22 cd22 ct22 oc23 kV23 dc23 pm23 cd23 ct23 oc24 kV24 dc24 pm24 cd24 ct24 oc25 kV25 dc25 pm25 cd25 ct25 oc26 kV26 dc26 pm26 cd26 ct26 oc27 kV27 dc27 pm27 cd27 ct27 oc28 kV28 dc28 pm28 cd28 ct28 oc29 kV29 dc29 pm29 cd29 ct29 oc30 kV30 dc30 pm30 cd30 ct30 oc31 kV31 dc31 pm31 cd31 ct31 : Value} {t18 : Tok} (X : K.In h) (G : h.Ns mainGlobals mg)
    (a19 : W.nsIn K mainGlobals "run_size" = some (some (.ref f19))) (l19 : K.lookup f19 = some ⟨oc19, od19, .func (W.fnOf "run_size" "run_size" (defArgs (top 18)) (defBody (top 18)) (defScope (top 18)) .none kV19 dc19 pm19 an19 cd19 ct19), sl19⟩) (e19 : W.codeIn K cd19 "run_size" = true) (k19 : W.keepIn K (.ref f19) = true)
    (a20 : W.nsIn K mainGlobals "run_index" = some (some (.ref f20))) (l20 : K.lookup f20 = some ⟨oc20, od20, .func (W.fnOf "run_index" "run_index" (defArgs (top 19)) (defBody (top 19)) (defScope (top 19)) .none kV20 dc20 pm20 an20 cd20 ct20), sl20⟩) (e20 : W.codeIn K cd20 "run_index" = true) (k20 : W.keepIn K (.ref f20) = true)
    (a21 : W.nsIn K mainGlobals "allot_new" = some (some (.ref f21))) (l21 : K.lookup f21 = some ⟨oc21, od21, .func (W.fnOf "allot_new" "allot_new" (defArgs (top 21)) (defBody (top 21)) (defScope (top 21)) .none kV21 dc21 pm21 an21 cd21 ct21), sl21⟩) (e21 : W.codeIn K cd21 "allot_new" = true) (k21 : W.keepIn K (.ref f21) = true)
    (a22 : W.nsIn K mainGlobals "face_at" = some (some (.ref f22))) (l22 : K.lookup f22 = some ⟨oc22, od22, .func (W.fnOf "face_at" "face_at" (defArgs (top 22)) (defBody (top 22)) (defScope (top 22)) .none kV22 dc22 pm22 an22 cd22 ct22), sl22⟩) (e22 : W.codeIn K cd22 "face_at" = true) (k22 : W.keepIn K (.ref f22) = true)
    (a23 : W.nsIn K mainGlobals "shares_of" = some (some (.ref f23))) (l23 : K.lookup f23 = some ⟨oc23, od23, .func (W.fnOf "shares_of" "shares_of" (defArgs (top 23)) (defBody (top 23)) (defScope (top 23)) .none kV23 dc23 pm23 an23 cd23 ct23), sl23⟩) (e23 : W.codeIn K cd23 "shares_of" = true) (k23 : W.keepIn K (.ref f23) = true)
    (a24 : W.nsIn K mainGlobals "faces_by_place" = some (some (.ref f24))) (l24 : K.lookup f24 = some ⟨oc24, od24, .func (W.fnOf "faces_by_place" "faces_by_place" (defArgs (top 24)) (defBody (top 24)) (defScope (top 24)) .none kV24 dc24 pm24 an24 cd24 ct24), sl24⟩) (e24 : W.codeIn K cd24 "faces_by_place" = true) (k24 : W.keepIn K (.ref f24) = true)
    (a25 : W.nsIn K mainGlobals "places_moved" = some (some (.ref f25))) (l25 : K.lookup f25 = some ⟨oc25, od25, .func (W.fnOf "places_moved" "places_moved" (defArgs (top 25)) (defBody (top 25)) (defScope (top 25)) .none kV25 dc25 pm25 an25 cd25 ct25), sl25⟩) (e25 : W.codeIn K cd25 "places_moved" = true) (k25 : W.keepIn K (.ref f25) = true)
    (a26 : W.nsIn K mainGlobals "_law_cell_at" = some (some (.ref f26))) (l26 : K.lookup f26 = some ⟨oc26, od26, .func (W.fnOf "_law_cell_at" "_law_cell_at" (defArgs (top 27)) (defBody (top 27)) (defScope (top 27)) .none kV26 dc26 pm26 an26 cd26 ct26), sl26⟩) (e26 : W.codeIn K cd26 "_law_cell_at" = true) (k26 : W.keepIn K (.ref f26) = true)
    (a27 : W.nsIn K mainGlobals "_law_stream" = some (some (.ref f27))) (l27 : K.lookup f27 = some ⟨oc27, od27, .func (W.fnOf "_law_stream" "_law_stream" (defArgs (top 28)) (defBody (top 28)) (defScope (top 28)) .none kV27 dc27 pm27 an27 cd27 ct27), sl27⟩) (e27 : W.codeIn K cd27 "_law_stream" = true) (k27 : W.keepIn K (.ref f27) = true)
    (a28 : W.nsIn K mainGlobals "_law_names" = some (some (.ref f28))) (l28 : K.lookup f28 = some ⟨oc28, od28, .func (W.fnOf "_law_names" "_law_names" (defArgs (top 29)) (defBody (top 29)) (defScope (top 29)) .none kV28 dc28 pm28 an28 cd28 ct28), sl28⟩) (e28 : W.codeIn K cd28 "_law_names" = true) (k28 : W.keepIn K (.ref f28) = true)
    (a29 : W.nsIn K mainGlobals "_law_word" = some (some (.ref f29))) (l29 : K.lookup f29 = some ⟨oc29, od29, .func (W.fnOf "_law_word" "_law_word" (defArgs (top 30)) (defBody (top 30)) (defScope (top 30)) .none kV29 dc29 pm29 an29 cd29 ct29), sl29⟩) (e29 : W.codeIn K cd29 "_law_word" = true) (k29 : W.keepIn K (.ref f29) = true)
    (a30 : W.nsIn K mainGlobals "_law_refused" = some (some (.ref f30))) (l30 : K.lookup f30 = some ⟨oc30, od30, .func (W.fnOf "_law_refused" "_law_refused" (defArgs (top 31)) (defBody (top 31)) (defScope (top 31)) .none kV30 dc30 pm30 an30 cd30 ct30), sl30⟩) (e30 : W.codeIn K cd30 "_law_refused" = true) (k30 : W.keepIn K (.ref f30) = true)
    (a31 : W.nsIn K mainGlobals "law" = some (some (.ref f31))) (l31 : K.lookup f31 = some ⟨oc31, od31, .func (W.fnOf "law" "law" (defArgs (top 32)) (defBody (top 32)) (defScope (top 32)) .none kV31 dc31 pm31 an31 cd31 ct31), sl31⟩) (e31 : W.codeIn K cd31 "law" = true) (k31 : W.keepIn K (.ref f31) = true)
    (q18 : W.nsIn K mainGlobals "PLACES" = some (some (.int 10007 t18)))
    (u32 : W.nsIn K mainGlobals "Twice" = some (some (.ref w32)))
    (u33 : W.nsIn K mainGlobals "NoSalt" = some (some (.ref w33)))
    (u34 : W.nsIn K mainGlobals "NoFace" = some (some (.ref w34)))
    (u35 : W.nsIn K mainGlobals "BadShare" = some (some (.ref w35)))
    (u36 : W.nsIn K mainGlobals "TooMuch" = some (some (.ref w36)))
    (u37 : W.nsIn K mainGlobals "NoWord" = some (some (.ref w37)))
    (u38 : W.nsIn K mainGlobals "NoGroup" = some (some (.ref w38)))
    (u39 : W.nsIn K mainGlobals "BadThings" = some (some (.ref w39)))
    (u40 : W.nsIn K mainGlobals "NoLine" = some (some (.ref w40)))
    (u41 : W.nsIn K mainGlobals "BadStage" = some (some (.ref w41)))
    (u42 : W.nsIn K mainGlobals "BadOutcome" = some (some (.ref w42)))
    (u43 : W.nsIn K mainGlobals "NoSwitch" = some (some (.ref w43)))
    (u44 : W.nsIn K mainGlobals "NoRule" = some (some (.ref w44)))
    (u45 : W.nsIn K mainGlobals "Unlike" = some (some (.ref w45)))
    (u47 : W.nsIn K mainGlobals "RollError" = some (some (.ref w47)))
    (u46 : W.nsIn K mainGlobals "ValueError" = some none)
    (vn32 : nameIn K w32 = some "Twice")
    (vg32 : W.findIn K (.ref w32) "__getattribute__" = some (some (.builtin "BaseException.__getattribute__")))
    (vo32 : W.findIn K (.ref w32) "__getattr__" = some none)
    (vc32 : W.findIn K (.ref w32) "__class__" = some (some (.builtin "object.__class__")))
    (vb32 : W.mroIn K w32 (.type "BaseException") = some true)
    (vj32 : W.mroIn K w32 (.type "object") = some true)
    (vi32 : (W.clsIn K w32).isSome = true)
    (vx32 : W.excIn K w32 bmV "ValueError.__new__" = true)
    (y32_33 : W.kitOne K (.ref w32) (.ref w33) = some false)
    (y32_34 : W.kitOne K (.ref w32) (.ref w34) = some false)
    (y32_32 : W.kitOne K (.ref w32) (.ref w32) = some true)
    (y32_35 : W.kitOne K (.ref w32) (.ref w35) = some false)
    (y32_36 : W.kitOne K (.ref w32) (.ref w36) = some false)
    (y32_37 : W.kitOne K (.ref w32) (.ref w37) = some false)
    (y32_38 : W.kitOne K (.ref w32) (.ref w38) = some false)
    (y32_39 : W.kitOne K (.ref w32) (.ref w39) = some false)
    (y32_40 : W.kitOne K (.ref w32) (.ref w40) = some false)
    (y32_41 : W.kitOne K (.ref w32) (.ref w41) = some false)
    (y32_42 : W.kitOne K (.ref w32) (.ref w42) = some false)
    (y32_43 : W.kitOne K (.ref w32) (.ref w43) = some false)
    (y32_44 : W.kitOne K (.ref w32) (.ref w44) = some false)
    (y32_45 : W.kitOne K (.ref w32) (.ref w45) = some false)
    (y32_46 : W.kitOne K (.ref w32) (.type "ValueError") = some true)
    (m32_47 : W.exmOne K (.ref w32) (.ref w47) = some true)
    (z0 : W.nsIn K mainGlobals "len" = some none)
    (z1 : W.nsIn K mainGlobals "sum" = some none)
    (z2 : W.nsIn K mainGlobals "min" = some none)
    (z3 : W.nsIn K mainGlobals "max" = some none)
    (z4 : W.nsIn K mainGlobals "sorted" = some none)
    (z5 : W.nsIn K mainGlobals "list" = some none)
    (z6 : W.nsIn K mainGlobals "tuple" = some none)
    (z7 : W.nsIn K mainGlobals "ord" = some none)
    (z8 : W.nsIn K mainGlobals "int" = some none)
    (z9 : W.nsIn K mainGlobals "all" = some none)
    (z10 : W.nsIn K mainGlobals "any" = some none)
    (z11 : W.nsIn K mainGlobals "str" = some none)
    (z12 : W.nsIn K mainGlobals "set" = some none)
    (z13 : W.nsIn K mainGlobals "abs" = some none)
    (z14 : W.nsIn K mainGlobals "isinstance" = some none)
    (z15 : W.nsIn K mainGlobals "range" = some none)
    (z16 : W.nsIn K mainGlobals "bool" = some none)
    (z17 : W.nsIn K mainGlobals "reversed" = some none) : TopOk K mg Z T where
  nam := nam_ok
  blt := fun n x hx => by
    have key : ∀ y ∈ bnames, mg y = none := by
      intro y hy
      simp only [bnames, List.mem_cons, List.not_mem_nil, or_false] at hy
      rcases hy with rfl | rfl | rfl | rfl | rfl | rfl | rfl | rfl | rfl | rfl | rfl | rfl | rfl | rfl | rfl | rfl | rfl | rfl
      · exact W.mg_none_of X G z0
      · exact W.mg_none_of X G z1
      · exact W.mg_none_of X G z2
      · exact W.mg_none_of X G z3
      · exact W.mg_none_of X G z4
      · exact W.mg_none_of X G z5
      · exact W.mg_none_of X G z6
      · exact W.mg_none_of X G z7
      · exact W.mg_none_of X G z8
      · exact W.mg_none_of X G z9
      · exact W.mg_none_of X G z10
      · exact W.mg_none_of X G z11
      · exact W.mg_none_of X G z12
      · exact W.mg_none_of X G z13
      · exact W.mg_none_of X G z14
      · exact W.mg_none_of X G z15
      · exact W.mg_none_of X G z16
      · exact W.mg_none_of X G z17
    exact key x (List.mem_of_getElem? hx)
  cst := fun n d x hm hx => by
    have hm' : (n, d) ∈ ([(18, (.int 10007))] : List (Nat × D)) := hm
    simp only [List.mem_cons, List.not_mem_nil, or_false, Prod.mk.injEq] at hm'
    rcases hm' with ⟨rfl, rfl⟩
    · cases hx; exact ⟨_, .int _, PySem.W.mg_of X G q18, ⟨_, rfl⟩, fun _ _ => .int _⟩
  fns := fun f hf x hx => by
    have hf' : f ∈ ([19, 20, 21, 22, 23, 24, 25, 26, 27, 28, 29, 30, 31] : List Nat) := hf
    simp only [List.mem_cons, List.not_mem_nil, or_false] at hf'
    rcases hf' with rfl | rfl | rfl | rfl | rfl | rfl | rfl | rfl | rfl | rfl | rfl | rfl | rfl
    · cases hx; exact ⟨d19, top 18, f19, _, ["run"], rfl, fun_mk (st := top 18) l19 e19 k19, PySem.W.mg_of X G a19, (fun_mk (st := top 18) l19 e19 k19).binds (fun _ _ _ _ _ _ us hl => ln1 (fun _ => rfl) us hl), defSc_of c19⟩
    · cases hx; exact ⟨d20, top 19, f20, _, ["run", "place"], rfl, fun_mk (st := top 19) l20 e20 k20, PySem.W.mg_of X G a20, (fun_mk (st := top 19) l20 e20 k20).binds (fun _ _ _ _ _ _ us hl => ln2 (fun _ _ => rfl) us hl), defSc_of c20⟩
    · cases hx; exact ⟨d21, top 21, f21, _, ["faces"], rfl, fun_mk (st := top 21) l21 e21 k21, PySem.W.mg_of X G a21, (fun_mk (st := top 21) l21 e21 k21).binds (fun _ _ _ _ _ _ us hl => ln1 (fun _ => rfl) us hl), defSc_of c21⟩
    · cases hx; exact ⟨d22, top 22, f22, _, ["allot", "place"], rfl, fun_mk (st := top 22) l22 e22 k22, PySem.W.mg_of X G a22, (fun_mk (st := top 22) l22 e22 k22).binds (fun _ _ _ _ _ _ us hl => ln2 (fun _ _ => rfl) us hl), defSc_of c22⟩
    · cases hx; exact ⟨d23, top 23, f23, _, ["allot"], rfl, fun_mk (st := top 23) l23 e23 k23, PySem.W.mg_of X G a23, (fun_mk (st := top 23) l23 e23 k23).binds (fun _ _ _ _ _ _ us hl => ln1 (fun _ => rfl) us hl), defSc_of c23⟩
    · cases hx; exact ⟨d24, top 24, f24, _, ["allot"], rfl, fun_mk (st := top 24) l24 e24 k24, PySem.W.mg_of X G a24, (fun_mk (st := top 24) l24 e24 k24).binds (fun _ _ _ _ _ _ us hl => ln1 (fun _ => rfl) us hl), defSc_of c24⟩
    · cases hx; exact ⟨d25, top 25, f25, _, ["one", "other"], rfl, fun_mk (st := top 25) l25 e25 k25, PySem.W.mg_of X G a25, (fun_mk (st := top 25) l25 e25 k25).binds (fun _ _ _ _ _ _ us hl => ln2 (fun _ _ => rfl) us hl), defSc_of c25⟩
    · cases hx; exact ⟨d26, top 27, f26, _, ["_law_script", "_law_k"], rfl, fun_mk (st := top 27) l26 e26 k26, PySem.W.mg_of X G a26, (fun_mk (st := top 27) l26 e26 k26).binds (fun _ _ _ _ _ _ us hl => ln2 (fun _ _ => rfl) us hl), defSc_of c26⟩
    · cases hx; exact ⟨d27, top 28, f27, _, ["_law_cell", "_law_many"], rfl, fun_mk (st := top 28) l27 e27 k27, PySem.W.mg_of X G a27, (fun_mk (st := top 28) l27 e27 k27).binds (fun _ _ _ _ _ _ us hl => ln2 (fun _ _ => rfl) us hl), defSc_of c27⟩
    · cases hx; exact ⟨d28, top 29, f28, _, ["_law_cell", "_law_many"], rfl, fun_mk (st := top 29) l28 e28 k28, PySem.W.mg_of X G a28, (fun_mk (st := top 29) l28 e28 k28).binds (fun _ _ _ _ _ _ us hl => ln2 (fun _ _ => rfl) us hl), defSc_of c28⟩
    · cases hx; exact ⟨d29, top 30, f29, _, ["_law_e"], rfl, fun_mk (st := top 30) l29 e29 k29, PySem.W.mg_of X G a29, (fun_mk (st := top 30) l29 e29 k29).binds (fun _ _ _ _ _ _ us hl => ln1 (fun _ => rfl) us hl), defSc_of c29⟩
    · cases hx; exact ⟨d30, top 31, f30, _, ["_law_faces"], rfl, fun_mk (st := top 31) l30 e30 k30, PySem.W.mg_of X G a30, (fun_mk (st := top 31) l30 e30 k30).binds (fun _ _ _ _ _ _ us hl => ln1 (fun _ => rfl) us hl), defSc_of c30⟩
    · cases hx; exact ⟨d31, top 32, f31, _, ["_law_script"], rfl, fun_mk (st := top 32) l31 e31 k31, PySem.W.mg_of X G a31, (fun_mk (st := top 32) l31 e31 k31).binds (fun _ _ _ _ _ _ us hl => ln1 (fun _ => rfl) us hl), defSc_of c31⟩
  plc := fun f hf fn e => by
    have hf' : f ∈ ([29] : List Nat) := hf
    simp only [List.mem_cons, List.not_mem_nil, or_false] at hf'
    rcases hf' with rfl
    · cases e; rfl
  xcv := fun n hn x hx => by
    have hn' : n ∈ ([33, 34, 32, 35, 36, 37, 38, 39, 40, 41, 42, 43, 44, 45, 46] : List Nat) := hn
    simp only [List.mem_cons, List.not_mem_nil, or_false] at hn'
    rcases hn' with rfl | rfl | rfl | rfl | rfl | rfl | rfl | rfl | rfl | rfl | rfl | rfl | rfl | rfl | rfl
    · cases hx; exact ⟨_, (.inl ⟨w33, rfl, PySem.W.mg_of X G u33⟩)⟩
    · cases hx; exact ⟨_, (.inl ⟨w34, rfl, PySem.W.mg_of X G u34⟩)⟩
    · cases hx; exact ⟨_, (.inl ⟨w32, rfl, PySem.W.mg_of X G u32⟩)⟩
    · cases hx; exact ⟨_, (.inl ⟨w35, rfl, PySem.W.mg_of X G u35⟩)⟩
    · cases hx; exact ⟨_, (.inl ⟨w36, rfl, PySem.W.mg_of X G u36⟩)⟩
    · cases hx; exact ⟨_, (.inl ⟨w37, rfl, PySem.W.mg_of X G u37⟩)⟩
    · cases hx; exact ⟨_, (.inl ⟨w38, rfl, PySem.W.mg_of X G u38⟩)⟩
    · cases hx; exact ⟨_, (.inl ⟨w39, rfl, PySem.W.mg_of X G u39⟩)⟩
    · cases hx; exact ⟨_, (.inl ⟨w40, rfl, PySem.W.mg_of X G u40⟩)⟩
    · cases hx; exact ⟨_, (.inl ⟨w41, rfl, PySem.W.mg_of X G u41⟩)⟩
    · cases hx; exact ⟨_, (.inl ⟨w42, rfl, PySem.W.mg_of X G u42⟩)⟩
    · cases hx; exact ⟨_, (.inl ⟨w43, rfl, PySem.W.mg_of X G u43⟩)⟩
    · cases hx; exact ⟨_, (.inl ⟨w44, rfl, PySem.W.mg_of X G u44⟩)⟩
    · cases hx; exact ⟨_, (.inl ⟨w45, rfl, PySem.W.mg_of X G u45⟩)⟩
    · cases hx; exact ⟨_, (.inr ⟨"ValueError", rfl, W.mg_none_of X G u46, by decide +kernel⟩)⟩
  xcl := fun c n b x hm hx => by
    have hm' : (c, n, b) ∈ ([("Twice", 33, false), ("Twice", 34, false), ("Twice", 32, true), ("Twice", 35, false), ("Twice", 36, false), ("Twice", 37, false), ("Twice", 38, false), ("Twice", 39, false), ("Twice", 40, false), ("Twice", 41, false), ("Twice", 42, false), ("Twice", 43, false), ("Twice", 44, false), ("Twice", 45, false), ("Twice", 46, true)] : List (Str × Nat × Bool)) := hm
    simp only [List.mem_cons, List.not_mem_nil, or_false, Prod.mk.injEq] at hm'
    rcases hm' with ⟨rfl, rfl, rfl⟩ | ⟨rfl, rfl, rfl⟩ | ⟨rfl, rfl, rfl⟩ | ⟨rfl, rfl, rfl⟩ | ⟨rfl, rfl, rfl⟩ | ⟨rfl, rfl, rfl⟩ | ⟨rfl, rfl, rfl⟩ | ⟨rfl, rfl, rfl⟩ | ⟨rfl, rfl, rfl⟩ | ⟨rfl, rfl, rfl⟩ | ⟨rfl, rfl, rfl⟩ | ⟨rfl, rfl, rfl⟩ | ⟨rfl, rfl, rfl⟩ | ⟨rfl, rfl, rfl⟩ | ⟨rfl, rfl, rfl⟩
    · cases hx; exact ⟨w32, u32, ⟨vg32, vo32, vc32, vb32, vj32, vi32⟩, fun v hv => by rw [CVk.fn hv (.inl ⟨w33, rfl, PySem.W.mg_of X G u33⟩)]; exact y32_33⟩
    · cases hx; exact ⟨w32, u32, ⟨vg32, vo32, vc32, vb32, vj32, vi32⟩, fun v hv => by rw [CVk.fn hv (.inl ⟨w34, rfl, PySem.W.mg_of X G u34⟩)]; exact y32_34⟩
    · cases hx; exact ⟨w32, u32, ⟨vg32, vo32, vc32, vb32, vj32, vi32⟩, fun v hv => by rw [CVk.fn hv (.inl ⟨w32, rfl, PySem.W.mg_of X G u32⟩)]; exact y32_32⟩
    · cases hx; exact ⟨w32, u32, ⟨vg32, vo32, vc32, vb32, vj32, vi32⟩, fun v hv => by rw [CVk.fn hv (.inl ⟨w35, rfl, PySem.W.mg_of X G u35⟩)]; exact y32_35⟩
    · cases hx; exact ⟨w32, u32, ⟨vg32, vo32, vc32, vb32, vj32, vi32⟩, fun v hv => by rw [CVk.fn hv (.inl ⟨w36, rfl, PySem.W.mg_of X G u36⟩)]; exact y32_36⟩
    · cases hx; exact ⟨w32, u32, ⟨vg32, vo32, vc32, vb32, vj32, vi32⟩, fun v hv => by rw [CVk.fn hv (.inl ⟨w37, rfl, PySem.W.mg_of X G u37⟩)]; exact y32_37⟩
    · cases hx; exact ⟨w32, u32, ⟨vg32, vo32, vc32, vb32, vj32, vi32⟩, fun v hv => by rw [CVk.fn hv (.inl ⟨w38, rfl, PySem.W.mg_of X G u38⟩)]; exact y32_38⟩
    · cases hx; exact ⟨w32, u32, ⟨vg32, vo32, vc32, vb32, vj32, vi32⟩, fun v hv => by rw [CVk.fn hv (.inl ⟨w39, rfl, PySem.W.mg_of X G u39⟩)]; exact y32_39⟩
    · cases hx; exact ⟨w32, u32, ⟨vg32, vo32, vc32, vb32, vj32, vi32⟩, fun v hv => by rw [CVk.fn hv (.inl ⟨w40, rfl, PySem.W.mg_of X G u40⟩)]; exact y32_40⟩
    · cases hx; exact ⟨w32, u32, ⟨vg32, vo32, vc32, vb32, vj32, vi32⟩, fun v hv => by rw [CVk.fn hv (.inl ⟨w41, rfl, PySem.W.mg_of X G u41⟩)]; exact y32_41⟩
    · cases hx; exact ⟨w32, u32, ⟨vg32, vo32, vc32, vb32, vj32, vi32⟩, fun v hv => by rw [CVk.fn hv (.inl ⟨w42, rfl, PySem.W.mg_of X G u42⟩)]; exact y32_42⟩
    · cases hx; exact ⟨w32, u32, ⟨vg32, vo32, vc32, vb32, vj32, vi32⟩, fun v hv => by rw [CVk.fn hv (.inl ⟨w43, rfl, PySem.W.mg_of X G u43⟩)]; exact y32_43⟩
    · cases hx; exact ⟨w32, u32, ⟨vg32, vo32, vc32, vb32, vj32, vi32⟩, fun v hv => by rw [CVk.fn hv (.inl ⟨w44, rfl, PySem.W.mg_of X G u44⟩)]; exact y32_44⟩
    · cases hx; exact ⟨w32, u32, ⟨vg32, vo32, vc32, vb32, vj32, vi32⟩, fun v hv => by rw [CVk.fn hv (.inl ⟨w45, rfl, PySem.W.mg_of X G u45⟩)]; exact y32_45⟩
    · cases hx; exact ⟨w32, u32, ⟨vg32, vo32, vc32, vb32, vj32, vi32⟩, fun v hv => by rw [CVk.fn hv (.inr ⟨"ValueError", rfl, W.mg_none_of X G u46, by decide +kernel⟩)]; exact y32_46⟩
  xmt := fun c n x hm hx => by
    have hm' : (c, n) ∈ ([("Twice", 47)] : List (Str × Nat)) := hm
    simp only [List.mem_cons, List.not_mem_nil, or_false, Prod.mk.injEq] at hm'
    rcases hm' with ⟨rfl, rfl⟩
    · cases hx; exact ⟨w32, w47, u32, u47, vn32, PySem.W.mg_of X G u47, m32_47⟩
  xrs := fun n c hm => by
    have hm' : (n, c) ∈ ([(32, "Twice")] : List (Nat × Str)) := hm
    simp only [List.mem_cons, List.not_mem_nil, or_false, Prod.mk.injEq] at hm'
    rcases hm' with ⟨rfl, rfl⟩
    · exact ⟨rfl, w32, PySem.W.mg_of X G u32, u32, vx32⟩
noncomputable def lawN : Nat := 31
noncomputable def lawX : Str := "_law_script"
theorem all_mk {l : PySem.W.OpenLaw} {w : World} {fa : Addr} {w32 w33 w34 w35 w36 w37 w38 w39 w40 w41 w42 w43 w44 w45 w47 : Addr} {K : W.Frag} {h : Heap} {mg : Str → Option Value} {f19 f20 f21 f22 f23 f24 f25 f26 f27 f28 f29 f30 f31 : Addr} {od19 an19 od20 an20 od21 an21 od22 an22 od23 an23 od24 an24 od25 an25 od26 an26 od27 an27 od28 an28 od29 an29 od30 an30 od31 an31 : Option Addr} {sl19 sl20 sl21 sl22 sl23 sl24 sl25 sl26 sl27 sl28 sl29 sl30 sl31 : Array (Option Value)} {oc19 kV19 dc19 pm19 cd19 ct19 oc20 kV20 dc20 pm20 cd20 ct20 oc21 kV21 dc21 pm21 cd21 ct21 oc22 kV22 dc22 pm22 cd22 ct22 oc23 kV23 dc23 pm23 cd23 ct23 oc24 kV24 dc24 pm24 cd24 ct24 oc25 kV25 dc25 pm25 cd25 ct25 oc26 kV26 dc26 pm26 cd26 ct26 oc27 kV27 dc27 pm27 cd27 ct27 oc28 kV28 dc28 pm28 cd28 ct28 oc29 kV29 dc29 pm29 cd29 ct29 oc30 kV30 dc30 pm30 cd30 ct30 oc31 kV31 dc31 pm31 cd31 ct31 : Value} {t18 : Tok} (X : K.In h) (G : h.Ns mainGlobals mg) (hfa : mg "law" = some (.ref fa))
    (a19 : W.nsIn K mainGlobals "run_size" = some (some (.ref f19))) (l19 : K.lookup f19 = some ⟨oc19, od19, .func (W.fnOf "run_size" "run_size" (defArgs (top 18)) (defBody (top 18)) (defScope (top 18)) .none kV19 dc19 pm19 an19 cd19 ct19), sl19⟩) (e19 : W.codeIn K cd19 "run_size" = true) (k19 : W.keepIn K (.ref f19) = true)
    (a20 : W.nsIn K mainGlobals "run_index" = some (some (.ref f20))) (l20 : K.lookup f20 = some ⟨oc20, od20, .func (W.fnOf "run_index" "run_index" (defArgs (top 19)) (defBody (top 19)) (defScope (top 19)) .none kV20 dc20 pm20 an20 cd20 ct20), sl20⟩) (e20 : W.codeIn K cd20 "run_index" = true) (k20 : W.keepIn K (.ref f20) = true)
    (a21 : W.nsIn K mainGlobals "allot_new" = some (some (.ref f21))) (l21 : K.lookup f21 = some ⟨oc21, od21, .func (W.fnOf "allot_new" "allot_new" (defArgs (top 21)) (defBody (top 21)) (defScope (top 21)) .none kV21 dc21 pm21 an21 cd21 ct21), sl21⟩) (e21 : W.codeIn K cd21 "allot_new" = true) (k21 : W.keepIn K (.ref f21) = true)
    (a22 : W.nsIn K mainGlobals "face_at" = some (some (.ref f22))) (l22 : K.lookup f22 = some ⟨oc22, od22, .func (W.fnOf "face_at" "face_at" (defArgs (top 22)) (defBody (top 22)) (defScope (top 22)) .none kV22 dc22 pm22 an22 cd22 ct22), sl22⟩) (e22 : W.codeIn K cd22 "face_at" = true) (k22 : W.keepIn K (.ref f22) = true)
    (a23 : W.nsIn K mainGlobals "shares_of" = some (some (.ref f23))) (l23 : K.lookup f23 = some ⟨oc23, od23, .func (W.fnOf "shares_of" "shares_of" (defArgs (top 23)) (defBody (top 23)) (defScope (top 23)) .none kV23 dc23 pm23 an23 cd23 ct23), sl23⟩) (e23 : W.codeIn K cd23 "shares_of" = true) (k23 : W.keepIn K (.ref f23) = true)
    (a24 : W.nsIn K mainGlobals "faces_by_place" = some (some (.ref f24))) (l24 : K.lookup f24 = some ⟨oc24, od24, .func (W.fnOf "faces_by_place" "faces_by_place" (defArgs (top 24)) (defBody (top 24)) (defScope (top 24)) .none kV24 dc24 pm24 an24 cd24 ct24), sl24⟩) (e24 : W.codeIn K cd24 "faces_by_place" = true) (k24 : W.keepIn K (.ref f24) = true)
    (a25 : W.nsIn K mainGlobals "places_moved" = some (some (.ref f25))) (l25 : K.lookup f25 = some ⟨oc25, od25, .func (W.fnOf "places_moved" "places_moved" (defArgs (top 25)) (defBody (top 25)) (defScope (top 25)) .none kV25 dc25 pm25 an25 cd25 ct25), sl25⟩) (e25 : W.codeIn K cd25 "places_moved" = true) (k25 : W.keepIn K (.ref f25) = true)
    (a26 : W.nsIn K mainGlobals "_law_cell_at" = some (some (.ref f26))) (l26 : K.lookup f26 = some ⟨oc26, od26, .func (W.fnOf "_law_cell_at" "_law_cell_at" (defArgs (top 27)) (defBody (top 27)) (defScope (top 27)) .none kV26 dc26 pm26 an26 cd26 ct26), sl26⟩) (e26 : W.codeIn K cd26 "_law_cell_at" = true) (k26 : W.keepIn K (.ref f26) = true)
    (a27 : W.nsIn K mainGlobals "_law_stream" = some (some (.ref f27))) (l27 : K.lookup f27 = some ⟨oc27, od27, .func (W.fnOf "_law_stream" "_law_stream" (defArgs (top 28)) (defBody (top 28)) (defScope (top 28)) .none kV27 dc27 pm27 an27 cd27 ct27), sl27⟩) (e27 : W.codeIn K cd27 "_law_stream" = true) (k27 : W.keepIn K (.ref f27) = true)
    (a28 : W.nsIn K mainGlobals "_law_names" = some (some (.ref f28))) (l28 : K.lookup f28 = some ⟨oc28, od28, .func (W.fnOf "_law_names" "_law_names" (defArgs (top 29)) (defBody (top 29)) (defScope (top 29)) .none kV28 dc28 pm28 an28 cd28 ct28), sl28⟩) (e28 : W.codeIn K cd28 "_law_names" = true) (k28 : W.keepIn K (.ref f28) = true)
    (a29 : W.nsIn K mainGlobals "_law_word" = some (some (.ref f29))) (l29 : K.lookup f29 = some ⟨oc29, od29, .func (W.fnOf "_law_word" "_law_word" (defArgs (top 30)) (defBody (top 30)) (defScope (top 30)) .none kV29 dc29 pm29 an29 cd29 ct29), sl29⟩) (e29 : W.codeIn K cd29 "_law_word" = true) (k29 : W.keepIn K (.ref f29) = true)
    (a30 : W.nsIn K mainGlobals "_law_refused" = some (some (.ref f30))) (l30 : K.lookup f30 = some ⟨oc30, od30, .func (W.fnOf "_law_refused" "_law_refused" (defArgs (top 31)) (defBody (top 31)) (defScope (top 31)) .none kV30 dc30 pm30 an30 cd30 ct30), sl30⟩) (e30 : W.codeIn K cd30 "_law_refused" = true) (k30 : W.keepIn K (.ref f30) = true)
    (a31 : W.nsIn K mainGlobals "law" = some (some (.ref f31))) (l31 : K.lookup f31 = some ⟨oc31, od31, .func (W.fnOf "law" "law" (defArgs (top 32)) (defBody (top 32)) (defScope (top 32)) .none kV31 dc31 pm31 an31 cd31 ct31), sl31⟩) (e31 : W.codeIn K cd31 "law" = true) (k31 : W.keepIn K (.ref f31) = true)
    (q18 : W.nsIn K mainGlobals "PLACES" = some (some (.int 10007 t18)))
    (u32 : W.nsIn K mainGlobals "Twice" = some (some (.ref w32)))
    (u33 : W.nsIn K mainGlobals "NoSalt" = some (some (.ref w33)))
    (u34 : W.nsIn K mainGlobals "NoFace" = some (some (.ref w34)))
    (u35 : W.nsIn K mainGlobals "BadShare" = some (some (.ref w35)))
    (u36 : W.nsIn K mainGlobals "TooMuch" = some (some (.ref w36)))
    (u37 : W.nsIn K mainGlobals "NoWord" = some (some (.ref w37)))
    (u38 : W.nsIn K mainGlobals "NoGroup" = some (some (.ref w38)))
    (u39 : W.nsIn K mainGlobals "BadThings" = some (some (.ref w39)))
    (u40 : W.nsIn K mainGlobals "NoLine" = some (some (.ref w40)))
    (u41 : W.nsIn K mainGlobals "BadStage" = some (some (.ref w41)))
    (u42 : W.nsIn K mainGlobals "BadOutcome" = some (some (.ref w42)))
    (u43 : W.nsIn K mainGlobals "NoSwitch" = some (some (.ref w43)))
    (u44 : W.nsIn K mainGlobals "NoRule" = some (some (.ref w44)))
    (u45 : W.nsIn K mainGlobals "Unlike" = some (some (.ref w45)))
    (u47 : W.nsIn K mainGlobals "RollError" = some (some (.ref w47)))
    (u46 : W.nsIn K mainGlobals "ValueError" = some none)
    (vn32 : nameIn K w32 = some "Twice")
    (vg32 : W.findIn K (.ref w32) "__getattribute__" = some (some (.builtin "BaseException.__getattribute__")))
    (vo32 : W.findIn K (.ref w32) "__getattr__" = some none)
    (vc32 : W.findIn K (.ref w32) "__class__" = some (some (.builtin "object.__class__")))
    (vb32 : W.mroIn K w32 (.type "BaseException") = some true)
    (vj32 : W.mroIn K w32 (.type "object") = some true)
    (vi32 : (W.clsIn K w32).isSome = true)
    (vx32 : W.excIn K w32 bmV "ValueError.__new__" = true)
    (y32_33 : W.kitOne K (.ref w32) (.ref w33) = some false)
    (y32_34 : W.kitOne K (.ref w32) (.ref w34) = some false)
    (y32_32 : W.kitOne K (.ref w32) (.ref w32) = some true)
    (y32_35 : W.kitOne K (.ref w32) (.ref w35) = some false)
    (y32_36 : W.kitOne K (.ref w32) (.ref w36) = some false)
    (y32_37 : W.kitOne K (.ref w32) (.ref w37) = some false)
    (y32_38 : W.kitOne K (.ref w32) (.ref w38) = some false)
    (y32_39 : W.kitOne K (.ref w32) (.ref w39) = some false)
    (y32_40 : W.kitOne K (.ref w32) (.ref w40) = some false)
    (y32_41 : W.kitOne K (.ref w32) (.ref w41) = some false)
    (y32_42 : W.kitOne K (.ref w32) (.ref w42) = some false)
    (y32_43 : W.kitOne K (.ref w32) (.ref w43) = some false)
    (y32_44 : W.kitOne K (.ref w32) (.ref w44) = some false)
    (y32_45 : W.kitOne K (.ref w32) (.ref w45) = some false)
    (y32_46 : W.kitOne K (.ref w32) (.type "ValueError") = some true)
    (m32_47 : W.exmOne K (.ref w32) (.ref w47) = some true)
    (z0 : W.nsIn K mainGlobals "len" = some none)
    (z1 : W.nsIn K mainGlobals "sum" = some none)
    (z2 : W.nsIn K mainGlobals "min" = some none)
    (z3 : W.nsIn K mainGlobals "max" = some none)
    (z4 : W.nsIn K mainGlobals "sorted" = some none)
    (z5 : W.nsIn K mainGlobals "list" = some none)
    (z6 : W.nsIn K mainGlobals "tuple" = some none)
    (z7 : W.nsIn K mainGlobals "ord" = some none)
    (z8 : W.nsIn K mainGlobals "int" = some none)
    (z9 : W.nsIn K mainGlobals "all" = some none)
    (z10 : W.nsIn K mainGlobals "any" = some none)
    (z11 : W.nsIn K mainGlobals "str" = some none)
    (z12 : W.nsIn K mainGlobals "set" = some none)
    (z13 : W.nsIn K mainGlobals "abs" = some none)
    (z14 : W.nsIn K mainGlobals "isinstance" = some none)
    (z15 : W.nsIn K mainGlobals "range" = some none)
    (z16 : W.nsIn K mainGlobals "bool" = some none)
    (z17 : W.nsIn K mainGlobals "reversed" = some none) :
    ∃ fd : FuncData, (∀ (s : Shared) (v : Value), BindsTo s fd ⟨[v], []⟩ [(lawX, v)]) ∧ ∀ base : Heap, K.In base → base.Ns mainGlobals mg → FnOk l.prog w K mg base (CX1 l.prog w) (12 + 1) fa fd [lawX] (spL K (callF T (12 + 1)) lawN [lawX]) := by
  have e := hfa.symm.trans (PySem.W.mg_of X G a31)
  cases e
  have t := top_mk X G a19 l19 e19 k19 a20 l20 e20 k20 a21 l21 e21 k21 a22 l22 e22 k22 a23 l23 e23 k23 a24 l24 e24 k24 a25 l25 e25 k25 a26 l26 e26 k26 a27 l27 e27 k27 a28 l28 e28 k28 a29 l29 e29 k29 a30 l30 e30 k30 a31 l31 e31 k31 q18 u32 u33 u34 u35 u36 u37 u38 u39 u40 u41 u42 u43 u44 u45 u47 u46 vn32 vg32 vo32 vc32 vb32 vj32 vi32 vx32 y32_33 y32_34 y32_32 y32_35 y32_36 y32_37 y32_38 y32_39 y32_40 y32_41 y32_42 y32_43 y32_44 y32_45 y32_46 m32_47 z0 z1 z2 z3 z4 z5 z6 z7 z8 z9 z10 z11 z12 z13 z14 z15 z16 z17
  exact ⟨PySem.W.fnOf "law" "law" (defArgs (top 32)) (defBody (top 32)) (defScope (top 32)) .none kV31 dc31 pm31 an31 cd31 ct31, fun s v => .of_eq rfl, fun base _ _ => def_fn t 12 (by decide) (f := 31) (fn := d31) rfl (by decide) (fun_mk (st := top 32) l31 e31 k31) (defSc_of c31)⟩
end Law
namespace L2
open PySem PySem.Spec PyProof.Rows PySem.SeqAt
namespace Fr
variable {T : Tb}
theorem cell {f : Nat} {fn : Fn} (hT : T f = some fn) (h1 : fn.np = 2) (h2 : fn.G.N.length = 2) (h3 : fn.body = bCell) (n : Nat) (ns : List Int) (k : Int) (hk : 0 ≤ k) : callF T (n + 1) f [.lst false (ns.map .int), .int k] = .ok (.int (ns.getD k.toNat 0)) := by
  rw [Ev.go hT h1 h2 h3 rfl]
  unfold bCell
  by_cases h : k < (ns.length : Int)
  · have hd : decide (k < (((ns.map D.int).length : Nat) : Int)) = true := decide_eq_true (by rw [List.length_map]; exact h)
    simp -implicitDefEqProofs (disch := omega) only [ev0, Nat.reduceBEq, Nat.reduceSub, Nat.reduceAdd, reduceIte, hd]
  · have hd : decide (k < (((ns.map D.int).length : Nat) : Int)) = false := decide_eq_false (by rw [List.length_map]; exact h)
    simp -implicitDefEqProofs (disch := omega) only [ev0, Nat.reduceBEq, Nat.reduceSub, Nat.reduceAdd, reduceIte, hd]
    rw [List.getD_eq_getElem?_getD, List.getElem?_eq_none (by omega)]
    rfl
noncomputable def tStream : List IS := [(.asg (.nm 3) (.bin .mod (.bin .add (.bin .add (.bin .mul (.v 3) (.c (.int 48271))) (.bin .mul (.bin .mul (.c (.int 7)) (.v 4)) (.v 4))) (.c (.int 3))) (.c (.int 2147483647)))), (.app 2 (.bin .fdiv (.v 3) (.c (.int 16))))]
noncomputable def bStream : List IS := [(.asg (.nm 2) (.lst [])), (.asg (.nm 3) (.bin .add (.bin .mod (.v 0) (.c (.int 2147483647))) (.c (.int 1)))), (.for_ (.nm 4) (.rng1 (.v 1)) tStream), (.ret (.v 2))]
theorem stream {f : Nat} {fn : Fn} (hT : T f = some fn) (h1 : fn.np = 2) (h2 : fn.G.N.length = 5) (h3 : fn.body = bStream) (n : Nat) (c m : Int) (h0 : 0 ≤ m) (hm : m ≤ 1000) :
    ∃ xs : List Int, callF T (n + 1) f [.int c, .int m] = .ok (.lst true (xs.map .int)) ∧ xs.length = m.toNat ∧ ∀ x ∈ xs, 0 ≤ x := by
  rw [Ev.go hT h1 h2 h3 rfl]
  unfold bStream
  obtain ⟨τ', e, xs, num, kk, rfl, hl, hx, hn⟩ := Ev.for_all (its := rngD 0 m) (τ := [some (.int c), some (.int m), some (.lst true []), some (.int (c % 2147483647 + 1)), none]) (body := Ev.turn (callF T n) (.nm 4) tStream)
    (fun i τ => ∃ (xs : List Int) (num : Int) (kk : Option D), τ = [some (.int c), some (.int m), some (.lst true (xs.map .int)), some (.int num), kk] ∧ xs.length = i ∧ (∀ x ∈ xs, 0 ≤ x) ∧ 0 ≤ num)
    ⟨[], _, none, rfl, rfl, fun x hx => absurd hx (by simp), by have := Int.emod_nonneg c (show (2147483647 : Int) ≠ 0 by decide); omega⟩ (by
      rintro i x τ hx ⟨xs, num, kk, rfl, hl, hxs, hn⟩
      have hi : i < m.toNat := by
        have := (List.getElem?_eq_some_iff.mp hx).1
        rw [rngD_len] at this
        omega
      unfold rngD at hx
      rw [List.getElem?_map, List.getElem?_range (by omega)] at hx
      have hx' : D.int (0 + (i : Nat)) = x := Option.some.inj hx
      subst hx'
      refine ⟨[some (.int c), some (.int m), some (.lst true ((xs ++ [(num * 48271 + 7 * (0 + (i : Int)) * (0 + (i : Int)) + 3) % 2147483647 / 16]).map .int)), some (.int ((num * 48271 + 7 * (0 + (i : Int)) * (0 + (i : Int)) + 3) % 2147483647)), some (.int (0 + (i : Nat)))], ?_, _, _, _, rfl, by rw [List.length_append, List.length_singleton, hl], fun x hx => ?_, Int.emod_nonneg _ (by decide)⟩
      · unfold tStream
        simp -implicitDefEqProofs (disch := omega) only [ev0, Nat.reduceBEq, Nat.reduceSub, Nat.reduceAdd, reduceIte, Ev.turn_eq, List.map_append, List.length_map]
      · rcases List.mem_append.mp hx with hx | hx
        · exact hxs x hx
        · rw [List.mem_singleton] at hx
          rw [hx]
          exact Int.ediv_nonneg (Int.emod_nonneg _ (by decide)) (by decide))
  refine ⟨xs, ?_, ?_, hx⟩
  · simp -implicitDefEqProofs (disch := omega) only [ev0, Nat.reduceBEq, Nat.reduceSub, Nat.reduceAdd, reduceIte, e]
  · rw [hl, rngD_len]; omega
noncomputable def one (c : Nat) : Str := ⟨#[c]⟩
noncomputable def sal (cs : List Nat) : Str := ⟨cs.toArray⟩
noncomputable def low (c : Nat) : Prop := 97 ≤ c ∧ c ≤ 122
theorem abc_list : (Str.ofString "abcdefghijklmnopqrstuvwxyz").cps.toList = List.range' 97 26 := by decide +kernel
theorem abc_len : (Str.ofString "abcdefghijklmnopqrstuvwxyz").length = 26 := by decide +kernel
theorem abc_ix {i : Int} (h0 : 0 ≤ i) (h1 : i < 26) : opIx (.str "abcdefghijklmnopqrstuvwxyz") (.int i) = .ok (.str (one (97 + i.toNat))) := by
  rw [Ev.x_c h0 (by rw [abc_len]; exact h1) (by rw [abc_len]; decide), abc_list]
  have : (List.range' 97 26).getD i.toNat 0 = 97 + i.toNat := by
    rw [List.getD_eq_getElem?_getD, List.getElem?_range' (by omega)]
    show 97 + 1 * i.toNat = _
    omega
  rw [this]
  rfl
theorem sal_len (cs : List Nat) : (sal cs).length = cs.length := by unfold sal Str.length; simp
theorem one_len (c : Nat) : (one c).length = 1 := rfl
theorem foldl_one : ∀ (cs : List Nat) (acc : Array Nat), (cs.map one).foldl (fun acc p => acc ++ (Str.ofString "").cps ++ p.cps) acc = acc ++ cs.toArray
  | [], acc => by simp
  | c :: cs, acc => by
    have e : (Str.ofString "").cps = #[] := by decide +kernel
    rw [List.map_cons, List.foldl_cons, foldl_one cs, e]
    show acc ++ #[] ++ #[c] ++ cs.toArray = _
    simp
theorem join_one (cs : List Nat) : Txt.join "" (cs.map one) = sal cs := by
  show (⟨((cs.map one).drop 1).foldl (fun acc p => acc ++ (Str.ofString "").cps ++ p.cps) ((cs.map one).headD Str.empty).cps⟩ : Str) = _
  cases cs with
  | nil => rfl
  | cons c cs =>
    rw [List.map_cons, List.drop_succ_cons, List.drop_zero, List.headD_cons, foldl_one]
    unfold sal one
    simp
theorem sum_one (cs : List Nat) : ((cs.map one).map (fun y : Str => y.length)).sum = cs.length := by
  induction cs with
  | nil => rfl
  | cons c cs ih =>
    rw [List.map_cons, List.map_cons, List.sum_cons, ih, List.length_cons, one_len]
    omega
theorem join_ev {o : Bool} {cs : List Nat} (h : cs.length ≤ 1000) : opMt .join (.str "") [.lst o ((cs.map one).map .str)] = .ok (.str (sal cs)) := by
  have e : (Str.ofString "").length = 0 := by decide +kernel
  rw [Ev.mt_join (by rw [sum_one, List.length_map, e]; omega), join_one]
theorem slice_to {cs : List Nat} {j : Int} (h0 : 0 ≤ j) (h1 : j ≤ cs.length) : Txt.slice (sal cs) none (some j) = sal (cs.take j.toNat) := by
  have := StrLaws.sliceText_to (x := sal cs) (j := j) ⟨h0, by show j ≤ (cs.toArray.toList.length : Nat); simpa using h1⟩
  refine this.trans ?_
  show (⟨((cs.toArray.toList.drop 0).take (j - 0).toNat).toArray⟩ : Str) = ⟨(cs.take j.toNat).toArray⟩
  rw [List.toList_toArray, List.drop_zero, Int.sub_zero]
theorem slice_from {cs : List Nat} {i : Int} (h0 : 0 ≤ i) (h1 : i ≤ cs.length) : Txt.slice (sal cs) (some i) none = sal (cs.drop i.toNat) := by
  have := StrLaws.sliceText_from (x := sal cs) (i := i) ⟨h0, by show i ≤ (cs.toArray.toList.length : Nat); simpa using h1⟩
  refine this.trans ?_
  show (⟨((cs.toArray.toList.drop i.toNat).take ((cs.toArray.toList.length : Int) - i).toNat).toArray⟩ : Str) = ⟨(cs.drop i.toNat).toArray⟩
  rw [List.toList_toArray, List.take_of_length_le (by rw [List.length_drop]; omega)]
theorem sal_app (a b : List Nat) : sal a ++ sal b = sal (a ++ b) := by
  show (⟨a.toArray ++ b.toArray⟩ : Str) = ⟨(a ++ b).toArray⟩
  rw [List.append_toArray]
theorem sal_add {a b : List Nat} (h : a.length + b.length ≤ 1000) : opB .add (.str (sal a)) (.str (sal b)) = .ok (.str (sal (a ++ b))) := by
  rw [Ev.b_adds, Ev.szOk_t (by rw [sal_len, sal_len]; omega), sal_app]
  rfl
end Fr
end L2
namespace Law
open PySem PySem.Spec L2 L2.Fr
theorem sal_inj {a b : List Nat} (h : sal a = sal b) : a = b := by
  unfold sal at h
  injection h with h
  simpa using congrArg Array.toList h
theorem str_er (fs : List Str) : ers (fs.map .str) = fs.map D.str := Ev.ers_ss fs
theorem str_lf (fs : List Str) : lfrees (fs.map D.str) = true := Ev.lf_s fs
noncomputable def ch (c k : Int) : Nat := 97 + ((c / 3 + 7 * k) % 26).toNat
theorem nd_map {α β : Type} [DecidableEq β] (f : α → β) : ∀ {l : List α}, l.Nodup → (∀ x ∈ l, ∀ y ∈ l, f x = f y → x = y) → (l.map f).Nodup
  | [], _, _ => .nil
  | a :: l, h, hf => by
    rw [List.nodup_cons] at h
    rw [List.map_cons, List.nodup_cons]
    refine ⟨fun z => ?_, nd_map f h.2 fun x hx y hy => hf x (List.mem_cons_of_mem _ hx) y (List.mem_cons_of_mem _ hy)⟩
    obtain ⟨x, hx, e⟩ := List.mem_map.mp z
    have := hf x (List.mem_cons_of_mem _ hx) a (by simp) e
    exact h.1 (this ▸ hx)
noncomputable def ks (m : Int) : List Int := (List.range (m - 0).toNat).map fun k => 0 + ((k : Nat) : Int)
theorem ks_nd (m : Int) : (ks m).Nodup := nd_map _ List.nodup_range fun x _ y _ e => by omega
theorem ks_in {m x : Int} (h : x ∈ ks m) : 0 ≤ x ∧ x < m := by
  obtain ⟨k, hk, rfl⟩ := List.mem_map.mp h
  have := List.mem_range.mp hk
  omega
theorem ks_len (m : Int) : (ks m).length = (m - 0).toNat := by unfold ks; rw [List.length_map, List.length_range]
structure Nms (m : Int) (fs : List Str) : Prop where
  len : fs.length = (m - 0).toNat
  nod : fs.Nodup
theorem names_ok (n : Nat) (c m : Int) (h0 : 0 ≤ m) (h1 : m ≤ 12) : ∃ fs : List Str, callF T (n + 2) 28 [.int c, .int m] = .ok (.lst true (fs.map .str)) ∧ Nms m fs := by
  obtain ⟨xs, ex, lx, px⟩ := stream (show T 27 = some d27 from rfl) rfl rfl rfl n (c / 3) 8 (by omega) (by omega)
  have e1 : fmapM (bodyM (callF T (n + 1)) (.nm 1) [] (.idx (.v 0) (.bin .mod (.v 1) (.c (.int 26)))) [some (.str "abcdefghijklmnopqrstuvwxyz"), none]) (xs.map .int) = .ok (((xs.map fun x => 97 + (x % 26).toNat).map one).map .str) := by
    have hg : (xs.map fun x => 97 + (x % 26).toNat).map one = xs.map fun x : Int => one (97 + (x % 26).toNat) := by
      rw [List.map_map]
      rfl
    rw [hg]
    refine Ev.fmap_all D.int (fun x : Int => one (97 + (x % 26).toNat)) .str _ fun x hx => ?_
    have hx0 := Int.emod_nonneg x (show (26 : Int) ≠ 0 by decide)
    have hx1 := Int.emod_lt_of_pos x (show (0 : Int) < 26 by decide)
    simp -implicitDefEqProofs (disch := omega) only [ev0, Nat.reduceBEq, Nat.reduceSub, Nat.reduceAdd, reduceIte, abc_ix]
  have lb : (xs.map fun x => 97 + (x % 26).toNat).length = 8 := by rw [List.length_map, lx]; rfl
  generalize (xs.map fun x => 97 + (x % 26).toNat) = cs at *
  have lxs : (xs.map D.int).length = 8 := by rw [List.length_map, lx]; rfl
  have je : ∀ o : Bool, opMt .join (.str "") [.lst o ((cs.map one).map .str)] = .ok (.str (sal cs)) := fun o => join_ev (by omega)
  generalize (cs.map one).map D.str = J at *
  generalize xs.map D.int = X at *
  have rk : rngD 0 m = (ks m).map .int := Ev.rngD_map 0 m
  have lk : ((ks m).map D.int).length = (m - 0).toNat := by rw [List.length_map, ks_len]
  by_cases hb : c % 3 = 1 ∧ m ≤ 8
  · have b1 : (c % 3 == 1) = true := by rw [hb.1]; rfl
    have b2 : decide (m ≤ 8) = true := decide_eq_true hb.2
    have e2 : fmapM (bodyM (callF T (n + 1)) (.nm 1) [] (.sl (.v 0) none (some (.bin .add (.v 1) (.c (.int 1))))) [some (.str (sal cs)), none]) ((ks m).map .int) = .ok (((ks m).map fun k => sal (cs.take (k + 1).toNat)).map .str) := by
      refine Ev.fmap_all D.int (fun k : Int => sal (cs.take (k + 1).toNat)) .str _ fun k hk => ?_
      obtain ⟨k0, k1⟩ := ks_in hk
      have es := slice_to (cs := cs) (j := k + 1) (by omega) (by omega)
      have sl := sal_len cs
      have s8 : (sal cs).length ≤ 16777216 := by omega
      simp -implicitDefEqProofs (disch := omega) only [ev0, Nat.reduceBEq, Nat.reduceSub, Nat.reduceAdd, reduceIte, es]
    refine ⟨(ks m).map fun k => sal (cs.take (k + 1).toNat), ?_, by rw [List.length_map, ks_len], nd_map _ (ks_nd m) fun x hx y hy e => ?_⟩
    · rw [Ev.go (show T 28 = some d28 from rfl) (show d28.np = 2 from rfl) (show d28.G.N.length = 5 from rfl) (show d28.body = b28 from rfl) rfl]; unfold b28
      generalize ((ks m).map fun k => sal (cs.take (k + 1).toNat)) = F at *
      have ff := str_lf F
      generalize (ks m).map D.int = KK at *
      simp -implicitDefEqProofs (disch := omega) only [ev0, Nat.reduceBEq, Nat.reduceSub, Nat.reduceAdd, reduceIte, ex, e1, je, b1, b2, rk, e2, lxs, lk, ff]
    · obtain ⟨x0, x1⟩ := ks_in hx
      obtain ⟨y0, y1⟩ := ks_in hy
      have := congrArg List.length (sal_inj e)
      rw [List.length_take, List.length_take] at this
      omega
  · have b3 : ((c % 3 == 1) && decide (m ≤ 8)) = false := by
      rw [Bool.and_eq_false_iff]
      by_cases hc : c % 3 = 1
      · exact .inr (decide_eq_false fun z => hb ⟨hc, z⟩)
      · exact .inl (by simpa using hc)
    have m0 := Int.emod_nonneg (c / 3) (show (8 : Int) ≠ 0 by decide)
    have m1 := Int.emod_lt_of_pos (c / 3) (show (0 : Int) < 8 by decide)
    have es := slice_to (cs := cs) (j := 1 + c / 3 % 8) (by omega) (by omega)
    have lb' : (cs.take (1 + c / 3 % 8).toNat).length = (1 + c / 3 % 8).toNat := by rw [List.length_take]; omega
    have sl := sal_len cs
    generalize cs.take (1 + c / 3 % 8).toNat = B at *
    have slB := sal_len B
    have hlen : ((sal B).length : Int) = 1 + c / 3 % 8 := by rw [slB]; omega
    have a0 := Int.emod_nonneg (c / 24) (show ((sal B).length : Int) ≠ 0 by omega)
    have a1 := Int.emod_lt_of_pos (c / 24) (show (0 : Int) < ((sal B).length : Int) by omega)
    generalize hat : c / 24 % ((sal B).length : Int) = at' at *
    have es1 := slice_to (cs := B) (j := at') (by omega) (by omega)
    have es2 := slice_from (cs := B) (i := at' + 1) (by omega) (by omega)
    have la : (B.take at'.toNat).length ≤ 8 := by rw [List.length_take]; omega
    have lc : (B.drop (at' + 1).toNat).length ≤ 8 := by rw [List.length_drop]; omega
    generalize B.take at'.toNat = A at *
    generalize B.drop (at' + 1).toNat = C at *
    have e2 : fmapM (bodyM (callF T (n + 1)) (.nm 4) [] (.bin .add (.bin .add (.sl (.v 0) none (some (.v 1))) (.idx (.v 2) (.bin .mod (.bin .add (.bin .fdiv (.v 3) (.c (.int 3))) (.bin .mul (.c (.int 7)) (.v 4))) (.c (.int 26))))) (.sl (.v 0) (some (.bin .add (.v 1) (.c (.int 1)))) none)) [some (.str (sal B)), some (.int at'), some (.str "abcdefghijklmnopqrstuvwxyz"), some (.int c), none]) ((ks m).map .int) = .ok (((ks m).map fun k => sal (A ++ [ch c k] ++ C)).map .str) := by
      refine Ev.fmap_all D.int (fun k : Int => sal (A ++ [ch c k] ++ C)) .str _ fun k hk => ?_
      obtain ⟨k0, k1⟩ := ks_in hk
      have r0 := Int.emod_nonneg (c / 3 + 7 * k) (show (26 : Int) ≠ 0 by decide)
      have r1 := Int.emod_lt_of_pos (c / 3 + 7 * k) (show (0 : Int) < 26 by decide)
      have f0 := abc_ix r0 r1
      rw [show one (97 + ((c / 3 + 7 * k) % 26).toNat) = sal [ch c k] from rfl] at f0
      have f1 : opB .add (.str (sal A)) (.str (sal [ch c k])) = .ok (.str (sal (A ++ [ch c k]))) := sal_add (by rw [List.length_cons, List.length_nil]; omega)
      have f2 : opB .add (.str (sal (A ++ [ch c k]))) (.str (sal C)) = .ok (.str (sal (A ++ [ch c k] ++ C))) := sal_add (by rw [List.length_append, List.length_cons, List.length_nil]; omega)
      generalize sal (A ++ [ch c k] ++ C) = W3 at *
      generalize sal (A ++ [ch c k]) = W2 at *
      generalize sal [ch c k] = W1 at *
      have s8 : (sal B).length ≤ 16777216 := by omega
      simp -implicitDefEqProofs (disch := omega) only [ev0, Nat.reduceBEq, Nat.reduceSub, Nat.reduceAdd, reduceIte, es1, es2, f0, f1, f2]
    refine ⟨(ks m).map fun k => sal (A ++ [ch c k] ++ C), ?_, by rw [List.length_map, ks_len], nd_map _ (ks_nd m) fun x hx y hy e => ?_⟩
    · rw [Ev.go (show T 28 = some d28 from rfl) (show d28.np = 2 from rfl) (show d28.G.N.length = 5 from rfl) (show d28.body = b28 from rfl) rfl]; unfold b28
      generalize ((ks m).map fun k => sal (A ++ [ch c k] ++ C)) = F at *
      have ff := str_lf F
      generalize (ks m).map D.int = KK at *
      have s8 : (sal cs).length ≤ 16777216 := by omega
      have s9 : (sal B).length ≤ 16777216 := by omega
      have sp : (0 : Int) < ((sal B).length : Int) := by omega
      cases q1 : (c % 3 == 1) with
      | true =>
        cases q2 : decide (m ≤ 8) with
        | true => rw [q1, q2] at b3; cases b3
        | false => simp -implicitDefEqProofs (disch := omega) only [ev0, Nat.reduceBEq, Nat.reduceSub, Nat.reduceAdd, reduceIte, ex, e1, je, q1, q2, rk, e2, lxs, lk, ff, es, hat]
      | false => simp -implicitDefEqProofs (disch := omega) only [ev0, Nat.reduceBEq, Nat.reduceSub, Nat.reduceAdd, reduceIte, ex, e1, je, q1, rk, e2, lxs, lk, ff, es, hat]
    · obtain ⟨x0, x1⟩ := ks_in hx
      obtain ⟨y0, y1⟩ := ks_in hy
      have e3 := sal_inj e
      rw [List.append_assoc, List.append_assoc] at e3
      have e4 := List.append_cancel_left e3
      have e5 : ch c x = ch c y := by
        rw [List.singleton_append, List.singleton_append] at e4
        exact (List.cons.inj e4).1
      unfold ch at e5
      omega
end Law
namespace Law
open PySem PySem.Spec L2 L2.Fr
theorem dd_in (σ : List Str) (v a : Str) : a ∈ Sx.dd σ v → a ∈ σ ∨ a = v := by
  unfold Sx.dd
  split
  · exact .inl
  · intro h
    rcases List.mem_append.mp h with h | h
    · exact .inl h
    · exact .inr (by simpa using h)
theorem dd_nd {σ : List Str} (v : Str) (h : σ.Nodup) : (Sx.dd σ v).Nodup := by
  unfold Sx.dd
  split
  · exact h
  · rename_i hn
    refine List.nodup_append.mpr ⟨h, by simp, fun a ha b hb e => ?_⟩
    have : b = v := by simpa using hb
    subst this e
    exact hn (List.any_eq_true.mpr ⟨a, ha, by simp⟩)
theorem fold_dd : ∀ (l σ : List Str), σ.Nodup → (l.foldl Sx.dd σ).Nodup ∧ ∀ a ∈ l.foldl Sx.dd σ, a ∈ σ ∨ a ∈ l
  | [], σ, h => ⟨h, fun a ha => .inl ha⟩
  | v :: l, σ, h => by
    obtain ⟨h1, h2⟩ := fold_dd l (Sx.dd σ v) (dd_nd v h)
    refine ⟨h1, fun a ha => ?_⟩
    rcases h2 a ha with z | z
    · rcases dd_in σ v a z with z | z
      · exact .inl z
      · exact .inr (by rw [z]; simp)
    · exact .inr (List.mem_cons_of_mem _ z)
theorem fold_nd : ∀ (l σ : List Str), (σ ++ l).Nodup → l.foldl Sx.dd σ = σ ++ l
  | [], σ, _ => by simp
  | v :: l, σ, h => by
    have hv : ¬ (σ.any (· == v)) = true := fun z => by
      obtain ⟨a, ha, e⟩ := List.any_eq_true.mp z
      have e' : a = v := by simpa using e
      subst e'
      exact (List.nodup_append.mp h).2.2 a ha a (by simp) rfl
    have e : Sx.dd σ v = σ ++ [v] := by unfold Sx.dd; rw [if_neg hv]
    rw [List.foldl_cons, e, fold_nd l (σ ++ [v]) (by rw [List.append_assoc]; exact h), List.append_assoc]
    rfl
theorem set_nd {fs : List Str} (h : fs.Nodup) (hl : fs.length < 1000) (o : Bool) : lsetD (.lst o (fs.map .str)) = .ok (.int (fs.length : Nat)) := by
  show (match asStrs (fs.map .str) with | some ys => grd (decide (ys.length < 1000)) (.ok (.int ((ys.foldl Sx.dd []).length : Nat))) | none => stk) = (_ : Res D)
  rw [Ev.asStrs_i]
  show grd (decide _) _ = _
  rw [decide_eq_true hl, fold_nd fs [] h]
  rfl
theorem set_le {gs fs : List Str} (hs : ∀ a ∈ gs, a ∈ fs) (hl : gs.length < 1000) (o : Bool) : ∃ k : Nat, lsetD (.lst o (gs.map .str)) = .ok (.int (k : Nat)) ∧ k ≤ fs.length := by
  refine ⟨(gs.foldl Sx.dd []).length, ?_, ?_⟩
  · show (match asStrs (gs.map .str) with | some ys => grd (decide (ys.length < 1000)) (.ok (.int ((ys.foldl Sx.dd []).length : Nat))) | none => stk) = (_ : Res D)
    rw [Ev.asStrs_i]
    show grd (decide _) _ = _
    rw [decide_eq_true hl]
    rfl
  · obtain ⟨h1, h2⟩ := fold_dd gs [] .nil
    exact length_le_of_nodup_of_subset _ _ h1 fun a ha => (h2 a ha).elim (fun z => absurd z (by simp)) (hs a)
noncomputable def row (f : Str) : D := .tup [.str f, .lst false []]
noncomputable def fnd (fs : List Str) : D := .tup [.lst true (fs.map row), .lst true [.tup [.int 0, .int 10007]]]
noncomputable def fne (fs : List Str) : D := .tup [.lst false (fs.map row), .lst false [.tup [.int 0, .int 10007]]]
theorem row_er (fs : List Str) : ers (fs.map row) = fs.map row := by
  rw [ers_map, List.map_map]
  rfl
theorem fm_rows (cl : Nat → List D → Res D) (fs : List Str) : fmapM (bodyM cl (.nm 0) [] (.tup [(.v 0), (.lst [])]) [none]) (fs.map .str) = .ok (fs.map fun f => .tup [.str f, .lst true []]) := by
  have := Ev.fmap_all (g := bodyM cl (.nm 0) [] (.tup [(.v 0), (.lst [])]) [none]) D.str (fun f : Str => f) (fun f => D.tup [.str f, .lst true []]) fs fun f _ => by
    simp -implicitDefEqProofs (disch := omega) only [ev0, Nat.reduceBEq, Nat.reduceSub, Nat.reduceAdd, reduceIte]
  rw [this, List.map_id']
theorem rows_er (fs : List Str) : ers (fs.map fun f => D.tup [.str f, .lst true []]) = fs.map row := by
  rw [ers_map, List.map_map]
  rfl
theorem rows_lf (fs : List Str) : lfrees (fs.map fun f => D.tup [.str f, .lst true []]) = fs.isEmpty := by
  cases fs <;> rfl
theorem new_ok (n : Nat) (fs : List Str) (h : fs.Nodup) (hl : fs.length ≤ 50) : callF T (n + 1) 21 [.lst false (fs.map .str)] = .ok (fnd fs) := by
  have e1 := set_nd h (by omega)
  have e2 := fm_rows (callF T n) fs
  have e3 := rows_er fs
  have e4 := rows_lf fs
  have lm : (fs.map D.str).length = fs.length := List.length_map _
  have hd : decide ((fs.length : Int) < (fs.length : Int)) = false := decide_eq_false (by omega)
  have el : fs.isEmpty = true → (fs.map fun f => D.tup [.str f, .lst true []]) = fs.map row := fun z => by
    cases fs with
    | nil => rfl
    | cons _ _ => cases z
  unfold fnd
  rw [Ev.go (show T 21 = some d21 from rfl) (show d21.np = 1 from rfl) (show d21.G.N.length = 1 from rfl) (show d21.body = b21 from rfl) rfl]; unfold b21
  generalize (fs.map fun f => D.tup [.str f, .lst true []]) = R at *
  generalize fs.map row = R' at *
  generalize fs.map D.str = S at *
  cases z : fs.isEmpty with
  | true =>
    have el' := el z
    rw [z] at e4
    subst el'
    simp -implicitDefEqProofs (disch := omega) only [ev0, Nat.reduceBEq, Nat.reduceSub, Nat.reduceAdd, reduceIte, Ev.lsetK, e1, e2, e3, e4, lm, hd]
  | false =>
    rw [z] at e4
    simp -implicitDefEqProofs (disch := omega) only [ev0, Nat.reduceBEq, Nat.reduceSub, Nat.reduceAdd, reduceIte, Ev.lsetK, e1, e2, e3, e4, lm, hd]
theorem new_no (n : Nat) (gs fs : List Str) (hs : ∀ a ∈ gs, a ∈ fs) (hl : gs.length ≤ 50) (hg : fs.length < gs.length) : callF T (n + 1) 21 [.lst false (gs.map .str)] = .error (.exc "Twice") := by
  obtain ⟨k, e1, hk⟩ := set_le hs (by omega) false
  have lm : (gs.map D.str).length = gs.length := List.length_map _
  have hd : decide ((k : Int) < (gs.length : Int)) = true := decide_eq_true (by omega)
  rw [Ev.go (show T 21 = some d21 from rfl) (show d21.np = 1 from rfl) (show d21.G.N.length = 1 from rfl) (show d21.body = b21 from rfl) rfl]; unfold b21
  generalize gs.map D.str = S at *
  simp -implicitDefEqProofs (disch := omega) only [ev0, Nat.reduceBEq, Nat.reduceSub, Nat.reduceAdd, reduceIte, Ev.lsetK, e1, lm, hd]
theorem size_0 (n : Nat) : callF T (n + 1) 19 [.lst false []] = .ok (.int 0) := rfl
theorem index_0 (n : Nat) (p : Int) : callF T (n + 1) 20 [.lst false [], .int p] = .ok .non := rfl
noncomputable def tF : List IS := [(.if_ (.cmp .isn (.call 20 [(.v 3), (.v 1)]) (.c .non)) [(.ret (.v 2))] [])]
theorem face_no (n : Nat) (fs : List Str) (p : Int) : callF T (n + 2) 22 [fne fs, .int p] = .ok .non := by
  obtain ⟨τ', e, y2, y3, rfl⟩ := Ev.for_fold (body := Ev.turn (callF T (n + 1)) (.pr 2 3) tF) (fun (u : Unit) (_ : Str) => u) row (fun _ τ => ∃ y2 y3, τ = [some (fne fs), some (.int p), y2, y3]) fs () [some (fne fs), some (.int p), none, none] ⟨_, _, rfl⟩ (by
    rintro f _ τ _ ⟨y2, y3, rfl⟩
    refine ⟨_, ?_, some (.str f), some (.lst false []), rfl⟩
    have e := index_0 n p
    unfold tF row
    generalize fne fs = A
    simp -implicitDefEqProofs (disch := omega) only [ev0, Nat.reduceBEq, Nat.reduceSub, Nat.reduceAdd, reduceIte, Ev.turn_eq, e])
  rw [Ev.go (show T 22 = some d22 from rfl) (show d22.np = 2 from rfl) (show d22.G.N.length = 4 from rfl) (show d22.body = [(.for_ (.pr 2 3) (.val (.idx (.v 0) (.c (.int 0)))) tF), (.ret (.c .non))] from rfl) rfl]
  have re := row_er fs
  have x0 : opIx (fne fs) (.int 0) = .ok (.lst false (fs.map row)) := rfl
  have ee : er (fne fs) = fne fs := by
    unfold fne
    rw [Ev.er_t, Ev.ers_c, Ev.er_l, re]
    rfl
  generalize fne fs = A at *
  generalize fs.map row = R at *
  generalize tF = t at *
  simp -implicitDefEqProofs (disch := omega) only [ev0, Nat.reduceBEq, Nat.reduceSub, Nat.reduceAdd, reduceIte, x0, re, ee, e]
theorem shares_0 (n : Nat) (fs : List Str) (hl : fs.length ≤ 50) : callF T (n + 2) 23 [fne fs] = .ok (.lst true (fs.map fun f => .tup [.str f, .int 0])) := by
  have e1 : fmapM (bodyM (callF T (n + 1)) (.pr 0 1) [] (.tup [(.v 0), (.call 19 [(.v 1)])]) [none, none]) (fs.map row) = .ok (fs.map fun f => .tup [.str f, .int 0]) := by
    have := Ev.fmap_all (g := bodyM (callF T (n + 1)) (.pr 0 1) [] (.tup [(.v 0), (.call 19 [(.v 1)])]) [none, none]) row (fun f : Str => f) (fun f => D.tup [.str f, .int 0]) fs fun f _ => by
      have e := size_0 n
      unfold row
      simp -implicitDefEqProofs (disch := omega) only [ev0, Nat.reduceBEq, Nat.reduceSub, Nat.reduceAdd, reduceIte, e]
    rw [this, List.map_id']
  have x0 : opIx (fne fs) (.int 0) = .ok (.lst false (fs.map row)) := rfl
  have lm : (fs.map row).length = fs.length := List.length_map _
  have lf : lfrees (fs.map fun f => D.tup [.str f, .int 0]) = true := by
    rw [lfrees_all, List.all_map, List.all_eq_true]
    intro x _
    rfl
  rw [Ev.go (show T 23 = some d23 from rfl) (show d23.np = 1 from rfl) (show d23.G.N.length = 1 from rfl) (show d23.body = b23 from rfl) rfl]; unfold b23
  generalize fne fs = A at *
  generalize (fs.map fun f => D.tup [.str f, .int 0]) = Q at *
  generalize fs.map row = R at *
  simp -implicitDefEqProofs (disch := omega) only [ev0, Nat.reduceBEq, Nat.reduceSub, Nat.reduceAdd, reduceIte, x0, e1, lm, lf]
end Law
namespace Law
open PySem PySem.Spec L2 L2.Fr
noncomputable def N0 : List D := (List.replicate (10007 : Int).toNat [D.non]).flatten
theorem N0_in {x : D} (h : x ∈ N0) : x = .non := by
  unfold N0 at h
  obtain ⟨l, hl, hx⟩ := List.mem_flatten.mp h
  rw [(List.mem_replicate.mp hl).2] at hx
  simpa using hx
theorem N0_len : N0.length = 10007 := by unfold N0; rw [len_rep]; rfl
theorem N0_er : ers N0 = N0 := by
  rw [ers_map]
  exact (List.map_congr_left fun x hx => by rw [N0_in hx]; rfl).trans (List.map_id N0)
theorem N0_ix (o : Bool) {p : Int} (h0 : 0 ≤ p) (h1 : p < 10007) : opIx (.lst o N0) (.int p) = .ok .non := by
  have hp : p < (N0.length : Nat) := by rw [N0_len]; exact h1
  rw [Ev.x_l, Ev.atI_in .non h0 hp]
  have : N0.getD p.toNat .non = .non := by
    rw [List.getD_eq_getElem?_getD, List.getElem?_eq_getElem (by omega)]
    exact N0_in (List.getElem_mem _)
  rw [this]
theorem N0_ap (ds : List D) : apartD (.lst false N0) ds = false := by
  have : N0.isEmpty = false := by
    cases h : N0 with
    | nil => have := N0_len; rw [h] at this; cases this
    | cons _ _ => rfl
  show (sh false (.lst false N0) || (sh true (.lst false N0) && ness ds)) = false
  rw [show sh false (.lst false N0) = ((false || (false && N0.isEmpty)) && shs false N0) from rfl, show sh true (.lst false N0) = ((false || (true && N0.isEmpty)) && shs true N0) from rfl, this]
  rfl
theorem N0_lf : lfree (.lst false N0) = false := rfl
theorem fne_er (fs : List Str) : er (fne fs) = fne fs := by
  unfold fne
  rw [Ev.er_t, Ev.ers_c, Ev.er_l, row_er fs]
  rfl
theorem fnd_er (fs : List Str) : er (fnd fs) = fne fs := by
  unfold fnd fne
  rw [Ev.er_t, Ev.ers_c, Ev.er_l, row_er fs]
  rfl
noncomputable def tP : List IS := [(.for_ (.pr 4 5) (.val (.v 3)) [(.for_ (.nm 6) (.rng2 (.v 4) (.v 5)) [(.setix 1 (.v 6) (.v 2))])])]
theorem by_place (n : Nat) (fs : List Str) : callF T (n + 1) 24 [fne fs] = .ok (.lst false N0) := by
  obtain ⟨τ', e, y2, y3, rfl⟩ := Ev.for_fold (body := Ev.turn (callF T n) (.pr 2 3) tP) (fun (u : Unit) (_ : Str) => u) row (fun _ τ => ∃ y2 y3, τ = [some (fne fs), some (.lst false N0), y2, y3, none, none, none]) fs () [some (fne fs), some (.lst false N0), none, none, none, none, none] ⟨_, _, rfl⟩ (by
    rintro f _ τ _ ⟨y2, y3, rfl⟩
    refine ⟨_, ?_, some (.str f), some (.lst false []), rfl⟩
    unfold tP row
    generalize fne fs = A
    generalize N0 = M
    simp -implicitDefEqProofs (disch := omega) only [ev0, Nat.reduceBEq, Nat.reduceSub, Nat.reduceAdd, reduceIte, Ev.turn_eq])
  rw [Ev.go (show T 24 = some d24 from rfl) (show d24.np = 1 from rfl) (show d24.G.N.length = 7 from rfl) (show d24.body = [(.asg (.nm 1) (.bin .mul (.lst [(.c .non)]) (.g 18 (.int 10007)))), (.for_ (.pr 2 3) (.val (.idx (.v 0) (.c (.int 0)))) tP), (.ret (.v 1))] from rfl) rfl]
  have m0 : ∀ o : Bool, opB .mul (.lst o [.non]) (.int 10007) = .ok (.lst true N0) := fun _ => rfl
  have re := row_er fs
  have x0 : opIx (fne fs) (.int 0) = .ok (.lst false (fs.map row)) := rfl
  have ee := fne_er fs
  have ne := N0_er
  generalize fne fs = A at *
  generalize fs.map row = R at *
  generalize N0 = M at *
  generalize tP = t at *
  simp -implicitDefEqProofs (disch := omega) only [ev0, Nat.reduceBEq, Nat.reduceSub, Nat.reduceAdd, reduceIte, m0, x0, re, ee, ne, e]
theorem fmap_no {g : D → Res (Option D)} : ∀ its : List D, (∀ x ∈ its, g x = .ok none) → fmapM g its = .ok []
  | [], _ => rfl
  | x :: its, h => by
    show bnd (g x) _ = _
    rw [h x (by simp)]
    exact fmap_no its fun y hy => h y (List.mem_cons_of_mem _ hy)
theorem moved_0 (n : Nat) (fs : List Str) : callF T (n + 2) 25 [fne fs, fne fs] = .ok (.int 0) := by
  have e := by_place n fs
  have e1 : fmapM (bodyM (callF T (n + 1)) (.nm 2) [(.cmp .ne (.idx (.v 0) (.v 2)) (.idx (.v 1) (.v 2)))] (.v 2) [some (.lst false N0), some (.lst false N0), none]) (rngD 0 10007) = .ok [] := by
    refine fmap_no _ fun x hx => ?_
    rw [Ev.rngD_map] at hx
    obtain ⟨p, hp, rfl⟩ := List.mem_map.mp hx
    obtain ⟨p0, p1⟩ := ks_in (m := 10007) hp
    have x0 := fun o => N0_ix o p0 p1
    generalize N0 = M at *
    simp -implicitDefEqProofs (disch := omega) only [ev0, Nat.reduceBEq, Nat.reduceSub, Nat.reduceAdd, reduceIte, x0]
  have ap := N0_ap
  have nf := N0_lf
  have ee := fne_er fs
  have lr : (rngD 0 10007).length = 10007 := by rw [rngD_len]; rfl
  rw [Ev.go (show T 25 = some d25 from rfl) (show d25.np = 2 from rfl) (show d25.G.N.length = 4 from rfl) (show d25.body = b25 from rfl) rfl]; unfold b25
  generalize fne fs = A at *
  generalize N0 = M at *
  generalize hR : rngD 0 10007 = RR at *
  simp -implicitDefEqProofs (disch := omega) only [ev0, Nat.reduceBEq, Nat.reduceSub, Nat.reduceAdd, reduceIte, e, e1, ap, nf, ee, lr, hR]
  rfl
theorem try_x {cl : Nat → List D → Res D} {body hb : List IS} {n i : Nat} {cs : List Str} {c : Str} {τ τ' : Ev} (h : evSs cl body τ = .error (.exc c)) (hc : cs.contains c = true)
    (hh : evSs cl hb ((List.replicate τ.length none).set i (some (.exc c))) = .ok (.nx τ')) : evS cl (.tryx body n cs i hb) τ = .ok (.nx (τ'.set i none)) := by
  rw [evS, h]
  show grd (cs.contains c) _ = _
  rw [hc, hh]
  rfl
theorem word_ok : callF T 11 29 [.exc "Twice"] = .ok (.str "twice") := rfl
theorem refused_ok (gs fs : List Str) (hs : ∀ a ∈ gs, a ∈ fs) (hl : gs.length ≤ 50) (hg : fs.length < gs.length) : callF T 12 30 [.lst false (gs.map .str)] = .ok (.str "twice") := by
  have e := new_no 10 gs fs hs hl hg
  have se := str_er gs
  rw [Ev.go (show T 30 = some d30 from rfl) (show d30.np = 1 from rfl) (show d30.G.N.length = 3 from rfl) (show d30.body = [(.asg (.nm 1) (.c (.str "none"))), (.tryx [(.exp (.call 21 [(.v 0)]))] 47 ["Twice"] 2 [(.asg (.nm 1) (.call 29 [(.v 2)]))]), (.ret (.v 1))] from rfl) rfl]
  generalize gs.map D.str = S at *
  have hbd : evSs (callF T 11) [(.exp (.call 21 [(.v 0)]))] [some (.lst false S), some (.str "none"), none] = .error (.exc "Twice") := by
    simp -implicitDefEqProofs (disch := omega) only [ev0, Nat.reduceBEq, Nat.reduceSub, Nat.reduceAdd, reduceIte, se, e]
  have hh : evSs (callF T 11) [(.asg (.nm 1) (.call 29 [(.v 2)]))] [none, none, some (.exc "Twice")] = .ok (.nx [none, some (.str "twice"), some (.exc "Twice")]) := by
    have w := word_ok
    simp -implicitDefEqProofs (disch := omega) only [ev0, Nat.reduceBEq, Nat.reduceSub, Nat.reduceAdd, reduceIte, w]
  have et : evS (callF T 11) (.tryx [(.exp (.call 21 [(.v 0)]))] 47 ["Twice"] 2 [(.asg (.nm 1) (.call 29 [(.v 2)]))]) [some (.lst false S), some (.str "none"), none] = .ok (.nx [none, some (.str "twice"), none]) :=
    try_x (c := "Twice") (τ' := [none, some (.str "twice"), some (.exc "Twice")]) hbd rfl hh
  simp -implicitDefEqProofs (disch := omega) only [ev0, Nat.reduceBEq, Nat.reduceSub, Nat.reduceAdd, reduceIte, et]
end Law
namespace Law
open PySem PySem.Spec L2 L2.Fr
theorem ss_app (cl : Nat → List D → Res D) : ∀ (a b : List IS) (τ : Ev), evSs cl (a ++ b) τ = bnd (evSs cl a τ) (Ev.seqF (evSs cl b))
  | [], b, τ => rfl
  | s :: a, b, τ => by
    rw [List.cons_append, Ev.ss_c, Ev.ss_c]
    cases evS cl s τ with
    | error e => rfl
    | ok f =>
      cases f with
      | nx τ' => exact ss_app cl a b τ'
      | rt d => rfl
theorem cut_from {α : Type} (xs : List α) {m : Int} (h : 0 ≤ m) (hm : m ≤ xs.length) : cutG xs (some m) none = xs.drop m.toNat := by
  unfold cutG HT.sIx
  simp only []
  rw [if_neg (by omega), show min m.toNat xs.length = m.toNat from Nat.min_eq_left (by omega), List.take_of_length_le (by rw [List.length_drop]; exact Nat.le_refl _)]
theorem shs_str (b : Bool) (fs : List Str) : shs b (fs.map .str) = true := by
  induction fs with
  | nil => rfl
  | cons f fs ih => exact ih
theorem ap_str (fs : List Str) (ds : List D) : apartD (.lst true (fs.map .str)) ds = true := by
  show (sh false (.lst true (fs.map .str)) || _) = true
  rw [show sh false (.lst true (fs.map .str)) = ((true || (false && (fs.map D.str).isEmpty)) && shs false (fs.map .str)) from rfl, shs_str]
  rfl
theorem shs_row (fs : List Str) : shs true (fs.map row) = true := by
  induction fs with
  | nil => rfl
  | cons f fs ih => exact ih
theorem ness_str (fs : List Str) : ness (fs.map .str) = true := by
  induction fs with
  | nil => rfl
  | cons f fs ih => exact ih
theorem ap_fnd (fs : List Str) : apartD (fnd fs) [.lst true (fs.map .str)] = true := by
  cases fs with
  | nil => rfl
  | cons f fs =>
    have h1 : sh true (fnd (f :: fs)) = true := by
      show shs true [D.lst true ((f :: fs).map row), .lst true [.tup [.int 0, .int 10007]]] = true
      rw [shs, sh, shs_row]
      rfl
    have h2 : ness [D.lst true ((f :: fs).map .str)] = true := by
      show (((true && ness ((f :: fs).map .str)) && true) : Bool) = true
      rw [ness_str]
      rfl
    show (_ || (sh true (fnd (f :: fs)) && ness [D.lst true ((f :: fs).map .str)])) = true
    rw [h1, h2]
    simp
theorem eqs_refl (n : Nat) (g : Str → D) (h : ∀ f, eqN n (g f) (g f) = .ok true) : ∀ fs : List Str, eqsG (eqN n) (fs.map g) (fs.map g) = .ok true
  | [] => rfl
  | f :: fs => by
    show bnd (eqN n (g f) (g f)) _ = _
    rw [h]
    show bnd (eqsG (eqN n) (fs.map g) (fs.map g)) _ = _
    rw [eqs_refl n g h fs]
    rfl
theorem eq_str (o o' : Bool) (fs : List Str) : eqN 40 (.lst o (fs.map .str)) (.lst o' (fs.map .str)) = .ok true :=
  eqs_refl 39 .str (fun f => by show Except.ok (f == f) = _; rw [beq_self_eq_true]) fs
theorem eq_row (n : Nat) (f : Str) : eqN (n + 3) (row f) (row f) = .ok true := by
  rw [show eqN (n + 3) (row f) (row f) = bnd (eqN (n + 2) (.str f) (.str f)) (fun x => bnd (eqsG (eqN (n + 2)) [.lst false []] [.lst false []]) fun y => .ok (x && y)) from rfl, Ev.e_ss, beq_self_eq_true]
  rfl
theorem eq_sh (n : Nat) (f : Str) : eqN (n + 3) (.tup [.str f, .int 0]) (.tup [.str f, .int 0]) = .ok true := by
  rw [show eqN (n + 3) (.tup [.str f, .int 0]) (.tup [.str f, .int 0]) = bnd (eqN (n + 2) (.str f) (.str f)) (fun x => bnd (eqsG (eqN (n + 2)) [.int 0] [.int 0]) fun y => .ok (x && y)) from rfl, Ev.e_ss, beq_self_eq_true]
  rfl
theorem eq_fnd (fs : List Str) : eqN 40 (fnd fs) (fnd fs) = .ok true := by
  show bnd (eqsG (eqN 38) (fs.map row) (fs.map row)) _ = _
  rw [eqs_refl 38 row (fun f => eq_row 35 f) fs]
  rfl
theorem eq_shs (o o' : Bool) (fs : List Str) : eqN 40 (.lst o (fs.map fun f => .tup [.str f, .int 0])) (.lst o' (fs.map fun f => .tup [.str f, .int 0])) = .ok true :=
  eqs_refl 39 (fun f => .tup [.str f, .int 0]) (fun f => eq_sh 36 f) fs
noncomputable def sT : List IS := [(.if_ (.and_ (.cmp .ne (.v 2) (.lst [])) (.cmp .eq (.bin .mod (.bin .fdiv (.v 1) (.c (.int 13))) (.c (.int 3))) (.c (.int 1)))) [(.asg (.nm 3) (.bin .mod (.bin .fdiv (.v 1) (.c (.int 39))) (.bin .add (.bi .len [(.v 2)]) (.c (.int 1))))), (.asg (.nm 4) (.idx (.v 2) (.bin .mod (.bin .fdiv (.v 1) (.c (.int 39))) (.bi .len [(.v 2)])))), (.if_ (.cmp .ne (.call 30 [(.bin .add (.bin .add (.sl (.v 2) none (some (.v 3))) (.lst [(.v 4)])) (.sl (.v 2) (some (.v 3)) none))]) (.c (.str "twice"))) [(.ret (.c (.bl false)))] [])] [])]
theorem twice (q0 : Option D) (x : Int) (fs : List Str) (hl : fs.length ≤ 12) : ∃ y3 y4, evSs (callF T 12) sT [q0, some (.int x), some (.lst true (fs.map .str)), none, none, none, none, none, none] = .ok (.nx [q0, some (.int x), some (.lst true (fs.map .str)), y3, y4, none, none, none, none]) := by
  unfold sT
  cases fs with
  | nil =>
    have f : ∀ o : Bool, eqN 40 (.lst true []) (.lst o []) = .ok true := fun _ => rfl
    refine ⟨none, none, ?_⟩
    simp -implicitDefEqProofs (disch := omega) only [ev0, Nat.reduceBEq, Nat.reduceSub, Nat.reduceAdd, reduceIte, f]
  | cons a r =>
    have f : ∀ o : Bool, eqN 40 (.lst true ((a :: r).map .str)) (.lst o []) = .ok false := fun _ => rfl
    by_cases hx : x / 13 % 3 = 1
    · have hb : (x / 13 % 3 == 1) = true := by rw [hx]; rfl
      have lm : ((a :: r).map D.str).length = (a :: r).length := List.length_map _
      have hp : 0 < (a :: r).length := by simp
      generalize hF : a :: r = F at *
      have a0 := Int.emod_nonneg (x / 39) (show ((F.length : Nat) : Int) + 1 ≠ 0 by omega)
      have a1 := Int.emod_lt_of_pos (x / 39) (show (0 : Int) < ((F.length : Nat) : Int) + 1 by omega)
      have b0 := Int.emod_nonneg (x / 39) (show ((F.length : Nat) : Int) ≠ 0 by omega)
      have b1 := Int.emod_lt_of_pos (x / 39) (show (0 : Int) < ((F.length : Nat) : Int) by omega)
      generalize hat : x / 39 % (((F.length : Nat) : Int) + 1) = at' at *
      generalize hix : x / 39 % ((F.length : Nat) : Int) = ix at *
      have e4 : ∀ o : Bool, opIx (.lst o (F.map .str)) (.int ix) = .ok (.str (F.getD ix.toNat ⟨#[]⟩)) := fun o => Ev.x_ss b0 b1
      have hd : F.getD ix.toNat ⟨#[]⟩ ∈ F := by
        have : ix.toNat < F.length := by omega
        rw [List.getD_eq_getElem?_getD, List.getElem?_eq_getElem this]
        exact List.getElem_mem this
      generalize F.getD ix.toNat ⟨#[]⟩ = dbl at *
      have c1 : cutG (F.map D.str) none (some at') = (F.take at'.toNat).map D.str := by rw [Ev.cutG_map, Ev.cut_to F a0]
      have c2 : cutG (F.map D.str) (some at') none = (F.drop at'.toNat).map D.str := by rw [Ev.cutG_map, cut_from F a0 (by omega)]
      have l1 : ((F.take at'.toNat).map D.str).length ≤ 12 := by rw [List.length_map, List.length_take]; omega
      have l2 : ((F.drop at'.toNat).map D.str).length ≤ 12 := by rw [List.length_map, List.length_drop]; omega
      have l3 : ((F.take at'.toNat).map D.str ++ [D.str dbl]).length ≤ 13 := by rw [List.length_append, List.length_cons, List.length_nil]; omega
      have e5 := refused_ok (F.take at'.toNat ++ [dbl] ++ F.drop at'.toNat) F (fun z hz => by
        rcases List.mem_append.mp hz with hz | hz
        · rcases List.mem_append.mp hz with hz | hz
          · exact List.mem_of_mem_take hz
          · rw [List.mem_singleton.mp hz]; exact hd
        · exact List.mem_of_mem_drop hz) (by rw [List.length_append, List.length_append, List.length_take, List.length_drop, List.length_cons, List.length_nil]; omega) (by rw [List.length_append, List.length_append, List.length_take, List.length_drop, List.length_cons, List.length_nil]; omega)
      rw [List.map_append, List.map_append] at e5
      have e5' : callF T 12 30 [.lst false ((F.take at'.toNat).map D.str ++ [D.str dbl] ++ (F.drop at'.toNat).map D.str)] = .ok (.str "twice") := e5
      have se := str_er (F.take at'.toNat ++ [dbl] ++ F.drop at'.toNat)
      rw [List.map_append, List.map_append] at se
      have se' : ers ((F.take at'.toNat).map D.str ++ [D.str dbl] ++ (F.drop at'.toNat).map D.str) = (F.take at'.toNat).map D.str ++ [D.str dbl] ++ (F.drop at'.toNat).map D.str := se
      refine ⟨some (.int at'), some (.str dbl), ?_⟩
      generalize (F.take at'.toNat).map D.str = S1 at *
      generalize (F.drop at'.toNat).map D.str = S2 at *
      generalize F.map D.str = S at *
      simp -implicitDefEqProofs (disch := omega) only [ev0, Nat.reduceBEq, Nat.reduceSub, Nat.reduceAdd, reduceIte, f, hb, lm, hat, hix, e4, c1, c2, e5', se']
    · have hb : (x / 13 % 3 == 1) = false := by simpa using hx
      refine ⟨none, none, ?_⟩
      generalize (a :: r).map D.str = S at *
      simp -implicitDefEqProofs (disch := omega) only [ev0, Nat.reduceBEq, Nat.reduceSub, Nat.reduceAdd, reduceIte, f, hb]
end Law
namespace Law
open PySem PySem.Spec L2 L2.Fr
noncomputable def sA : List IS := [(.asg (.nm 1) (.call 26 [(.v 0), (.c (.int 0))])), (.asg (.nm 2) (.call 28 [(.call 26 [(.v 0), (.c (.int 1))]), (.bin .mod (.v 1) (.c (.int 13)))]))]
theorem begin_ok (ns : List Int) : ∃ (x : Int) (fs : List Str), evSs (callF T 12) sA [some (.lst false (ns.map .int)), none, none, none, none, none, none, none, none] = .ok (.nx [some (.lst false (ns.map .int)), some (.int x), some (.lst true (fs.map .str)), none, none, none, none, none, none]) ∧ fs.Nodup ∧ fs.length ≤ 12 := by
  have c0 := cell (show T 26 = some d26 from rfl) rfl rfl rfl 11 ns 0 (by omega)
  have c1 := cell (show T 26 = some d26 from rfl) rfl rfl rfl 11 ns 1 (by omega)
  generalize ns.getD (0 : Int).toNat 0 = x at *
  generalize ns.getD (1 : Int).toNat 0 = y at *
  have m0 := Int.emod_nonneg x (show (13 : Int) ≠ 0 by decide)
  have m1 := Int.emod_lt_of_pos x (show (0 : Int) < 13 by decide)
  obtain ⟨fs, e, hn⟩ := names_ok 10 y (x % 13) (by omega) (by omega)
  have en := Ev.ers_ii ns
  refine ⟨x, fs, ?_, hn.nod, by rw [hn.len]; omega⟩
  have ap := ap_str fs
  have nf : lfree (.lst true (fs.map D.str)) = false := rfl
  unfold sA
  generalize ns.map D.int = N at *
  generalize fs.map D.str = S at *
  simp -implicitDefEqProofs (disch := omega) only [ev0, Nat.reduceBEq, Nat.reduceSub, Nat.reduceAdd, reduceIte, c0, c1, e, en, ap, nf]
noncomputable def sB : List IS := [(.asg (.nm 5) (.bi .list [(.v 2)])), (.asg (.nm 6) (.call 21 [(.v 5)])), (.asg (.nm 7) (.tup [(.comp { N := ["_law_face"], kd := [.local], gl := [], df := false } [] (.nm 0) (.val (.v 2)) [] (.tup [(.v 0), (.lst [])])), (.lst [(.tup [(.c (.int 0)), (.c (.int 10007))])])]))]
theorem made_ok (q0 q1 q3 q4 : Option D) (fs : List Str) (h : fs.Nodup) (hl : fs.length ≤ 12) : ∃ b : Bool, evSs (callF T 12) sB [q0, q1, some (.lst true (fs.map .str)), q3, q4, none, none, none, none] = .ok (.nx [q0, q1, some (.lst b (fs.map .str)), q3, q4, some (.lst true (fs.map .str)), some (fnd fs), some (fnd fs), none]) := by
  have e1 := new_ok 11 fs h (by omega)
  have e2 := fm_rows (callF T 12) fs
  have e3 := rows_er fs
  have e4 := rows_lf fs
  have ap := ap_fnd fs
  have nf : lfree (fnd fs) = false := rfl
  have sl := str_lf fs
  have se := str_er fs
  have lm : (fs.map D.str).length = fs.length := List.length_map _
  have vc : vars (.comp { N := ["_law_face"], kd := [.local], gl := [], df := false } [] (.nm 0) (.val (.v 2)) [] (.tup [(.v 0), (.lst [])])) = [2] := rfl
  have el : fs.isEmpty = true → (fs.map fun f => D.tup [.str f, .lst true []]) = fs.map row := fun z => by
    cases fs with
    | nil => rfl
    | cons _ _ => cases z
  have fe : fnd fs = .tup [.lst true (fs.map row), .lst true [.tup [.int 0, .int 10007]]] := rfl
  unfold sB
  cases z : fs.isEmpty with
  | true =>
    have el' := el z
    rw [z] at e4
    refine ⟨true, ?_⟩
    generalize (fs.map fun f => D.tup [.str f, .lst true []]) = R at *
    subst el'
    generalize fs.map D.str = S at *
    generalize fnd fs = Fd at *
    simp -implicitDefEqProofs (disch := omega) only [ev0, Nat.reduceBEq, Nat.reduceSub, Nat.reduceAdd, reduceIte, e1, e2, e3, e4, ap, nf, sl, se, lm, vc]
    rw [fe]
  | false =>
    rw [z] at e4
    refine ⟨false, ?_⟩
    generalize (fs.map fun f => D.tup [.str f, .lst true []]) = R at *
    generalize fs.map row = R' at *
    generalize fs.map D.str = S at *
    generalize fnd fs = Fd at *
    simp -implicitDefEqProofs (disch := omega) only [ev0, Nat.reduceBEq, Nat.reduceSub, Nat.reduceAdd, reduceIte, e1, e2, e3, e4, ap, nf, sl, se, lm, vc]
    rw [fe]
noncomputable def tL : List IS := [(.if_ (.cmp .isn (.call 22 [(.v 6), (.v 8)]) (.c .non)) [(.ret (.c (.bl false)))] [])]
theorem loop_ok (q0 q1 q2 q3 q4 q5 q7 : Option D) (fs : List Str) (zs : List Int) : ∃ y8, forM (Ev.turn (callF T 12) (.nm 8) tL) (zs.map .int) [q0, q1, q2, q3, q4, q5, some (fnd fs), q7, none] = .ok (.nx [q0, q1, q2, q3, q4, q5, some (fnd fs), q7, y8]) := by
  obtain ⟨τ', e, y8, rfl⟩ := Ev.for_fold (body := Ev.turn (callF T 12) (.nm 8) tL) (fun (u : Unit) (_ : Int) => u) D.int (fun _ τ => ∃ y8, τ = [q0, q1, q2, q3, q4, q5, some (fnd fs), q7, y8]) zs () [q0, q1, q2, q3, q4, q5, some (fnd fs), q7, none] ⟨_, rfl⟩ (by
    rintro p _ τ _ ⟨y8, rfl⟩
    refine ⟨_, ?_, some (.int p), rfl⟩
    have e := face_no 10 fs p
    have ee := fnd_er fs
    unfold tL
    generalize fnd fs = Fd at *
    generalize fne fs = Fe at *
    simp -implicitDefEqProofs (disch := omega) only [ev0, Nat.reduceBEq, Nat.reduceSub, Nat.reduceAdd, reduceIte, Ev.turn_eq, e, ee])
  exact ⟨y8, e⟩
noncomputable def sC : List IS := [(.if_ (.or_ (.not_ (.isi (.v 6) .tuple)) (.or_ (.cmp .ne (.v 6) (.v 7)) (.cmp .ne (.v 5) (.v 2)))) [(.ret (.c (.bl false)))] []), (.if_ (.or_ (.cmp .ne (.call 23 [(.v 6)]) (.comp { N := ["_law_face"], kd := [.local], gl := [], df := false } [] (.nm 0) (.val (.v 2)) [] (.tup [(.v 0), (.c (.int 0))]))) (.cmp .ne (.call 25 [(.v 6), (.call 21 [(.v 2)])]) (.c (.int 0)))) [(.ret (.c (.bl false)))] [])]
theorem asked_ok (q0 q1 q3 q4 : Option D) (b : Bool) (fs : List Str) (h : fs.Nodup) (hl : fs.length ≤ 12) : evSs (callF T 12) sC [q0, q1, some (.lst b (fs.map .str)), q3, q4, some (.lst true (fs.map .str)), some (fnd fs), some (fnd fs), none] = .ok (.nx [q0, q1, some (.lst b (fs.map .str)), q3, q4, some (.lst true (fs.map .str)), some (fnd fs), some (fnd fs), none]) := by
  have e1 := new_ok 11 fs h (by omega)
  have e2 := shares_0 10 fs (by omega)
  have e3 := moved_0 10 fs
  have f1 := eq_fnd fs
  have f2 := eq_str true b fs
  have f3 := eq_shs true true fs
  have e4 : fmapM (bodyM (callF T 12) (.nm 0) [] (.tup [(.v 0), (.c (.int 0))]) [none]) (fs.map .str) = .ok (fs.map fun f => .tup [.str f, .int 0]) := by
    have := Ev.fmap_all (g := bodyM (callF T 12) (.nm 0) [] (.tup [(.v 0), (.c (.int 0))]) [none]) D.str (fun f : Str => f) (fun f => D.tup [.str f, .int 0]) fs fun f _ => by
      simp -implicitDefEqProofs (disch := omega) only [ev0, Nat.reduceBEq, Nat.reduceSub, Nat.reduceAdd, reduceIte]
    rw [this, List.map_id']
  have se := str_er fs
  have lm : (fs.map D.str).length = fs.length := List.length_map _
  have fe := fnd_er fs
  have nx : notX (fnd fs) = true := rfl
  have it : isiD .tuple (fnd fs) = true := rfl
  unfold sC
  generalize (fs.map fun f => D.tup [.str f, .int 0]) = Q at *
  generalize fs.map D.str = S at *
  generalize fnd fs = Fd at *
  generalize fne fs = Fe at *
  simp -implicitDefEqProofs (disch := omega) only [ev0, Nat.reduceBEq, Nat.reduceSub, Nat.reduceAdd, reduceIte, e1, e2, e3, f1, f2, f3, e4, se, lm, fe, nx, it]
noncomputable def sD : List IS := [(.for_ (.nm 8) (.val (.bin .add (.lst [(.c (.int 0)), (.c (.int 10006))]) (.comp { N := ["_law_cell"], kd := [.local], gl := [], df := false } [] (.nm 0) (.val (.sl (.v 0) (some (.c (.int 2))) (some (.c (.int 8))))) [] (.bin .mod (.v 0) (.c (.int 10007)))))) tL), (.clrx 6 1), (.appx 6 0 (.tup [(.c (.str "zz")), (.lst [])])), (.app 5 (.c (.str "zz"))), (.ret (.cmp .eq (.call 21 [(.v 2)]) (.v 7)))]
theorem end_ok (ns : List Int) (hn : ns.length ≤ 63) (q1 q3 q4 : Option D) (b : Bool) (fs : List Str) (h : fs.Nodup) (hl : fs.length ≤ 12) : bnd (evSs (callF T 12) sD [some (.lst false (ns.map .int)), q1, some (.lst b (fs.map .str)), q3, q4, some (.lst true (fs.map .str)), some (fnd fs), some (fnd fs), none]) Ev.retF = .ok (.bl true) := by
  have e1 := new_ok 11 fs h (by omega)
  have f1 := eq_fnd fs
  have cm : cutG (ns.map D.int) (some 2) (some 8) = (cutG ns (some 2) (some 8)).map .int := Ev.cutG_map _ _ _ _
  have cl : (cutG ns (some 2) (some 8)).length ≤ 63 := by
    unfold cutG
    rw [List.length_take, List.length_drop]
    omega
  generalize cutG ns (some 2) (some 8) = Y at *
  have e2 : fmapM (bodyM (callF T 12) (.nm 0) [] (.bin .mod (.v 0) (.c (.int 10007))) [none]) (Y.map .int) = .ok ((Y.map fun y => y % 10007).map .int) := by
    refine Ev.fmap_all D.int (fun y : Int => y % 10007) .int _ fun y _ => ?_
    simp -implicitDefEqProofs (disch := omega) only [ev0, Nat.reduceBEq, Nat.reduceSub, Nat.reduceAdd, reduceIte]
  obtain ⟨y8, e3⟩ := loop_ok (some (.lst false (ns.map .int))) q1 (some (.lst b (fs.map .str))) q3 q4 (some (.lst true (fs.map .str))) (some (fnd fs)) fs ([0, 10006] ++ Y.map fun y => y % 10007)
  rw [List.map_append] at e3
  have e3' : forM (Ev.turn (callF T 12) (.nm 8) tL) ([.int 0, .int 10006] ++ (Y.map fun y => y % 10007).map .int) [some (.lst false (ns.map .int)), q1, some (.lst b (fs.map .str)), q3, q4, some (.lst true (fs.map .str)), some (fnd fs), some (fnd fs), none] = .ok (.nx [some (.lst false (ns.map .int)), q1, some (.lst b (fs.map .str)), q3, q4, some (.lst true (fs.map .str)), some (fnd fs), some (fnd fs), y8]) := e3
  have ei := Ev.ers_ii ([0, 10006] ++ Y.map fun y => y % 10007)
  rw [List.map_append] at ei
  have ei' : ers ([.int 0, .int 10006] ++ (Y.map fun y => y % 10007).map .int) = [.int 0, .int 10006] ++ (Y.map fun y => y % 10007).map .int := ei
  have lY : ((Y.map fun y => y % 10007).map D.int).length ≤ 63 := by rw [List.length_map, List.length_map]; exact cl
  have lY0 : (Y.map D.int).length ≤ 63 := by rw [List.length_map]; exact cl
  have g1 : ∀ q0 : Option D, evS (callF T 12) (.clrx 6 1) [q0, q1, some (.lst b (fs.map .str)), q3, q4, some (.lst true (fs.map .str)), some (fnd fs), some (fnd fs), y8] = .ok (.nx [q0, q1, some (.lst b (fs.map .str)), q3, q4, some (.lst true (fs.map .str)), some (.tup [.lst true (fs.map row), .lst true []]), some (fnd fs), y8]) := fun _ => rfl
  have g2 : ∀ q0 : Option D, evS (callF T 12) (.appx 6 0 (.tup [(.c (.str "zz")), (.lst [])])) [q0, q1, some (.lst b (fs.map .str)), q3, q4, some (.lst true (fs.map .str)), some (.tup [.lst true (fs.map row), .lst true []]), some (fnd fs), y8] = .ok (.nx [q0, q1, some (.lst b (fs.map .str)), q3, q4, some (.lst true (fs.map .str)), none, some (fnd fs), y8]) := fun q0 => by
    show bnd (evR (callF T 12) (.tup [(.c (.str "zz")), (.lst [])]) [q0, q1, some (.lst b (fs.map .str)), q3, q4, some (.lst true (fs.map .str)), some (.tup [.lst true (fs.map row), .lst true []]), some (fnd fs), y8]) (fun _ => grd (szLt (fs.map row).length) (Except.ok (Fl.nx [q0, q1, some (.lst b (fs.map .str)), q3, q4, some (.lst true (fs.map .str)), none, some (fnd fs), y8]))) = _
    rw [Ev.szLt_t (by rw [List.length_map]; omega)]
    simp -implicitDefEqProofs (disch := omega) only [ev0, Nat.reduceBEq, Nat.reduceSub, Nat.reduceAdd, reduceIte]
  have se := str_er fs
  have en := Ev.ers_ii ns
  have lm : (fs.map D.str).length = fs.length := List.length_map _
  have ad : ∀ o o' : Bool, opB .add (.lst o [.int 0, .int 10006]) (.lst o' ((Y.map fun y => y % 10007).map .int)) = .ok (.lst true ([.int 0, .int 10006] ++ (Y.map fun y => y % 10007).map .int)) := fun _ _ => by
    rw [Ev.b_addl, Ev.szOk_t (by rw [List.length_cons, List.length_cons, List.length_nil]; omega)]
    rfl
  have vc : vars (.comp { N := ["_law_cell"], kd := [.local], gl := [], df := false } [] (.nm 0) (.val (.sl (.v 0) (some (.c (.int 2))) (some (.c (.int 8))))) [] (.bin .mod (.v 0) (.c (.int 10007)))) = [0] := rfl
  unfold sD
  generalize [D.int 0, .int 10006] ++ (Y.map fun y => y % 10007).map D.int = ZZ at *
  generalize (Y.map fun y => y % 10007).map D.int = W at *
  generalize Y.map D.int = Y' at *
  generalize ns.map D.int = N at *
  generalize fs.map D.str = S at *
  generalize fs.map row = R at *
  generalize fnd fs = Fd at *
  generalize tL = t at *
  simp -implicitDefEqProofs (disch := omega) only [ev0, Nat.reduceBEq, Nat.reduceSub, Nat.reduceAdd, reduceIte, e1, f1, cm, e2, ad, vc, e3', ei', g1, g2, se, en, lm]
theorem seg {cl : Nat → List D → Res D} {a b : List IS} {τ τ' : Ev} (h : evSs cl a τ = .ok (.nx τ')) : evSs cl (a ++ b) τ = evSs cl b τ' := by
  rw [ss_app, h]
  rfl
theorem holds (ns : List Int) (h : ns.length ≤ 63) : callF T (12 + 1) lawN [.lst false (ns.map .int)] = .ok (.bl true) := by
  rw [Ev.go (show T lawN = some d31 from rfl) (show d31.np = 1 from rfl) (show d31.G.N.length = 9 from rfl) (show d31.body = sA ++ (sT ++ (sB ++ (sC ++ sD))) from rfl) rfl]
  obtain ⟨x, fs, e1, hn, hl⟩ := begin_ok ns
  obtain ⟨y3, y4, e2⟩ := twice (some (.lst false (ns.map .int))) x fs hl
  obtain ⟨b, e3⟩ := made_ok (some (.lst false (ns.map .int))) (some (.int x)) y3 y4 fs hn hl
  have e4 := asked_ok (some (.lst false (ns.map .int))) (some (.int x)) y3 y4 b fs hn hl
  have e5 := end_ok ns h (some (.int x)) y3 y4 b fs hn hl
  have e6 : evSs (callF T 12) (sA ++ (sT ++ (sB ++ (sC ++ sD)))) [some (.lst false (ns.map .int)), none, none, none, none, none, none, none, none] = evSs (callF T 12) sD [some (.lst false (ns.map .int)), some (.int x), some (.lst b (fs.map .str)), y3, y4, some (.lst true (fs.map .str)), some (fnd fs), some (fnd fs), none] := by
    rw [seg e1, seg e2, seg e3, seg e4]
  rw [← e6] at e5
  exact e5
end Law
open PySem PySem.W PyProof.Rows
set_option maxRecDepth 100000 in
set_option maxHeartbeats 0 in
theorem PySem.Challenge.cw_flagroll_k07_allotments_begun_holds : PySem.Challenge.rw_flagroll_k07_allotments_begun.Holds := by
  w_on; o_law; k_head; (case hw => w_witness2)
  k_fill
  refine L2.law_walk (l := PySem.Challenge.rw_flagroll_k07_allotments_begun) (T := Law.T) (n := 12) (f := Law.lawN) (x := Law.lawX) rfl rfl ⟨fun _ => rfl, by decide, by decide⟩ (fun w h Y => PySem.W.kIn_of Y) ?F Law.holds
  case F =>
    intro w mg fa h KX G hmg
    refine' Law.all_mk KX G hmg ?a19 ?l19 ?e19 ?k19 ?a20 ?l20 ?e20 ?k20 ?a21 ?l21 ?e21 ?k21 ?a22 ?l22 ?e22 ?k22 ?a23 ?l23 ?e23 ?k23 ?a24 ?l24 ?e24 ?k24 ?a25 ?l25 ?e25 ?k25 ?a26 ?l26 ?e26 ?k26 ?a27 ?l27 ?e27 ?k27 ?a28 ?l28 ?e28 ?k28 ?a29 ?l29 ?e29 ?k29 ?a30 ?l30 ?e30 ?k30 ?a31 ?l31 ?e31 ?k31 ?q18 ?u32 ?u33 ?u34 ?u35 ?u36 ?u37 ?u38 ?u39 ?u40 ?u41 ?u42 ?u43 ?u44 ?u45 ?u47 ?u46 ?vn32 ?vg32 ?vo32 ?vc32 ?vb32 ?vj32 ?vi32 ?vx32 ?y32_33 ?y32_34 ?y32_32 ?y32_35 ?y32_36 ?y32_37 ?y32_38 ?y32_39 ?y32_40 ?y32_41 ?y32_42 ?y32_43 ?y32_44 ?y32_45 ?y32_46 ?m32_47 ?z0 ?z1 ?z2 ?z3 ?z4 ?z5 ?z6 ?z7 ?z8 ?z9 ?z10 ?z11 ?z12 ?z13 ?z14 ?z15 ?z16 ?z17
    (case a19 => k_is)
    (case l19 => k_is)
    (case e19 => k_is)
    (case k19 => k_is)
    (case a20 => k_is)
    (case l20 => k_is)
    (case e20 => k_is)
    (case k20 => k_is)
    (case a21 => k_is)
    (case l21 => k_is)
    (case e21 => k_is)
    (case k21 => k_is)
    (case a22 => k_is)
    (case l22 => k_is)
    (case e22 => k_is)
    (case k22 => k_is)
    (case a23 => k_is)
    (case l23 => k_is)
    (case e23 => k_is)
    (case k23 => k_is)
    (case a24 => k_is)
    (case l24 => k_is)
    (case e24 => k_is)
    (case k24 => k_is)
    (case a25 => k_is)
    (case l25 => k_is)
    (case e25 => k_is)
    (case k25 => k_is)
    (case a26 => k_is)
    (case l26 => k_is)
    (case e26 => k_is)
    (case k26 => k_is)
    (case a27 => k_is)
    (case l27 => k_is)
    (case e27 => k_is)
    (case k27 => k_is)
    (case a28 => k_is)
    (case l28 => k_is)
    (case e28 => k_is)
    (case k28 => k_is)
    (case a29 => k_is)
    (case l29 => k_is)
    (case e29 => k_is)
    (case k29 => k_is)
    (case a30 => k_is)
    (case l30 => k_is)
    (case e30 => k_is)
    (case k30 => k_is)
    (case a31 => k_is)
    (case l31 => k_is)
    (case e31 => k_is)
    (case k31 => k_is)
    (case q18 => k_is)
    (case u32 => k_is)
    (case u33 => k_is)
    (case u34 => k_is)
    (case u35 => k_is)
    (case u36 => k_is)
    (case u37 => k_is)
    (case u38 => k_is)
    (case u39 => k_is)
    (case u40 => k_is)
    (case u41 => k_is)
    (case u42 => k_is)
    (case u43 => k_is)
    (case u44 => k_is)
    (case u45 => k_is)
    (case u47 => k_is)
    (case u46 => k_is)
    (case vn32 => kernel_rfl)
    (case vg32 => kernel_rfl)
    (case vo32 => kernel_rfl)
    (case vc32 => kernel_rfl)
    (case vb32 => kernel_rfl)
    (case vj32 => kernel_rfl)
    (case vi32 => kernel_rfl)
    (case vx32 => kernel_rfl)
    (case y32_33 => kernel_rfl)
    (case y32_34 => kernel_rfl)
    (case y32_32 => kernel_rfl)
    (case y32_35 => kernel_rfl)
    (case y32_36 => kernel_rfl)
    (case y32_37 => kernel_rfl)
    (case y32_38 => kernel_rfl)
    (case y32_39 => kernel_rfl)
    (case y32_40 => kernel_rfl)
    (case y32_41 => kernel_rfl)
    (case y32_42 => kernel_rfl)
    (case y32_43 => kernel_rfl)
    (case y32_44 => kernel_rfl)
    (case y32_45 => kernel_rfl)
    (case y32_46 => kernel_rfl)
    (case m32_47 => kernel_rfl)
    (case z0 => k_is)
    (case z1 => k_is)
    (case z2 => k_is)
    (case z3 => k_is)
    (case z4 => k_is)
    (case z5 => k_is)
    (case z6 => k_is)
    (case z7 => k_is)
    (case z8 => k_is)
    (case z9 => k_is)
    (case z10 => k_is)
    (case z11 => k_is)
    (case z12 => k_is)
    (case z13 => k_is)
    (case z14 => k_is)
    (case z15 => k_is)
    (case z16 => k_is)
    (case z17 => k_is)
#print axioms PySem.Challenge.cw_flagroll_k07_allotments_begun_holds
