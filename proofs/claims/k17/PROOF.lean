import PyProof.Rows.All
import Wide.All
import OpenK.AllK
import Wide.FinOn
import Lean
import PyProof.EqAt
import PyProof.EqKinds
import PyProof.TupleCall
import PyProof.NeKinds
import KE.KRevIter
import KE.KSortTup
import Wide.Txt2
import KE.KIntText
import PyProof.StrLawsTight
import PyProof.StrLawsChain
import PyProof.Rows.StrClose
import PyProof.Rows.StrItems
import PySem.Challenge.RW_flagroll_k17_shown_and_read
set_option maxHeartbeats 8000000
set_option Elab.async false
set_option linter.all false
set_option maxRecDepth 100000
namespace L2
open PySem PySem.Spec PyProof.Rows
noncomputable abbrev Key := Sum Int Str
noncomputable def keyIs : Key → Value → Bool
  | .inl k, v => Value.isInt k v
  | .inr x, v => Value.isStrOf x v
noncomputable def keyH (w : World) : Key → Int
  | .inl k => hashInt k
  | .inr x => hashStr w x
theorem keyIs_shape : ∀ {k : Key} {v : Value}, keyIs k v = true → (∃ i t, k = Sum.inl i ∧ v = Value.int i t) ∨ (∃ x t, k = Sum.inr x ∧ v = Value.str x t)
  | .inl i, v, h => by
    obtain ⟨t, e⟩ := Value.isInt_shape (k := i) (v := v) h
    exact .inl ⟨i, t, rfl, e⟩
  | .inr x, v, h => by
    obtain ⟨t, e⟩ := Value.isStrOf_shape (x := x) (v := v) h
    exact .inr ⟨x, t, rfl, e⟩
theorem key_ll (a b : Int) : decide ((Sum.inl a : Key) = Sum.inl b) = (a == b) := by
  by_cases e : a = b
  · subst e; simp
  · have h : ¬ (Sum.inl a : Key) = Sum.inl b := fun q => e (Sum.inl.inj q)
    rw [decide_eq_false h]
    exact (beq_eq_false_iff_ne.mpr e).symm
theorem key_rr (a b : Str) : decide ((Sum.inr a : Key) = Sum.inr b) = decide (a = b) := by
  by_cases e : a = b
  · subst e; simp
  · have h : ¬ (Sum.inr a : Key) = Sum.inr b := fun q => e (Sum.inr.inj q)
    rw [decide_eq_false h, decide_eq_false e]
theorem key_lr (a : Int) (b : Str) : decide ((Sum.inl a : Key) = Sum.inr b) = false := decide_eq_false (fun q => nomatch q)
theorem key_rl (a : Str) (b : Int) : decide ((Sum.inr a : Key) = Sum.inl b) = false := decide_eq_false (fun q => nomatch q)
noncomputable def mixKind (prog : Program) (w : World) : PySem.KeyKind prog w Key where
  is := keyIs
  hash := keyH w
  inj := fun v a b ha hb => by
    rcases keyIs_shape ha with ⟨i, t, rfl, rfl⟩ | ⟨x, t, rfl, rfl⟩
    · rcases keyIs_shape hb with ⟨j, u, rfl, e⟩ | ⟨y, u, rfl, e⟩
      · injection e with e1 _; rw [e1]
      · exact nomatch e
    · rcases keyIs_shape hb with ⟨j, u, rfl, e⟩ | ⟨y, u, rfl, e⟩
      · exact nomatch e
      · injection e with e1 _; rw [e1]
  byValue := fun k v h => by
    rcases keyIs_shape h with ⟨i, t, rfl, rfl⟩ | ⟨x, t, rfl, rfl⟩ <;> rfl
  pyHash := fun hv h => by
    rcases keyIs_shape hv with ⟨i, t, rfl, rfl⟩ | ⟨x, t, rfl, rfl⟩
    · exact wpAny_pyHash_int h
    · exact wpAny_pyHash_str h
  eqBool := fun hu hv h => by
    rcases keyIs_shape hu with ⟨i, t, rfl, rfl⟩ | ⟨x, t, rfl, rfl⟩
    · rcases keyIs_shape hv with ⟨j, u, rfl, rfl⟩ | ⟨y, u, rfl, rfl⟩
      · rw [key_ll] at h; exact wpAny_eqBool_int h
      · rw [key_lr] at h; exact SeqAt.EqAt.int_str i t y u _ _ _ _ h
    · rcases keyIs_shape hv with ⟨j, u, rfl, rfl⟩ | ⟨y, u, rfl, rfl⟩
      · rw [key_rl] at h; exact SeqAt.EqAt.str_int x t j u _ _ _ _ h
      · rw [key_rr] at h; exact wpAny_eqBool_str h
  «strs» := fun k x t v h => by
    rcases keyIs_shape h with ⟨i, u, rfl, e⟩ | ⟨y, u, rfl, e⟩
    · exact nomatch e
    · injection e with e1 _
      subst e1
      cases v <;> rfl
end L2
namespace L2
open PySem PySem.Spec PyProof.Rows
inductive V where
  | non | bl (b : Bool) | int (i : Int) | str (x : Str) | byt (b : Array UInt8) | flt (b : UInt64) | ref (a : Addr) | ty (n : String)
  deriving DecidableEq
noncomputable def RelV : V → Value → Prop
  | .non, u => u = Value.none
  | .bl b, u => u = Value.bool b
  | .int i, u => ∃ t, u = Value.int i t
  | .str x, u => ∃ t, u = Value.str x t
  | .byt b, u => ∃ t, u = Value.bytes b t
  | .flt b, u => ∃ t, u = Value.float b t
  | .ref a, u => u = Value.ref a
  | .ty n, u => u = Value.type n
noncomputable abbrev Vals : List V → List Value → Prop := Paired RelV
theorem Vals.length {xs : List V} {us : List Value} (r : Vals xs us) : xs.length = us.length := Paired.length r
theorem Vals.get : ∀ {xs : List V} {us : List Value} {i : Nat} {x : V}, Vals xs us → xs[i]? = some x → ∃ u, us[i]? = some u ∧ RelV x u
  | _, _, _, _, .nil, e => by simp at e
  | _, _, 0, _, .cons r _, e => by simp at e; subst e; exact ⟨_, rfl, r⟩
  | _, _, i + 1, x, .cons _ t, e => by
    obtain ⟨u, h1, h2⟩ := Vals.get (i := i) (x := x) t (by simpa using e)
    exact ⟨u, by simpa using h1, h2⟩
theorem Vals.set {x : V} {u : Value} (r : RelV x u) : ∀ {xs : List V} {us : List Value} (i : Nat), Vals xs us → Vals (xs.set i x) (us.set i u)
  | _, _, _, .nil => .nil
  | _, _, 0, .cons _ t => .cons r t
  | _, _, i + 1, .cons q t => .cons q (Vals.set r i t)
theorem Vals.append : ∀ {xs ys : List V} {us ws : List Value}, Vals xs us → Vals ys ws → Vals (xs ++ ys) (us ++ ws)
  | _, _, _, _, .nil, s => s
  | _, _, _, _, .cons r t, s => .cons r (Vals.append t s)
theorem Vals.take : ∀ {xs : List V} {us : List Value} (n : Nat), Vals xs us → Vals (xs.take n) (us.take n)
  | _, _, 0, _ => .nil
  | _, _, _ + 1, .nil => .nil
  | _, _, n + 1, .cons r t => .cons r (Vals.take n t)
theorem Vals.drop : ∀ {xs : List V} {us : List Value} (n : Nat), Vals xs us → Vals (xs.drop n) (us.drop n)
  | _, _, 0, r => r
  | _, _, _ + 1, .nil => .nil
  | _, _, n + 1, .cons _ t => Vals.drop n t
noncomputable def RelO : Option V → Option Value → Prop
  | some v, some u => RelV v u
  | none, none => True
  | _, _ => False
noncomputable def KV {κ : Type} : List (κ × V) → List (κ × Value) → Prop := Paired fun (p : κ × V) (q : κ × Value) => p.1 = q.1 ∧ RelV p.2 q.2
noncomputable def kV : Key → V
  | .inl i => .int i
  | .inr x => .str x
inductive HO where
    | lst (xs : List V)
    | tup (xs : List V)
    | dK (kvs : List (Key × V)) | dT (kvs : List (List Key × V))
    | set (S : Int → Bool) (n : Nat)
    | ins (C dx : Addr) (fs : List (Str × V))
    | own (x : Addr)
    | xd (fs : List (Str × V))
    | met (f x : Addr)
    | rng (lo hi : Int)
    | frz (o : Obj) (u : HO)
    | tbl (ps : Array Value)
    | ext (φ : Heap → Prop)
noncomputable abbrev Hp := Addr → Option HO
noncomputable def upd (H : Hp) (a : Addr) (o : HO) : Hp := fun b => if b = a then some o else H b
theorem upd_same {H : Hp} {a : Addr} {o : HO} : upd H a o a = some o := by unfold upd; rw [if_pos rfl]
theorem upd_ne {H : Hp} {a b : Addr} {o : HO} (h : b ≠ a) : upd H a o b = H b := by unfold upd; rw [if_neg h]
theorem ne_of_none {H : Hp} {a b : Addr} {o : HO} (h : H a = some o) (h' : H b = none) : a ≠ b := by
  intro e; subst e; rw [h] at h'; cases h'
section
variable (P : Program) (w : World)
noncomputable def ObjOk (H : Hp) (h : Heap) (a : Addr) : HO → Prop
  | .lst xs => xs.length ≤ sizeLine ∧ ∃ (its : List Value) (n : Nat), Vals xs its ∧ h.get? a = some { cls := .type "list", data := .seq its.toArray n }
  | .tup xs => xs.length ≤ sizeLine ∧ ∃ its : List Value, Vals xs its ∧ IsTup h a its.toArray
  | .dK kvs => kvs.length ≤ sizeLine ∧ (a == sysModules) = false ∧ ∃ vs, KV kvs vs ∧ h.DictOf (mixKind P w) a vs
  | .dT kvs => kvs.length ≤ sizeLine ∧ (a == sysModules) = false ∧ ∃ xs : List (List Key × Addr × Value),
      Paired (fun (p : List Key × V) (q : List Key × Addr × Value) => p.1 = q.1 ∧ H q.2.1 = some (.tup (p.1.map kV)) ∧ RelV p.2 q.2.2) kvs xs ∧
      ∃ o es ep, h.get? a = some o ∧ o.ExactDict ∧ o.data = .dict es ep ∧ es.toList = xs.map (entryOfKey (tupleKind (mixKind P w))) ∧ (xs.map (·.1)).Nodup
  | .set S n => h.SetOf (intKind P w) a S n
  | .ins C dx fs => H dx = some (.own a) ∧ fs.length ≤ 1000 ∧ dx ≠ a ∧ h.get? a = some (PySem.W.instObj C dx) ∧
      ∃ mA, h.Ns1 dx mA ∧ (∀ f, RelO (fs.lookup f) (mA f)) ∧ PySem.Within mA (fs.map (·.1))
  | .own _ => ∃ o, h.get? a = some o
  | .xd fs => ∃ mA, h.Ns1 a mA ∧ ∀ f, RelO (fs.lookup f) (mA f)
  | .rng lo hi => ∃ t u v, h.get? a = some { cls := .type "range", data := .fields #[.int lo t, .int hi u, .int 1 v] }
  | .frz o u => h.get? a = some o ∧ ObjOk H h a u
  | .tbl ps => h.get? a = some { cls := .none, data := .fields ps }
  | .met f x => h.get? a = some (PySem.W.methodObj (.ref f) (.ref x))
  | .ext φ => φ h ∧ (∃ o, h.get? a = some o) ∧ ∀ h1 h2 : Heap, φ h1 → (∀ o, h1.get? a = some o → h2.get? a = some o) → φ h2
noncomputable def HOk (H : Hp) (h : Heap) : Prop := ∀ a o, H a = some o → ObjOk P w H h a o
end
section
variable {P : Program} {w : World} {H H' : Hp} {h h' : Heap} {a : Addr} {o : HO}
theorem ObjOk.lt (x : ObjOk P w H h a o) : a < h.objs.size := by
  cases o with
  | lst xs => obtain ⟨_, _, _, _, e⟩ := x; exact Heap.lt_size e
  | tup xs => obtain ⟨_, _, _, p⟩ := x; exact p.lt
  | dK kvs => obtain ⟨_, _, _, _, o, _, _, e, _⟩ := x; exact Heap.lt_size e
  | dT kvs => obtain ⟨_, _, _, _, o, _, _, e, _⟩ := x; exact Heap.lt_size e
  | set S n => obtain ⟨o, _, _, _, e, _⟩ := x; exact Heap.lt_size e
  | ins C dx fs => obtain ⟨_, _, _, e, _⟩ := x; exact Heap.lt_size e
  | own y => obtain ⟨_, e⟩ := x; exact Heap.lt_size e
  | xd fs => obtain ⟨_, ⟨_, _, _, e, _⟩, _⟩ := x; exact Heap.lt_size e
  | rng lo hi => obtain ⟨_, _, _, e⟩ := x; exact Heap.lt_size e
  | frz ob u => obtain ⟨e, _⟩ := x; exact Heap.lt_size e
  | tbl ps => exact Heap.lt_size (show h.get? a = some _ from x)
  | met f y => exact Heap.lt_size (show h.get? a = some _ from x)
  | ext φ => obtain ⟨_, ⟨_, e⟩, _⟩ := x; exact Heap.lt_size e
theorem Paired.mapP {α β : Type} {F G : α → β → Prop} : ∀ {l₁ : List α} {l₂ : List β}, Paired F l₁ l₂ → (∀ a b, F a b → G a b) → Paired G l₁ l₂
  | _, _, .nil, _ => .nil
  | _, _, .cons r t, f => .cons (f _ _ r) (Paired.mapP t f)
theorem ObjOk.stay (x : ObjOk P w H h a o) (k : ∀ b u, (b = a ∨ H b = some (.own a)) → h.get? b = some u → h'.get? b = some u)
    (ho : ∀ b, H b = some (.own a) → H' b = some (.own a)) (ht : ∀ b xs, H b = some (.tup xs) → H' b = some (.tup xs)) : ObjOk P w H' h' a o := by
  induction o with
  | lst xs => obtain ⟨z, its, n, r, e⟩ := x; exact ⟨z, its, n, r, k _ _ (.inl rfl) e⟩
  | tup xs => obtain ⟨z, its, r, ob, e, c⟩ := x; exact ⟨z, its, r, ob, k _ _ (.inl rfl) e, c⟩
  | dK kvs => obtain ⟨z, y, vs, r, ob, es, ep, e, c⟩ := x; exact ⟨z, y, vs, r, ob, es, ep, k _ _ (.inl rfl) e, c⟩
  | dT kvs =>
    obtain ⟨z, y, xs, r, ob, es, ep, e, c⟩ := x
    exact ⟨z, y, xs, Paired.mapP r fun p q z => ⟨z.1, ht _ _ z.2.1, z.2.2⟩, ob, es, ep, k _ _ (.inl rfl) e, c⟩
  | set S n => obtain ⟨ob, es, ep, t, e, c⟩ := x; exact ⟨ob, es, ep, t, k _ _ (.inl rfl) e, c⟩
  | ins C dx fs =>
    obtain ⟨d, z, ne, e, mA, ⟨od, es, ep, e2, c⟩, r⟩ := x
    exact ⟨ho _ d, z, ne, k _ _ (.inl rfl) e, mA, ⟨od, es, ep, k _ _ (.inr d) e2, c⟩, r⟩
  | own y => obtain ⟨ob, e⟩ := x; exact ⟨ob, k _ _ (.inl rfl) e⟩
  | xd fs => obtain ⟨mA, ⟨od, es, ep, e, c⟩, r⟩ := x; exact ⟨mA, ⟨od, es, ep, k _ _ (.inl rfl) e, c⟩, r⟩
  | rng lo hi => obtain ⟨t, u, v, e⟩ := x; exact ⟨t, u, v, k _ _ (.inl rfl) e⟩
  | frz ob u ih => obtain ⟨e, q⟩ := x; exact ⟨k _ _ (.inl rfl) e, ih q⟩
  | tbl ps =>
    have e : h.get? a = some { cls := .none, data := .fields ps } := x
    show h'.get? a = some { cls := .none, data := .fields ps }
    exact k a _ (.inl rfl) e
  | met f y =>
    have e : h.get? a = some (PySem.W.methodObj (.ref f) (.ref y)) := x
    show h'.get? a = some (PySem.W.methodObj (.ref f) (.ref y))
    exact k a _ (.inl rfl) e
  | ext φ => obtain ⟨p, ⟨o, e⟩, st⟩ := x; exact ⟨st _ _ p fun o q => k _ _ (.inl rfl) q, ⟨o, k _ _ (.inl rfl) e⟩, st⟩
theorem HOk.lt (x : HOk P w H h) (e : H a = some o) : a < h.objs.size := (x a o e).lt
theorem HOk.fresh (x : HOk P w H h) (e : h.objs.size ≤ a) : H a = none := by
  cases q : H a with
  | none => rfl
  | some u => exact absurd (Nat.lt_of_lt_of_le (x.lt q) e) (Nat.lt_irrefl _)
theorem HOk.kept (x : HOk P w H h) (k : ∀ b u, h.get? b = some u → h'.get? b = some u) : HOk P w H h' := fun a o e =>
  (x a o e).stay (fun b u _ q => k b u q) (fun _ q => q) fun _ _ q => q
theorem HOk.laid (x : HOk P w H h) (k : ∀ b u, h.get? b = some u → h'.get? b = some u) (hp : h.objs.size ≤ a) (new : ObjOk P w (upd H a o) h' a o) : HOk P w (upd H a o) h' := fun b u e => by
  have hn := x.fresh hp
  by_cases hb : b = a
  · subst hb; rw [upd_same] at e; cases e; exact new
  · rw [upd_ne hb] at e
    exact (x b u e).stay (fun c v _ q => k c v q) (fun c q => by rw [upd_ne (ne_of_none q hn)]; exact q) fun c xs q => by rw [upd_ne (ne_of_none q hn)]; exact q
end
noncomputable def Rd (H : Hp) (a : Addr) (u : HO) : Prop := H a = some u ∨ ∃ o, H a = some (.frz o u)
theorem Rd.of {H : Hp} {a : Addr} {u : HO} (h : H a = some u) : Rd H a u := .inl h
theorem Rd.ok {P : Program} {w : World} {H : Hp} {h : Heap} {a : Addr} {u : HO} (r : Rd H a u) (x : HOk P w H h) : ObjOk P w H h a u := by
  rcases r with r | ⟨o, r⟩
  · exact x a u r
  · obtain ⟨_, q⟩ := x a _ r
    exact q
noncomputable def Mut : Option HO → Prop
  | some (.lst _) => True
  | some (.dK _) => True
  | some (.dT _) => True
  | some (.set _ _) => True
  | some (.ins _ _ _) => True
  | some (.ext _) => True
  | _ => False
section
variable {P : Program} {w : World} {H : Hp} {h h' : Heap} {x e : Addr} {o' : HO}
theorem HOk.write (ok : HOk P w H h) (mu : Mut (H x)) (he : e = x ∨ H e = some (.own x)) (k : ∀ b u, b ≠ e → h.get? b = some u → h'.get? b = some u) (heo : ∃ u, h'.get? e = some u)
    (new : ObjOk P w (upd H x o') h' x o') : HOk P w (upd H x o') h' := fun b u q => by
  have nown : ∀ c y, H c = some (.own y) → c ≠ x := fun c y r z => by subst z; rw [r] at mu; exact mu
  have ntup : ∀ c xs, H c = some (.tup xs) → c ≠ x := fun c xs r z => by subst z; rw [r] at mu; exact mu
  by_cases hb : b = x
  · subst hb; rw [upd_same] at q; cases q; exact new
  · rw [upd_ne hb] at q
    by_cases hbe : b = e
    · have q' : H b = some (.own x) := by
        rcases he with z | z
        · exact absurd (hbe.trans z) hb
        · rw [hbe]; exact z
      rw [q] at q'; cases q'
      obtain ⟨v, hv⟩ := heo
      exact ⟨v, by rw [hbe]; exact hv⟩
    · refine (ok b u q).stay (fun c v hc r => k c v ?_ r) (fun c r => by rw [upd_ne (nown c b r)]; exact r) fun c xs r => by rw [upd_ne (ntup c xs r)]; exact r
      rcases hc with rfl | hc
      · exact hbe
      · rintro rfl
        rcases he with z | z
        · exact nown c b hc z
        · rw [hc] at z; cases z; exact hb rfl
end
structure Un (fs ex : List Addr) (H H' : Hp) (h h' : Heap) : Prop where
  keep : ∀ b o, h.get? b = some o → H b = none → b ∉ fs → b ∉ ex → h'.get? b = some o
  slot : ∀ b o, h.get? b = some o → H b = none → b ∈ fs → b ∉ ex → ∃ sl, h'.get? b = some { o with slots := sl }
  free : ∀ b o, h.get? b = some o → H b = none → b ∉ ex → H' b = none
  there : ∀ b o, h.get? b = some o → b ∉ ex → ∃ o', h'.get? b = some o'
  tups : ∀ b xs, H b = some (.tup xs) → H' b = some (.tup xs)
  frzs : ∀ b o u, H b = some (.frz o u) → H' b = some (.frz o u)
  tbls : ∀ b ps, H b = some (.tbl ps) → ∃ more, H' b = some (.tbl (ps ++ more))
section
variable {fs fs' ex ex' : List Addr} {H H1 H2 : Hp} {h h1 h2 h' : Heap} {a x e : Addr} {o : HO}
theorem Un.any (u : Un fs ex H H1 h h1) {b : Addr} {ob : Obj} (q : h.get? b = some ob) (n : H b = none) (hx : b ∉ ex) : ∃ sl, h1.get? b = some { ob with slots := sl } := by
  by_cases hb : b ∈ fs
  · exact u.slot b ob q n hb hx
  · exact ⟨ob.slots, u.keep b ob q n hb hx⟩
theorem Un.trans (a : Un fs ex H H1 h h1) (b : Un fs ex H1 H2 h1 h2) : Un fs ex H H2 h h2 where
  keep := fun c ob q n hc hx => b.keep c ob (a.keep c ob q n hc hx) (a.free c ob q n hx) hc hx
  slot := fun c ob q n hc hx => by
    obtain ⟨sl, e1⟩ := a.slot c ob q n hc hx
    obtain ⟨sl', e2⟩ := b.slot c _ e1 (a.free c ob q n hx) hc hx
    exact ⟨sl', e2⟩
  free := fun c ob q n hx => by
    obtain ⟨o', e1⟩ := a.there c ob q hx
    exact b.free c o' e1 (a.free c ob q n hx) hx
  there := fun c ob q hx => by
    obtain ⟨o', e1⟩ := a.there c ob q hx
    exact b.there c o' e1 hx
  tups := fun c xs q => b.tups c xs (a.tups c xs q)
  frzs := fun c ob xs q => b.frzs c ob xs (a.frzs c ob xs q)
  tbls := fun c ps q => by
    obtain ⟨m1, e1⟩ := a.tbls c ps q
    obtain ⟨m2, e2⟩ := b.tbls c _ e1
    exact ⟨m1 ++ m2, by rw [e2, Array.append_assoc]⟩
theorem Un.kept (k : ∀ b u, h.get? b = some u → h'.get? b = some u) : Un fs ex H H h h' :=
  ⟨fun b ob q _ _ _ => k b ob q, fun b ob q _ _ _ => ⟨ob.slots, k b ob q⟩, fun _ _ _ n _ => n, fun b ob q _ => ⟨ob, k b ob q⟩, fun _ _ q => q, fun _ _ _ q => q, fun _ ps q => ⟨#[], by rw [q]; simp⟩⟩
theorem Un.refl : Un fs ex H H h h := Un.kept fun _ _ q => q
theorem Un.laid (k : ∀ b u, h.get? b = some u → h'.get? b = some u) (hp : h.objs.size ≤ a) (hn : H a = none) : Un fs ex H (upd H a o) h h' where
  keep := fun b u q _ _ _ => k b u q
  slot := fun b u q _ _ _ => ⟨u.slots, k b u q⟩
  free := fun b u q n _ => by rw [upd_ne (Nat.ne_of_lt (Nat.lt_of_lt_of_le (Heap.lt_size q) hp))]; exact n
  there := fun b u q _ => ⟨u, k b u q⟩
  tups := fun b xs q => by rw [upd_ne (ne_of_none q hn)]; exact q
  frzs := fun b u xs q => by rw [upd_ne (ne_of_none q hn)]; exact q
  tbls := fun b ps q => ⟨#[], by rw [upd_ne (ne_of_none q hn), q]; simp⟩
theorem Un.write (mu : Mut (H x)) (he : e = x ∨ H e = some (.own x)) (k : ∀ b u, b ≠ e → h.get? b = some u → h'.get? b = some u) (heo : ∃ u, h'.get? e = some u) : Un fs ex H (upd H x o) h h' := by
  have hx : ∀ b, H b = none → b ≠ x := fun b n z => by subst z; rw [n] at mu; exact mu
  have hb : ∀ b, H b = none → b ≠ e := fun b n z => by
    subst z
    rcases he with r | r
    · exact hx b n r
    · rw [n] at r; cases r
  have hm : ∀ b u, H b = some u → ¬ Mut (some u) → b ≠ x := fun b u q nm z => by subst z; rw [q] at mu; exact nm mu
  refine ⟨fun b u q n _ _ => k b u (hb b n) q, fun b u q n _ _ => ⟨u.slots, k b u (hb b n) q⟩, fun b u q n _ => by rw [upd_ne (hx b n)]; exact n, fun b u q _ => ?_,
    fun b xs q => by rw [upd_ne (hm b _ q fun z => z)]; exact q, fun b u xs q => by rw [upd_ne (hm b _ q fun z => z)]; exact q, fun b ps q => ⟨#[], by rw [upd_ne (hm b _ q fun z => z), q]; simp⟩⟩
  by_cases hbe : b = e
  · subst hbe; exact heo
  · exact ⟨u, k b u hbe q⟩
theorem Un.mono (u : Un fs ex H H1 h h1) (hs : ∀ b ∈ fs, b ∈ fs') (hx : ∀ b ∈ ex, b ∈ ex') : Un fs' ex' H H1 h h1 :=
  ⟨fun b ob q n hb he => u.keep b ob q n (fun z => hb (hs b z)) fun z => he (hx b z), fun _ _ q n _ he => u.any q n fun z => he (hx _ z), fun b ob q n he => u.free b ob q n fun z => he (hx b z), fun b ob q he => u.there b ob q fun z => he (hx b z), u.tups, u.frzs, u.tbls⟩
end
noncomputable def trk (h : Heap) (H : Hp) : List Addr := (List.range h.objs.size).filter fun a => (H a).isSome
noncomputable def hidT (h : Heap) (H : Hp) : Heap := PySem.W.hideAll h (trk h H)
theorem hidT_size (h : Heap) (H : Hp) : (hidT h H).objs.size = h.objs.size := PySem.W.hideAll_size _ _
theorem hidT_get {h : Heap} {H : Hp} {b : Addr} {o : Obj} (e : h.get? b = some o) (n : H b = none) : (hidT h H).get? b = some o :=
  PySem.W.hideAll_get _ e fun hm => by
    have q : (H b).isSome = true := (List.mem_filter.mp hm).2
    rw [n] at q; simp at q
theorem of_hidT {h : Heap} {H : Hp} {b : Addr} {o : Obj} (e : (hidT h H).get? b = some o) : h.get? b = some o ∧ H b = none := by
  have e' : h.get? b = some o := PySem.W.of_hideAll (trk h H) e
  refine ⟨e', ?_⟩
  cases q : H b with
  | none => rfl
  | some x =>
    have hm : b ∈ trk h H := List.mem_filter.mpr ⟨List.mem_range.mpr (Heap.lt_size e'), by simp [q]⟩
    have z : (hidT h H).get? b = none := PySem.W.hideAll_none (trk h H) hm
    rw [z] at e; cases e
noncomputable def allNews (g h : Heap) (L : Addr) : List (Addr × Obj) := (List.range h.objs.size).filterMap fun a => if a = L ∨ (g.get? a).isSome = true then none else (h.get? a).map fun o => (a, o)
noncomputable def rest (g h : Heap) (L d : Addr) : List (Addr × Obj) := (allNews g h L).filter fun p => decide (p.1 ≠ d)
end L2
namespace L2
open PySem PySem.Spec PyProof.Rows
structure Mod (K : PySem.W.Frag) (mg : Str → Option Value) (base : Heap) : Prop where
  kin : K.In base
  glob : base.Ns mainGlobals mg
  blt : ∃ mb, base.Ns builtinsNs mb ∧ ∀ x : Str, x ≠ "__name__" → mb x = bootBuiltins x
  nolimit : base.NoLimit
structure Cx where
  prog : Program
  w : World
  K : PySem.W.Frag
  mg : Str → Option Value
  base : Heap
  A : Around
  N : List Str
  s₀ : Shared
  H₀ : Hp
  env : Env
  outer : List Env
  stack : List Env
  ex : List Addr
  fn : Str → Bool
  calm : Bool
  pn : List (Addr × Obj)
  xe : Value → Shared → Prop
noncomputable def frs (l : List Env) : List Addr := l.filterMap (·.frame)
noncomputable abbrev Cx.fs (X : Cx) : List Addr := frs X.outer
noncomputable def Vis (sc : Scope) (x : Str) : Prop := sc.names.lookup x = some .local ∨ sc.names.lookup x = some .cell ∨ sc.names.lookup x = some .free
noncomputable def Loc (sc : Scope) (x : Str) : Prop := sc.names.lookup x = some .local ∨ sc.names.lookup x = some .cell
noncomputable def Look (env : Env) (h : Heap) (m : Str → Option Value) (x : Str) (u : Value) : Prop :=
  (env.kindOf x = some .local ∧ m x = some u) ∨ ((env.kindOf x = some .cell ∨ env.kindOf x = some .free) ∧ ∃ c, env.cells.lookup x = some c ∧ h.IsCell c (some u))
structure Cx.Ok (X : Cx) : Prop where
  mod : Mod X.K X.mg X.base
  kind : X.env.scope.kind = .function
  glob : X.env.globals = mainGlobals
  blt : X.env.builtins = builtinsNs
  above : X.s₀.heap.objs.size ≤ X.env.locals
  inj : ∀ x y c, X.env.cells.lookup x = some c → X.env.cells.lookup y = some c → x = y
  has : ∀ x, (X.env.kindOf x = some .cell ∨ X.env.kindOf x = some .free) → ∃ c, X.env.cells.lookup x = some c
  cab : ∀ x c, X.fn x = true → X.env.cells.lookup x = some c → X.s₀.heap.objs.size ≤ c
  hd : X.calm = true → X.A.handled = none
  frames : X.A.frames = some X.stack
  stk : X.stack = X.outer ∨ (X.stack = X.env :: X.outer ∧ X.env.frame = some X.env.locals)
  exf : ∀ b ∈ X.ex, b ≠ X.env.locals ∧ ∀ x c, X.env.cells.lookup x = some c → c ≠ b
  bs : ∀ b o, X.base.get? b = some o → X.s₀.heap.get? b = some o ∧ X.H₀ b = none
  bsz : X.base.objs.size ≤ X.s₀.heap.objs.size
  noex : ∀ b o, X.base.get? b = some o → b ∉ X.ex
  exfs : ∀ b ∈ X.ex, b ∉ X.fs
  funs : X.s₀.heap.FunFrames X.base X.outer
  frf : ∀ b ∈ X.fs, X.H₀ b = none
structure Inv (X : Cx) (pins : List (Addr × Obj)) (σ : List (Option V)) (H : Hp) (s : Shared) : Prop where
  ok : X.Ok
  os : s.os = X.s₀.os
  bare : AllBare s.gens
  base : Un X.fs X.ex X.H₀ H X.s₀.heap s.heap
  loc : ∃ m, s.heap.Ns X.env.locals m ∧ ∀ (i : Nat) (x : Str) (v : V), X.N[i]? = some x → σ[i]? = some (some v) → Vis X.env.scope x → ∃ u, RelV v u ∧ Look X.env s.heap m x u
  cell : ∀ x c, X.env.cells.lookup x = some c → ∃ v, s.heap.IsCell c v
  free : H X.env.locals = none
  freeC : ∀ x c, X.env.cells.lookup x = some c → H c = none
  pin : ∀ p ∈ X.pn ++ pins, s.heap.get? p.1 = some p.2 ∧ H p.1 = none ∧ p.1 ≠ X.env.locals ∧ p.1 ∉ X.fs ∧ ∀ v, p.2.data ≠ .cell v
  hok : HOk X.prog X.w H s.heap
  len : σ.length = X.N.length
section
variable {X : Cx} {pins : List (Addr × Obj)} {σ : List (Option V)} {H H' : Hp} {s : Shared} {h' : Heap}
theorem Cx.Ok.nofr (ok : X.Ok) {b : Addr} {o : Obj} (e : X.base.get? b = some o) : b ∉ X.fs := fun hb => by
  have := (ok.funs.mem hb).1
  rw [e] at this; cases this
theorem Inv.bs (I : Inv X pins σ H s) : ∀ b o, X.base.get? b = some o → s.heap.get? b = some o ∧ H b = none := fun b o e =>
  ⟨I.base.keep b o (I.ok.bs b o e).1 (I.ok.bs b o e).2 (I.ok.nofr e) (I.ok.noex b o e), I.base.free b o (I.ok.bs b o e).1 (I.ok.bs b o e).2 (I.ok.noex b o e)⟩
theorem Inv.bk (I : Inv X pins σ H s) : ∀ b o, X.base.get? b = some o → s.heap.get? b = some o := fun b o e => (I.bs b o e).1
theorem Inv.mod (I : Inv X pins σ H s) : Mod X.K X.mg X.base := I.ok.mod
theorem Inv.kIn (I : Inv X pins σ H s) : X.K.In s.heap := I.ok.mod.kin.keeps I.bk
theorem Inv.nolimit (I : Inv X pins σ H s) : s.heap.NoLimit := I.ok.mod.nolimit.keeps I.bk
theorem Inv.fr (I : Inv X pins σ H s) : ∃ m, Fr X.base X.env.locals s.heap m :=
  let ⟨m, hn, _⟩ := I.loc
  ⟨m, hn, I.bk, Nat.le_trans I.ok.bsz I.ok.above⟩
theorem Inv.lt (I : Inv X pins σ H s) : X.env.locals < s.heap.objs.size := let ⟨_, hn, _⟩ := I.loc; hn.lt
theorem Inv.sz (I : Inv X pins σ H s) : X.s₀.heap.objs.size ≤ s.heap.objs.size := Nat.le_trans I.ok.above (Nat.le_of_lt I.lt)
theorem Inv.nofs (I : Inv X pins σ H s) {a : Addr} (h : s.heap.objs.size ≤ a) : a ∉ X.fs := fun hb => by
  obtain ⟨_, o, ho, _⟩ := I.ok.funs.mem hb
  exact absurd (Nat.lt_of_lt_of_le (Heap.lt_size ho) (Nat.le_trans I.sz h)) (Nat.lt_irrefl _)
theorem Inv.cne (I : Inv X pins σ H s) : ∀ x c, X.env.cells.lookup x = some c → c ≠ X.env.locals := fun x c e z => by
  obtain ⟨v, o, ho, hd⟩ := I.cell x c e
  obtain ⟨m, ⟨o', es, ep, ho', hd', _⟩, _⟩ := I.loc
  rw [z, ho'] at ho; cases ho; rw [hd'] at hd; cases hd
theorem Inv.funs (I : Inv X pins σ H s) : s.heap.FunFrames X.base X.outer := by
  have all : ∀ (l : List Env), (∀ b ∈ frs l, b ∈ X.fs) → X.s₀.heap.FunFrames X.base l → s.heap.FunFrames X.base l := by
    intro l
    induction l with
    | nil => intro _ _; trivial
    | cons env r ih =>
      intro hs hl
      obtain ⟨hk, ⟨L, o, hf, hn, ho, hd⟩, hr⟩ := hl
      have hL : L ∈ X.fs := hs L (by unfold frs; rw [List.filterMap_cons, hf]; exact List.mem_cons_self)
      obtain ⟨sl, e⟩ := I.base.slot L o ho (I.ok.frf L hL) hL fun z => I.ok.exfs L z hL
      exact ⟨hk, ⟨L, _, hf, hn, e, hd⟩, ih (fun b hb => hs b (by unfold frs; rw [List.filterMap_cons, hf]; exact List.mem_cons_of_mem _ hb)) hr⟩
  exact all X.outer (fun _ hb => hb) I.ok.funs
theorem Inv.stack (I : Inv X pins σ H s) : s.heap.FunFrames X.base X.stack := by
  rcases I.ok.stk with e | ⟨e, hf⟩
  · rw [e]; exact I.funs
  · rw [e]
    obtain ⟨m, hn, _⟩ := I.loc
    refine .cons (by rw [I.ok.kind]; decide) hf hn ?_ I.funs
    exact Heap.get?_none_of_le (Nat.le_trans I.ok.bsz I.ok.above)
theorem Inv.stkSub (I : Inv X pins σ H s) : ∀ b ∈ frs X.stack, b ∈ X.env.locals :: X.fs := fun b hb => by
  rcases I.ok.stk with e | ⟨e, hf⟩
  · rw [e] at hb; exact List.mem_cons_of_mem _ hb
  · rw [e] at hb
    unfold frs at hb
    rw [List.filterMap_cons, hf] at hb
    exact hb
theorem Inv.stkFree (I : Inv X pins σ H s) : ∀ b ∈ frs X.stack, H b = none := fun b hb => by
  rcases List.mem_cons.mp (I.stkSub b hb) with e | hb
  · rw [e]; exact I.free
  · obtain ⟨_, o, ho, _⟩ := I.ok.funs.mem hb
    exact I.base.free b o ho (I.ok.frf b hb) fun z => I.ok.exfs b z hb
theorem Inv.step {g' : Array GenState} {t' : Nat} {d' : Drawn} {ch : List Addr} (I : Inv X pins σ H s)
    (hch : ∀ b ∈ ch, (b ∈ X.ex ∨ X.s₀.heap.objs.size ≤ b) ∧ b ≠ X.env.locals ∧ (∀ x c, X.env.cells.lookup x = some c → c ≠ b) ∧ ∀ p ∈ X.pn ++ pins, p.1 ≠ b)
    (keep : ∀ b o, b ≠ X.env.locals → b ∉ X.fs → b ∉ ch → s.heap.get? b = some o → H b = none → h'.get? b = some o)
    (slot : ∀ b o, b ≠ X.env.locals → b ∈ X.fs → b ∉ ch → s.heap.get? b = some o → H b = none → ∃ sl, h'.get? b = some { o with slots := sl }) (free : ∀ b o, b ∉ ch → s.heap.get? b = some o → H b = none → H' b = none)
    (there : ∀ b o, b ∉ ch → s.heap.get? b = some o → ∃ o', h'.get? b = some o')
    (tups : ∀ b xs, H b = some (.tup xs) → H' b = some (.tup xs)) (frzs : ∀ b o u, H b = some (.frz o u) → H' b = some (.frz o u)) (tbls : ∀ b ps, H b = some (.tbl ps) → ∃ more, H' b = some (.tbl (ps ++ more)))
    (ns : ∀ m, s.heap.Ns X.env.locals m → h'.Ns X.env.locals m) (hok : HOk X.prog X.w H' h') (hg : AllBare g') :
    Inv X pins σ H' { s with heap := h', gens := g', drawn := d', toks := t' } := by
  have neL : ∀ b o, X.s₀.heap.get? b = some o → b ≠ X.env.locals := fun b o e => Nat.ne_of_lt (Nat.lt_of_lt_of_le (Heap.lt_size e) I.ok.above)
  have neC : ∀ b o, X.s₀.heap.get? b = some o → b ∉ X.ex → b ∉ ch := fun b o e hx hb => by
    rcases (hch b hb).1 with z | z
    · exact hx z
    · exact absurd (Nat.lt_of_lt_of_le (Heap.lt_size e) z) (Nat.lt_irrefl _)
  have cellK : ∀ x c, X.env.cells.lookup x = some c → ∀ v, s.heap.IsCell c v → h'.IsCell c v := fun x c e v ⟨o, ho, hd⟩ => by
    have nch : c ∉ ch := fun z => (hch c z).2.2.1 x c e rfl
    by_cases hc : c ∈ X.fs
    · obtain ⟨sl, q⟩ := slot c o (I.cne x c e) hc nch ho (I.freeC x c e)
      exact ⟨_, q, hd⟩
    · exact ⟨o, keep c o (I.cne x c e) hc nch ho (I.freeC x c e), hd⟩
  refine ⟨I.ok, I.os, hg, ⟨fun b o e n hb hx => ?_, fun b o e n hb hx => ?_, fun b o e n hx => ?_, fun b o e hx => ?_, fun b xs e => tups b xs (I.base.tups b xs e), fun b o xs e => frzs b o xs (I.base.frzs b o xs e), fun b ps e => ?_⟩, ?_, fun x c e => ?_, ?_, fun x c e => ?_, fun p hp => ?_, hok, I.len⟩
  · exact keep b o (neL b o e) hb (neC b o e hx) (I.base.keep b o e n hb hx) (I.base.free b o e n hx)
  · obtain ⟨sl, e1⟩ := I.base.slot b o e n hb hx
    obtain ⟨sl', e2⟩ := slot b _ (neL b o e) hb (neC b o e hx) e1 (I.base.free b o e n hx)
    exact ⟨sl', e2⟩
  · obtain ⟨o', e1⟩ := I.base.there b o e hx
    exact free b o' (neC b o e hx) e1 (I.base.free b o e n hx)
  · obtain ⟨o', e1⟩ := I.base.there b o e hx
    exact there b o' (neC b o e hx) e1
  · obtain ⟨m1, e1⟩ := I.base.tbls b ps e
    obtain ⟨m2, e2⟩ := tbls b _ e1
    exact ⟨m1 ++ m2, by rw [e2, Array.append_assoc]⟩
  · obtain ⟨m, hn, hl⟩ := I.loc
    refine ⟨m, ns m hn, fun i x v e1 e2 e3 => ?_⟩
    obtain ⟨u, r, l⟩ := hl i x v e1 e2 e3
    refine ⟨u, r, ?_⟩
    rcases l with l | ⟨k, c, e, z⟩
    · exact .inl l
    · exact .inr ⟨k, c, e, cellK x c e _ z⟩
  · obtain ⟨v, z⟩ := I.cell x c e
    exact ⟨v, cellK x c e v z⟩
  · obtain ⟨m, ⟨o, _, _, ho, _⟩, _⟩ := I.loc
    exact free _ o (fun z => (hch _ z).2.1 rfl) ho I.free
  · obtain ⟨v, o, ho, hd⟩ := I.cell x c e
    exact free c o (fun z => (hch c z).2.2.1 x c e rfl) ho (I.freeC x c e)
  · obtain ⟨e, n, ne, nf, d⟩ := I.pin p hp
    have nch : p.1 ∉ ch := fun z => (hch p.1 z).2.2.2 p hp rfl
    exact ⟨keep p.1 p.2 ne nf nch e n, free p.1 p.2 nch e n, ne, nf, d⟩
theorem Inv.un {t' : Nat} (I : Inv X pins σ H s) (u : Un X.fs [] H H' s.heap h') (hok : HOk X.prog X.w H' h') : Inv X pins σ H' { s with heap := h', toks := t' } := by
  obtain ⟨m, ⟨o, es, ep, ho, r⟩, _⟩ := id I.loc
  obtain ⟨sl, hL⟩ := u.any ho I.free (by simp)
  exact I.step (g' := s.gens) (d' := s.drawn) (ch := []) (fun _ z => nomatch z) (fun b o _ hb _ e n => u.keep b o e n hb (by simp)) (fun b o _ hb _ e n => u.slot b o e n hb (by simp)) (fun b o _ e n => u.free b o e n (by simp)) (fun b o _ e => u.there b o e (by simp)) u.tups u.frzs u.tbls (fun m' hm => by
    obtain ⟨o', es', ep', ho', r'⟩ := hm
    rw [ho] at ho'; cases ho'
    exact ⟨_, es', ep', hL, r'⟩) hok I.bare
theorem Inv.call {g' : Array GenState} {t' : Nat} {d' : Drawn} {ch : List Addr} (I : Inv X pins σ H s) (u : Un (frs X.stack) ch H H' s.heap h') (hok : HOk X.prog X.w H' h') (hg : AllBare g')
    (hch : ∀ b ∈ ch, (b ∈ X.ex ∨ X.s₀.heap.objs.size ≤ b) ∧ b ≠ X.env.locals ∧ (∀ x c, X.env.cells.lookup x = some c → c ≠ b) ∧ ∀ p ∈ X.pn ++ pins, p.1 ≠ b) :
    Inv X pins σ H' { s with heap := h', gens := g', drawn := d', toks := t' } := by
  obtain ⟨m, ⟨o, es, ep, ho, r⟩, _⟩ := id I.loc
  obtain ⟨sl, hL⟩ := u.any ho I.free fun z => (hch _ z).2.1 rfl
  exact I.step (ch := ch) hch (fun b o hL hb hc e n => u.keep b o e n (fun z => (List.mem_cons.mp (I.stkSub b z)).elim hL hb) hc) (fun b o _ _ hc e n => u.any e n hc) (fun b o hc e n => u.free b o e n hc) (fun b o hc e => u.there b o e hc) u.tups u.frzs u.tbls (fun m' hm => by
    obtain ⟨o', es', ep', ho', r'⟩ := hm
    rw [ho] at ho'; cases ho'
    exact ⟨_, es', ep', hL, r'⟩) hok hg
theorem Inv.turned {t' : Nat} {it : Addr} (I : Inv X pins σ H s) (k : ∀ b o, b ≠ it → s.heap.get? b = some o → h'.get? b = some o) (hn : H it = none) (hL : it ≠ X.env.locals)
    (h1 : it ∈ X.ex ∨ X.s₀.heap.objs.size ≤ it) (h2 : ∀ x c, X.env.cells.lookup x = some c → c ≠ it) (h3 : ∀ p ∈ X.pn ++ pins, p.1 ≠ it) : Inv X pins σ H { s with heap := h', toks := t' } := by
  have nit : ∀ b u, H b = some u → b ≠ it := fun b u e z => by rw [z, hn] at e; cases e
  refine I.step (g' := s.gens) (d' := s.drawn) (ch := [it]) (fun b hb => ?_) (fun b o _ _ hc e _ => k b o (fun z => hc (by simp [z])) e) (fun b o _ _ hc e _ => ⟨o.slots, k b o (fun z => hc (by simp [z])) e⟩) (fun _ _ _ _ n => n)
    (fun b o hc e => ⟨o, k b o (fun z => hc (by simp [z])) e⟩) (fun _ _ e => e) (fun _ _ _ e => e) (fun b ps e => ⟨#[], by rw [e]; simp⟩) (fun m hm => ?_) (fun b u e => ?_) I.bare
  · have e : b = it := by simpa using hb
    subst e
    exact ⟨h1, hL, h2, h3⟩
  · obtain ⟨o, es, ep, ho, r⟩ := hm
    exact ⟨o, es, ep, k _ o (Ne.symm hL) ho, r⟩
  · refine (I.hok b u e).stay (fun c v hc q => k c v ?_ q) (fun _ q => q) fun _ _ q => q
    rcases hc with z | z
    · rw [z]; exact nit b u e
    · exact nit c _ z
theorem Inv.tok (I : Inv X pins σ H s) (t : Nat) : Inv X pins σ H { s with toks := t } := I.un (h' := s.heap) (t' := t) Un.refl I.hok
theorem Inv.kept {t' : Nat} (I : Inv X pins σ H s) (k : ∀ b u, s.heap.get? b = some u → h'.get? b = some u) : Inv X pins σ H { s with heap := h', toks := t' } := I.un (Un.kept k) (I.hok.kept k)
theorem Inv.laid {a : Addr} {o : HO} {t' : Nat} (I : Inv X pins σ H s) (k : ∀ b u, s.heap.get? b = some u → h'.get? b = some u) (hp : s.heap.objs.size ≤ a) (new : ObjOk X.prog X.w (upd H a o) h' a o) :
    Inv X pins σ (upd H a o) { s with heap := h', toks := t' } := I.un (Un.laid k hp (I.hok.fresh hp)) (I.hok.laid k hp new)
theorem Inv.write {x e : Addr} {o : HO} {t' : Nat} (I : Inv X pins σ H s) (mu : Mut (H x)) (he : e = x ∨ H e = some (.own x)) (k : ∀ b u, b ≠ e → s.heap.get? b = some u → h'.get? b = some u) (heo : ∃ u, h'.get? e = some u)
    (new : ObjOk X.prog X.w (upd H x o) h' x o) : Inv X pins σ (upd H x o) { s with heap := h', toks := t' } := I.un (Un.write mu he k heo) (I.hok.write mu he k heo new)
theorem Inv.pins_of {pins' : List (Addr × Obj)} (I : Inv X pins σ H s) (h : ∀ p ∈ pins', s.heap.get? p.1 = some p.2 ∧ H p.1 = none ∧ p.1 ≠ X.env.locals ∧ p.1 ∉ X.fs ∧ ∀ v, p.2.data ≠ .cell v) : Inv X pins' σ H s :=
  ⟨I.ok, I.os, I.bare, I.base, I.loc, I.cell, I.free, I.freeC, fun p hp => (List.mem_append.mp hp).elim (fun z => I.pin p (List.mem_append_left _ z)) (h p), I.hok, I.len⟩
theorem nodup_ix {N : List Str} (hN : N.Nodup) {i j : Nat} {x : Str} (a : N[i]? = some x) (b : N[j]? = some x) : i = j := by
  obtain ⟨h1, e1⟩ := List.getElem?_eq_some_iff.mp a
  obtain ⟨h2, e2⟩ := List.getElem?_eq_some_iff.mp b
  exact (List.getElem_inj hN).mp (e1.trans e2.symm)
theorem store_ok2 {M : Model} {A : Around} {E : Value → Shared → Prop} {i : Nat} {x : Str} {v : V} {u : Value} {Q : Unit → Shared → Prop} (I : Inv X pins σ H s) (hN : X.N.Nodup) (hi : X.N[i]? = some x) (hx : Loc X.env.scope x) (r : RelV v u)
    (h : ∀ s', Inv X pins (σ.set i (some v)) H s' → (∃ a, Heap.SameBut a s.heap s'.heap ∧ (a = X.env.locals ∨ X.env.cells.lookup x = some a)) → Q () s') (hf : X.fn x = true ∨ X.env.scope.names.lookup x = some .local := by first | exact .inl rfl | exact .inr rfl | assumption) : wpAny M A (storeName X.env x u) Q E s := by
  obtain ⟨m, hn, hl⟩ := id I.loc
  have hcls : (X.env.scope.kind == .class || (X.env.scope.kind == .module && X.env.locals != X.env.globals)) = false := by rw [I.ok.kind]; rfl
  have hiσ : i < σ.length := by rw [I.len]; exact (List.getElem?_eq_some_iff.mp hi).1
  have cne := I.cne
  have tracked : ∀ {a : Addr} {h' : Heap}, (∃ o, s.heap.get? a = some o ∧ H a = none) → Heap.SameBut a s.heap h' → HOk X.prog X.w H h' := fun {a h'} ha hs b ob e => by
    obtain ⟨_, _, hfree⟩ := ha
    refine (I.hok b ob e).stay (fun c w' hc q => (hs.2 c ?_).trans q) (fun _ q => q) fun _ _ q => q
    rintro rfl
    rcases hc with rfl | hc
    · rw [hfree] at e; cases e
    · rw [hfree] at hc; cases hc
  rcases hx with hk | hk
  · refine wpAny_storeName_local hk hn (fun h' hn' hs => ?_) hcls
    obtain ⟨oL, _, _, hoL, _⟩ := id hn
    refine h _ ⟨I.ok, I.os, I.bare, ⟨fun b o e n hb hx => ?_, fun b o e n hb hx => ?_, I.base.free, fun b o e hx => ?_, I.base.tups, I.base.frzs, I.base.tbls⟩, ⟨_, hn', fun j y v' e1 e2 e3 => ?_⟩, fun y c e => ?_, I.free, I.freeC, fun p hp => ?_, tracked ⟨oL, hoL, I.free⟩ hs, by simpa using I.len⟩ ⟨_, hs, .inl rfl⟩
    · exact (hs.2 b (Nat.ne_of_lt (Nat.lt_of_lt_of_le (Heap.lt_size e) I.ok.above))).trans (I.base.keep b o e n hb hx)
    · obtain ⟨sl, e1⟩ := I.base.slot b o e n hb hx
      exact ⟨sl, (hs.2 b (Nat.ne_of_lt (Nat.lt_of_lt_of_le (Heap.lt_size e) I.ok.above))).trans e1⟩
    · obtain ⟨o', e1⟩ := I.base.there b o e hx
      exact ⟨o', (hs.2 b (Nat.ne_of_lt (Nat.lt_of_lt_of_le (Heap.lt_size e) I.ok.above))).trans e1⟩
    · by_cases hj : j = i
      · subst hj
        rw [hi] at e1; cases e1
        rw [List.getElem?_set_self hiσ] at e2
        cases e2
        exact ⟨u, r, .inl ⟨hk, by simp⟩⟩
      · rw [List.getElem?_set_ne (Ne.symm hj)] at e2
        obtain ⟨u', r', q⟩ := hl j y v' e1 e2 e3
        refine ⟨u', r', ?_⟩
        rcases q with ⟨k, e⟩ | ⟨k, c, e, z⟩
        · refine .inl ⟨k, ?_⟩
          have : y ≠ x := fun e => hj (nodup_ix hN e1 (e ▸ hi))
          simp [this, e]
        · exact .inr ⟨k, c, e, z.sameBut hs (cne y c e)⟩
    · obtain ⟨w', z⟩ := I.cell y c e
      exact ⟨w', z.sameBut hs (cne y c e)⟩
    · obtain ⟨e, n, ne, nf, d⟩ := I.pin p hp
      exact ⟨(hs.2 p.1 ne).trans e, n, ne, nf, d⟩
  · have hfn : X.fn x = true := by
      rcases hf with z | z
      · exact z
      · rw [z] at hk; cases hk
    obtain ⟨c, hc⟩ := I.ok.has x (.inl hk)
    obtain ⟨w', z⟩ := I.cell x c hc
    refine wpAny_storeName_cell I.ok.kind hk hc z (fun h' hc' hs => ?_)
    obtain ⟨oc, hoc, hocd⟩ := id z
    refine h { s with heap := h' } ⟨I.ok, I.os, I.bare, ⟨fun b o e n hb hx => ?_, fun b o e n hb hx => ?_, I.base.free, fun b o e hx => ?_, I.base.tups, I.base.frzs, I.base.tbls⟩, ⟨m, hn.sameBut hs (Ne.symm (cne x c hc)), fun j y v' e1 e2 e3 => ?_⟩, fun y c' e => ?_, I.free, I.freeC, fun p hp => ?_, tracked ⟨oc, hoc, I.freeC x c hc⟩ hs, by simpa using I.len⟩ ⟨c, hs, .inr hc⟩
    · exact (hs.2 b (Nat.ne_of_lt (Nat.lt_of_lt_of_le (Heap.lt_size e) (I.ok.cab x c hfn hc)))).trans (I.base.keep b o e n hb hx)
    · obtain ⟨sl, e1⟩ := I.base.slot b o e n hb hx
      exact ⟨sl, (hs.2 b (Nat.ne_of_lt (Nat.lt_of_lt_of_le (Heap.lt_size e) (I.ok.cab x c hfn hc)))).trans e1⟩
    · obtain ⟨o', e1⟩ := I.base.there b o e hx
      exact ⟨o', (hs.2 b (Nat.ne_of_lt (Nat.lt_of_lt_of_le (Heap.lt_size e) (I.ok.cab x c hfn hc)))).trans e1⟩
    · by_cases hj : j = i
      · subst hj
        rw [hi] at e1; cases e1
        rw [List.getElem?_set_self hiσ] at e2
        cases e2
        exact ⟨u, r, .inr ⟨.inl hk, c, hc, hc'⟩⟩
      · rw [List.getElem?_set_ne (Ne.symm hj)] at e2
        obtain ⟨u', r', q⟩ := hl j y v' e1 e2 e3
        refine ⟨u', r', ?_⟩
        rcases q with q | ⟨k, c', e, z'⟩
        · exact .inl q
        · refine .inr ⟨k, c', e, z'.sameBut hs ?_⟩
          rintro rfl
          exact hj (nodup_ix hN e1 (I.ok.inj _ _ _ e hc ▸ hi))
    · by_cases hcc : c' = c
      · subst hcc; exact ⟨_, hc'⟩
      · obtain ⟨w2, z2⟩ := I.cell y c' e
        exact ⟨w2, z2.sameBut hs hcc⟩
    · obtain ⟨e, n, ne, nf, d⟩ := I.pin p hp
      refine ⟨(hs.2 p.1 ?_).trans e, n, ne, nf, d⟩
      intro q
      rw [q, hoc] at e
      have q' : oc = p.2 := Option.some.inj e
      exact d w' (by rw [← q']; exact hocd)
theorem store_ok {M : Model} {A : Around} {E : Value → Shared → Prop} {i : Nat} {x : Str} {v : V} {u : Value} {Q : Unit → Shared → Prop} (I : Inv X pins σ H s) (hN : X.N.Nodup) (hi : X.N[i]? = some x) (hx : Loc X.env.scope x) (r : RelV v u)
    (h : ∀ s', Inv X pins (σ.set i (some v)) H s' → Q () s') (hf : X.fn x = true ∨ X.env.scope.names.lookup x = some .local := by first | exact .inl rfl | exact .inr rfl | assumption) : wpAny M A (storeName X.env x u) Q E s :=
  store_ok2 I hN hi hx r (fun s' I' _ => h s' I') hf
theorem Inv.call' {s' : Shared} {ch : List Addr} (I : Inv X pins σ H s) (ho : s'.os = s.os) (u : Un (frs X.stack) ch H H' s.heap s'.heap) (hok : HOk X.prog X.w H' s'.heap) (hg : AllBare s'.gens)
    (hch : ∀ b ∈ ch, (b ∈ X.ex ∨ X.s₀.heap.objs.size ≤ b) ∧ b ≠ X.env.locals ∧ (∀ x c, X.env.cells.lookup x = some c → c ≠ b) ∧ ∀ p ∈ X.pn ++ pins, p.1 ≠ b) : Inv X pins σ H' s' := by
  obtain ⟨h', g', d', t', o'⟩ := s'
  have e : o' = s.os := ho
  subst e
  exact I.call (g' := g') (t' := t') (d' := d') u hok hg hch
end
noncomputable abbrev XK := Value → Option Addr → Hp → Prop
noncomputable abbrev St := List (Option V)
noncomputable abbrev VK := V → Hp → Prop
noncomputable abbrev TE := St → Hp → VK → Prop
noncomputable abbrev TT := St → Hp → (Bool → Hp → Prop) → Prop
noncomputable abbrev TA := St → Hp → (List V → Hp → Prop) → Prop
structure Ends where
  nx : St → Hp → Prop
  rt : VK
  bk : St → Hp → Prop := fun _ _ => False
  ct : St → Hp → Prop := fun _ _ => False
noncomputable abbrev TS := Ends → St → Hp → Prop
noncomputable def EP (X : Cx) (pins : List (Addr × Obj)) (σ : St) (Q : VK) (u : Value) (s' : Shared) : Prop := ∃ v H', Inv X pins σ H' s' ∧ RelV v u ∧ Q v H'
noncomputable def TP (X : Cx) (pins : List (Addr × Obj)) (σ : St) (Q : Bool → Hp → Prop) (b : Bool) (s' : Shared) : Prop := ∃ H', Inv X pins σ H' s' ∧ Q b H'
noncomputable def AP (X : Cx) (pins : List (Addr × Obj)) (σ : St) (Q : List V → Hp → Prop) (us : List Value) (s' : Shared) : Prop := ∃ vs H', Inv X pins σ H' s' ∧ Vals vs us ∧ Q vs H'
noncomputable def SP (X : Cx) (pins : List (Addr × Obj)) (D : Ends) (f : Flow) (s' : Shared) : Prop :=
  match f with
  | .next => ∃ σ' H', Inv X pins σ' H' s' ∧ D.nx σ' H'
  | .brk => ∃ σ' H', Inv X pins σ' H' s' ∧ D.bk σ' H'
  | .cont => ∃ σ' H', Inv X pins σ' H' s' ∧ D.ct σ' H'
  | .ret u => ∃ v σ' H', Inv X pins σ' H' s' ∧ RelV v u ∧ D.rt v H'
noncomputable def PE (X : Cx) (e : Expr) (t : TE) : Prop :=
  ∀ (pins : List (Addr × Obj)) (s : Shared) (σ : St) (H : Hp) (Q : VK), Inv X pins σ H s → t σ H Q → wpAny (model X.prog X.w) X.A (eval e X.env) (EP X pins σ Q) X.xe s
noncomputable def PT (X : Cx) (e : Expr) (t : TT) : Prop :=
  ∀ (pins : List (Addr × Obj)) (s : Shared) (σ : St) (H : Hp) (Q : Bool → Hp → Prop), Inv X pins σ H s → t σ H Q → wpAny (model X.prog X.w) X.A (isTrue e X.env (eval e X.env)) (TP X pins σ Q) X.xe s
noncomputable def PW (X : Cx) (e : Expr) (t : TT) : Prop :=
  ∀ (whole : Sem Value) (pins : List (Addr × Obj)) (s : Shared) (σ : St) (H : Hp) (Q : Bool → Hp → Prop), Inv X pins σ H s → t σ H Q → wpAny (model X.prog X.w) X.A (isTrue e X.env whole) (TP X pins σ Q) X.xe s
theorem PW.pt {X : Cx} {e : Expr} {t : TT} (h : PW X e t) : PT X e t := h _
noncomputable def PA (X : Cx) (es : List Expr) (t : TA) : Prop :=
  ∀ (pos : Pos) (pins : List (Addr × Obj)) (s : Shared) (σ : St) (H : Hp) (Q : List V → Hp → Prop), Inv X pins σ H s → t σ H Q → wpAny (model X.prog X.w) X.A (spliced (backTo pos (starEach es X.env))) (AP X pins σ Q) X.xe s
noncomputable def PS (X : Cx) (st : Stmt) (t : TS) : Prop :=
  ∀ (pins : List (Addr × Obj)) (s : Shared) (σ : St) (H : Hp) (D : Ends), Inv X pins σ H s → t D σ H → wpAny (model X.prog X.w) X.A (exec st X.env) (SP X pins D) X.xe s
noncomputable def PSs (X : Cx) (st : List Stmt) (t : TS) : Prop :=
  ∀ (pins : List (Addr × Obj)) (s : Shared) (σ : St) (H : Hp) (D : Ends), Inv X pins σ H s → t D σ H → wpAny (model X.prog X.w) X.A (execs st X.env) (SP X pins D) X.xe s
theorem thn {α : Type} {t : Sem α} {Q Q' : α → Shared → Prop} {M : Model} {A : Around} {E : Value → Shared → Prop} {s : Shared} (h : wpAny M A t Q E s) (hQ : ∀ a s, Q a s → Q' a s) : wpAny M A t Q' E s := wpAny_mono h hQ fun _ _ x => x
end L2
namespace L2
open PySem PySem.Spec PyProof.Rows
section
variable {X : Cx}
theorem bin {a b : Expr} {ta tb : TE} (ha : PE X a ta) (hb : PE X b tb) {pins : List (Addr × Obj)} {s : Shared} {σ : St} {H : Hp} {R : V → V → Hp → Prop} (I : Inv X pins σ H s) (h : ta σ H fun x H1 => tb σ H1 fun y H2 => R x y H2)
    {α : Type} {Q : α → Shared → Prop} {f : Value → Value → Sem α}
    (hf : ∀ v u s2 x y H2, Inv X pins σ H2 s2 → RelV x v → RelV y u → R x y H2 → wpAny (model X.prog X.w) X.A (f v u) Q X.xe s2) :
    wpAny (model X.prog X.w) X.A (eval a X.env) (fun v s₁ => wpAny (model X.prog X.w) X.A (eval b X.env) (fun u s₂ => wpAny (model X.prog X.w) X.A (f v u) Q X.xe s₂) X.xe s₁) X.xe s := by
  refine thn (ha pins s σ H _ I h) fun v s1 ⟨x, H1, I1, r1, q1⟩ => ?_
  refine thn (hb pins s1 σ H1 _ I1 q1) fun u s2 ⟨y, H2, I2, r2, q2⟩ => ?_
  exact hf v u s2 x y H2 I2 r1 r2 q2
noncomputable def tVar (i : Nat) : TE := fun σ H Q => ∃ v, σ[i]? = some (some v) ∧ Q v H
noncomputable def tC (v : V) : TE := fun _ H Q => Q v H
theorem pe_var {i : Nat} {x : Str} {pos : Pos} (hN : X.N[i]? = some x) (hv : Vis X.env.scope x) (hd : (x == ("__debug__" : Str)) = false := by decide) (hcd : (x == ("__classdict__" : Str)) = false := by decide) : PE X (.Name x pos) (tVar i) := by
  intro pins s σ H Q I h
  obtain ⟨v, e, h⟩ := h
  obtain ⟨m, hn, hl⟩ := I.loc
  obtain ⟨u, r, l⟩ := hl i x v hN e hv
  have fin : EP X pins σ Q u s := ⟨v, H, I, r, h⟩
  rcases l with ⟨hk, hm⟩ | ⟨hk, c, hc, hcell⟩
  · exact wpAny_Name (wpAny_loadName_local I.ok.kind hk hn hm fin) hd
  · rcases hk with hk | hk
    · exact wpAny_Name (wpAny_loadName_cell I.ok.kind hk hc hcell fin) hd
    · exact wpAny_Name (wpAny_loadName_free I.ok.kind hk hc hcell fin hcd) hd
theorem pe_int {i j pos} : PE X (.Constant (.int i) j pos) (tC (.int i)) := fun _ _ _ H _ I h => wpAny_Constant_int ⟨.int i, H, I.tok _, ⟨_, rfl⟩, h⟩
theorem pe_bl {b j pos} : PE X (.Constant (.bool b) j pos) (tC (.bl b)) := fun _ _ _ H _ I h => Constant_bool ⟨.bl b, H, I, rfl, h⟩
theorem pe_non {j pos} : PE X (.Constant .none j pos) (tC .non) := fun _ _ _ H _ I h => Constant_none ⟨.non, H, I, rfl, h⟩
theorem pe_str {x j pos} : PE X (.Constant (.str x) j pos) (tC (.str x)) := fun _ _ _ H _ I h => Calls.Constant_str ⟨.str x, H, I.tok _, ⟨_, rfl⟩, h⟩
noncomputable def Gl (X : Cx) (x : Str) : Prop := X.env.kindOf x = some .globalImplicit
theorem ld_glob {E : Value → Shared → Prop} {pins : List (Addr × Obj)} {s : Shared} {σ : St} {H : Hp} {x : Str} {u : Value} {pos : Pos} {Q : Value → Shared → Prop} (I : Inv X pins σ H s) (hg : Gl X x) (hm : X.mg x = some u) (h : Q u s)
    (hd : (x == ("__debug__" : Str)) = false := by decide) : wpAny (model X.prog X.w) X.A (eval (.Name x pos) X.env) Q E s :=
  Calls.Name_function_global I.ok.kind hg (Calls.loadGlobal_global (by rw [I.ok.glob]; exact I.mod.glob.keeps I.bk) hm h) hd
theorem ld_blt {E : Value → Shared → Prop} {pins : List (Addr × Obj)} {s : Shared} {σ : St} {H : Hp} {x : Str} {u : Value} {pos : Pos} {Q : Value → Shared → Prop} (I : Inv X pins σ H s) (hg : Gl X x) (hm : X.mg x = none) (hv : bootBuiltins x = some u) (h : Q u s)
    (hn : x ≠ "__name__" := by decide) (hd : (x == ("__debug__" : Str)) = false := by decide) : wpAny (model X.prog X.w) X.A (eval (.Name x pos) X.env) Q E s := by
  obtain ⟨mb, h1, h2⟩ := I.mod.blt
  exact Calls.Name_function_global I.ok.kind hg (Calls.loadGlobal_builtin (by rw [I.ok.glob]; exact I.mod.glob.keeps I.bk) hm (by rw [I.ok.blt]; exact h1.keeps I.bk) ((h2 x hn).trans hv) h) hd
theorem pe_glob {x : Str} {v : V} {u : Value} {pos : Pos} (hg : Gl X x) (hm : X.mg x = some u) (r : RelV v u) (hd : (x == ("__debug__" : Str)) = false := by decide) : PE X (.Name x pos) (tC v) :=
  fun _ _ _ H _ I h => ld_glob I hg hm ⟨v, H, I, r, h⟩ hd
theorem pe_bltn {x : Str} {v : V} {u : Value} {pos : Pos} (hg : Gl X x) (hm : X.mg x = none) (hv : bootBuiltins x = some u) (r : RelV v u) (hn : x ≠ "__name__" := by decide) (hd : (x == ("__debug__" : Str)) = false := by decide) : PE X (.Name x pos) (tC v) :=
  fun _ _ _ H _ I h => ld_blt I hg hm hv ⟨v, H, I, r, h⟩ hn hd
variable {a b : Expr} {ta tb : TE} {pos : Pos}
variable {tA tB' : TT} {rest : List Expr}
noncomputable def tAnd (t u : TT) : TT := fun σ H Q => t σ H fun c H1 => if c = true then u σ H1 Q else Q false H1
noncomputable def tOr (t u : TT) : TT := fun σ H Q => t σ H fun c H1 => if c = true then Q true H1 else u σ H1 Q
noncomputable def tNot (t : TT) : TT := fun σ H Q => t σ H fun c H1 => Q (!c) H1
theorem pw_and1 (ha : PT X a tA) : PW X (.BoolOp .And [a] pos) tA := by
  intro wh pins s σ H Q I h
  refine isTrue_and (thn (ha pins s σ H Q I h) fun c s1 e => ?_)
  cases c with
  | true => exact isTrue_and_nil e
  | false => exact e
theorem pw_or1 (ha : PT X a tA) : PW X (.BoolOp .Or [a] pos) tA := by
  intro wh pins s σ H Q I h
  refine isTrue_or (thn (ha pins s σ H Q I h) fun c s1 e => ?_)
  cases c with
  | false => exact isTrue_or_nil e
  | true => exact e
theorem pw_and (ha : PT X a tA) (hb : PW X (.BoolOp .And (b :: rest) pos) tB') : PW X (.BoolOp .And (a :: b :: rest) pos) (tAnd tA tB') := by
  intro wh pins s σ H Q I h
  refine isTrue_and (thn (ha pins s σ H _ I h) fun c s1 ⟨H1, I1, q1⟩ => ?_)
  cases c with
  | true => exact hb wh pins s1 σ H1 Q I1 q1
  | false => exact ⟨H1, I1, q1⟩
theorem pw_or (ha : PT X a tA) (hb : PW X (.BoolOp .Or (b :: rest) pos) tB') : PW X (.BoolOp .Or (a :: b :: rest) pos) (tOr tA tB') := by
  intro wh pins s σ H Q I h
  refine isTrue_or (thn (ha pins s σ H _ I h) fun c s1 ⟨H1, I1, q1⟩ => ?_)
  cases c with
  | true => exact ⟨H1, I1, q1⟩
  | false => exact hb wh pins s1 σ H1 Q I1 q1
theorem pt_not (ha : PT X a tA) : PT X (.UnaryOp .Not a pos) (tNot tA) := by
  intro pins s σ H Q I h
  exact isTrue_not (ha pins s σ H (fun c H1 => Q (!c) H1) I h)
theorem pe_one {op} {t : TE} (h : PE X a t) : PE X (.BoolOp op [a] pos) t := fun pins s σ H Q I hw => BoolOp_one (h pins s σ H Q I hw)
noncomputable def tIf (t : TT) (ta tb : TE) : TE := fun σ H Q => t σ H fun c H1 => if c = true then ta σ H1 Q else tb σ H1 Q
theorem pe_ifExp {c : Expr} (hc : PT X c tA) (ha : PE X a ta) (hb : PE X b tb) : PE X (.IfExp c a b pos) (tIf tA ta tb) := by
  intro pins s σ H Q I h
  refine wpAny_IfExp (thn (hc pins s σ H _ I h) fun d s1 ⟨H1, I1, q1⟩ => ?_)
  cases d with
  | true => exact ha pins s1 σ H1 Q I1 q1
  | false => exact hb pins s1 σ H1 Q I1 q1
end
end L2
namespace L2
open PySem PySem.Spec PyProof.Rows
noncomputable def SqL (K : PySem.W.Frag) (H : Hp) (a : Addr) (xs : List V) : Prop :=
  Rd H a (.lst xs) ∨
    ∃ (o : Obj) (its : Array Value) (n : Nat), K.lookup a = some o ∧ o.cls = .type "list" ∧ o.dict = none ∧ o.data = .seq its n ∧ its.size ≤ sizeLine ∧ Vals xs its.toList
noncomputable def SqT (K : PySem.W.Frag) (H : Hp) (a : Addr) (xs : List V) : Prop :=
  Rd H a (.tup xs) ∨
    ∃ (o : Obj) (its : Array Value) (n : Nat), K.lookup a = some o ∧ o.cls = .type "tuple" ∧ o.data = .seq its n ∧ its.size ≤ sizeLine ∧ Vals xs its.toList
noncomputable def absV : Value → Option V
  | .none => some .non
  | .bool b => some (.bl b)
  | .int i _ => some (.int i)
  | .str x _ => some (.str x)
  | .bytes b _ => some (.byt b)
  | .float b _ => some (.flt b)
  | .ref a => some (.ref a)
  | .type n => some (.ty n)
  | _ => none
theorem RelV.abs {x : V} {u : Value} (r : RelV x u) : absV u = some x := by
  cases x with
  | non => cases r; rfl
  | bl _ => cases r; rfl
  | int _ => obtain ⟨t, rfl⟩ := r; rfl
  | str _ => obtain ⟨t, rfl⟩ := r; rfl
  | byt _ => obtain ⟨t, rfl⟩ := r; rfl
  | flt _ => obtain ⟨t, rfl⟩ := r; rfl
  | ref _ => cases r; rfl
  | ty _ => cases r; rfl
theorem RelV.inj {x y : V} {u : Value} (r : RelV x u) (q : RelV y u) : x = y := Option.some.inj (r.abs.symm.trans q.abs)
theorem Vals.inj : ∀ {xs ys : List V} {us : List Value}, Vals xs us → Vals ys us → xs = ys
  | _, _, _, .nil, .nil => rfl
  | _, _, _, .cons r t, .cons r' t' => by rw [r.inj r', Vals.inj t t']
section
variable {X : Cx} {pins : List (Addr × Obj)} {σ : St} {H : Hp} {s : Shared} {a : Addr} {xs ys : List V}
theorem SqL.of {K : PySem.W.Frag} (h : H a = some (.lst xs)) : SqL K H a xs := .inl (.inl h)
theorem SqT.of {K : PySem.W.Frag} (h : H a = some (.tup xs)) : SqT K H a xs := .inl (.inl h)
theorem Inv.list (I : Inv X pins σ H s) (h : SqL X.K H a xs) : ∃ its : List Value, Vals xs its ∧ PlainL s.heap a its.toArray ∧ xs.length ≤ sizeLine := by
  rcases h with h | ⟨o, its, n, hk, hc, hd, hs, hz, r⟩
  · obtain ⟨z, its, n, r, e⟩ := h.ok I.hok
    exact ⟨its, r, ⟨_, n, e, rfl, rfl, rfl⟩, z⟩
  · refine ⟨its.toList, r, ⟨o, n, I.kIn a o hk, hc, hd, by simpa using hs⟩, ?_⟩
    have e := r.length
    simp only [Array.length_toList] at e
    omega
theorem Inv.tuple (I : Inv X pins σ H s) (h : SqT X.K H a xs) : ∃ its : List Value, Vals xs its ∧ IsTup s.heap a its.toArray ∧ xs.length ≤ sizeLine := by
  rcases h with h | ⟨o, its, n, hk, hc, hs, hz, r⟩
  · obtain ⟨z, its, r, p⟩ := h.ok I.hok
    exact ⟨its, r, p, z⟩
  · refine ⟨its.toList, r, ⟨o, I.kIn a o hk, hc, n, by simpa using hs⟩, ?_⟩
    have e := r.length
    simp only [Array.length_toList] at e
    omega
theorem Inv.list_inj (I : Inv X pins σ H s) (h : SqL X.K H a xs) (h' : SqL X.K H a ys) : xs = ys := by
  obtain ⟨its, r, ⟨o, n, e, _, _, d⟩, _⟩ := I.list h
  obtain ⟨its', r', ⟨o', n', e', _, _, d'⟩, _⟩ := I.list h'
  rw [e] at e'; cases e'
  rw [d] at d'
  injection d' with d1 _
  have : its = its' := by simpa using congrArg Array.toList d1
  subst this
  exact r.inj r'
theorem Inv.tuple_inj (I : Inv X pins σ H s) (h : SqT X.K H a xs) (h' : SqT X.K H a ys) : xs = ys := by
  obtain ⟨its, r, ⟨o, e, _, n, d⟩, _⟩ := I.tuple h
  obtain ⟨its', r', ⟨o', e', _, n', d'⟩, _⟩ := I.tuple h'
  rw [e] at e'; cases e'
  rw [d] at d'
  injection d' with d1 _
  have : its = its' := by simpa using congrArg Array.toList d1
  subst this
  exact r.inj r'
end
noncomputable abbrev Cx.wish (X : Cx) (E : Value → Shared → Prop) : Cx := { X with xe := E }
noncomputable abbrev Cx.nox (X : Cx) : Cx := X.wish fun _ _ => False
theorem Cx.Ok.wish {X : Cx} (ok : X.Ok) (E : Value → Shared → Prop) : (X.wish E).Ok :=
  ⟨ok.mod, ok.kind, ok.glob, ok.blt, ok.above, ok.inj, ok.has, ok.cab, ok.hd, ok.frames, ok.stk, ok.exf, ok.bs, ok.bsz, ok.noex, ok.exfs, ok.funs, ok.frf⟩
theorem Cx.Ok.unwish {X : Cx} {E : Value → Shared → Prop} (ok : (X.wish E).Ok) : X.Ok :=
  ⟨ok.mod, ok.kind, ok.glob, ok.blt, ok.above, ok.inj, ok.has, ok.cab, ok.hd, ok.frames, ok.stk, ok.exf, ok.bs, ok.bsz, ok.noex, ok.exfs, ok.funs, ok.frf⟩
section
variable {X : Cx} {pins : List (Addr × Obj)} {σ : St} {H : Hp} {s : Shared} {E : Value → Shared → Prop}
theorem Inv.wish (I : Inv X pins σ H s) (E : Value → Shared → Prop) : Inv (X.wish E) pins σ H s := ⟨I.ok.wish E, I.os, I.bare, I.base, I.loc, I.cell, I.free, I.freeC, I.pin, I.hok, I.len⟩
theorem Inv.unwish (I : Inv (X.wish E) pins σ H s) : Inv X pins σ H s := ⟨I.ok.unwish, I.os, I.bare, I.base, I.loc, I.cell, I.free, I.freeC, I.pin, I.hok, I.len⟩
theorem SP.unwish {D : Ends} {f : Flow} {s' : Shared} (h : SP (X.wish E) pins D f s') : SP X pins D f s' := by
  cases f with
  | next => obtain ⟨σ', H', I, q⟩ := h; exact ⟨σ', H', I.unwish, q⟩
  | brk => obtain ⟨σ', H', I, q⟩ := h; exact ⟨σ', H', I.unwish, q⟩
  | cont => obtain ⟨σ', H', I, q⟩ := h; exact ⟨σ', H', I.unwish, q⟩
  | ret u => obtain ⟨v, σ', H', I, r, q⟩ := h; exact ⟨v, σ', H', I.unwish, r, q⟩
theorem PE.nox {e : Expr} {t : TE} (h : PE X.nox e t) : PE X e t := fun pins s σ H Q I hw =>
  wpAny_mono (h pins s σ H Q (I.wish _) hw) (fun _ _ ⟨v, H', I', r, q⟩ => ⟨v, H', I'.unwish, r, q⟩) fun _ _ z => False.elim z
theorem PT.nox {e : Expr} {t : TT} (h : PT X.nox e t) : PT X e t := fun pins s σ H Q I hw =>
  wpAny_mono (h pins s σ H Q (I.wish _) hw) (fun _ _ ⟨H', I', q⟩ => ⟨H', I'.unwish, q⟩) fun _ _ z => False.elim z
theorem PSs.nox {st : List Stmt} {t : TS} (h : PSs X.nox st t) : PSs X st t := fun pins s σ H D I hw =>
  wpAny_mono (h pins s σ H D (I.wish _) hw) (fun _ _ q => q.unwish) fun _ _ z => False.elim z
end
section
variable {X : Cx} {st : Stmt} {rest : List Stmt} {t u : TS} {e : Expr} {te : TE} {pos : Pos}
noncomputable def tNext : TS := fun D σ H => D.nx σ H
noncomputable def tSeq (t u : TS) : TS := fun D σ H => t { D with nx := u D } σ H
theorem pss_nil : PSs X [] tNext := fun _ _ σ H _ I h => wpAny_execs_nil ⟨σ, H, I, h⟩
theorem pss_cons (h1 : PS X st t) (h2 : PSs X rest u) : PSs X (st :: rest) (tSeq t u) := by
  intro pins s σ H D I h
  refine wpAny_execs_cons (thn (h1 pins s σ H { D with nx := u D } I h) fun f s1 q => ?_)
  cases f with
  | next =>
    obtain ⟨σ', H', I', q⟩ := q
    exact h2 pins s1 σ' H' D I' q
  | ret v => exact q
  | brk => exact q
  | cont => exact q
noncomputable def tBreak : TS := fun D σ H => D.bk σ H
noncomputable def tCont : TS := fun D σ H => D.ct σ H
theorem ps_pass : PS X (.Pass pos) tNext := fun _ _ σ H _ I h => wpAny_Pass ⟨σ, H, I, h⟩
theorem ps_break : PS X (.Break pos) tBreak := fun _ _ σ H _ I h => wpAny_Break ⟨σ, H, I, h⟩
theorem ps_continue : PS X (.Continue pos) tCont := fun _ _ σ H _ I h => wpAny_Continue ⟨σ, H, I, h⟩
theorem Inv.quiet {pins : List (Addr × Obj)} {σ : St} {H : Hp} {s : Shared} (I : Inv X pins σ H s) : interactive X.env = false := by simp [interactive, I.ok.kind]
theorem ps_doc {x j pos pos'} : PS X (.Expr (.Constant (.str x) j pos) pos') tNext := fun _ s σ H _ I h => wpAny_Expr (Calls.Constant_str (show SP X _ _ .next { s with toks := s.toks + 1 } from ⟨σ, H, I.tok _, h⟩)) I.quiet
noncomputable def tDrop (te : TE) : TS := fun D σ H => te σ H fun _ H1 => D.nx σ H1
theorem ps_expr (he : PE X e te) (hs : swapsWith e none pos.line X.env = pure false := by rfl) : PS X (.Expr e pos) (tDrop te) := by
  intro pins s σ H D I h
  exact wpAny_Expr_any (thn (he pins s σ H _ I h) fun v s1 ⟨x, H1, I1, r1, q1⟩ => ⟨σ, H1, I1, q1⟩) I.quiet hs
noncomputable def tRet (te : TE) : TS := fun D σ H => te σ H D.rt
theorem ps_ret (he : PE X e te) : PS X (.Return (some e) pos) (tRet te) := by
  intro pins s σ H D I h
  exact wpAny_Return_some (thn (he pins s σ H _ I h) fun v s1 ⟨x, H1, I1, r1, q1⟩ => ⟨x, σ, H1, I1, r1, q1⟩)
noncomputable def tRetN : TS := fun D _ H => D.rt .non H
theorem ps_retN : PS X (.Return none pos) tRetN := fun _ _ σ H _ I h => wpAny_Return_none ⟨.non, σ, H, I, rfl, h⟩
noncomputable def tIfS (c : TT) (t u : TS) : TS := fun D σ H => c σ H fun b H1 => if b = true then t D σ H1 else u D σ H1
theorem ps_if {c : Expr} {a b : List Stmt} {tc : TT} (hc : PT X c tc) (ha : PSs X a t) (hb : PSs X b u) : PS X (.If c a b pos) (tIfS tc t u) := by
  intro pins s σ H D I h
  refine wpAny_If (thn (hc pins s σ H _ I h) fun d s1 ⟨H1, I1, q1⟩ => ?_)
  cases d with
  | true => exact ha pins s1 σ H1 D I1 q1
  | false => exact hb pins s1 σ H1 D I1 q1
noncomputable def tNever : TS := fun _ _ _ => False
theorem ps_never : PS X st tNever := fun _ _ _ _ _ _ h => h.elim
end
noncomputable abbrev TG := V → St → Hp → (St → Hp → Prop) → Prop
noncomputable abbrev TGs := List V → St → Hp → (St → Hp → Prop) → Prop
noncomputable def PG (X : Cx) (target : Expr) (t : TG) : Prop :=
  ∀ (pins : List (Addr × Obj)) (s : Shared) (σ : St) (H : Hp) (v : V) (u : Value) (Q : St → Hp → Prop), Inv X pins σ H s → RelV v u → t v σ H Q →
    wpAny (model X.prog X.w) X.A (assign target X.env u) (fun _ s' => ∃ σ' H', Inv X pins σ' H' s' ∧ Q σ' H') X.xe s
noncomputable def PGs (X : Cx) (ts : List Expr) (t : TGs) : Prop :=
  ∀ (pins : List (Addr × Obj)) (s : Shared) (σ : St) (H : Hp) (vs : List V) (us : List Value) (Q : St → Hp → Prop), Inv X pins σ H s → Vals vs us → t vs σ H Q →
    wpAny (model X.prog X.w) X.A (assignInOrder ((assignEach ts X.env).map (·.2)) us) (fun _ s' => ∃ σ' H', Inv X pins σ' H' s' ∧ Q σ' H') X.xe s
section
variable {X : Cx} {pos : Pos}
noncomputable def gName (i : Nat) : TG := fun v σ H Q => Q (σ.set i (some v)) H
theorem pg_name {i : Nat} {x : Str} (hN : X.N.Nodup) (hi : X.N[i]? = some x) (hx : Loc X.env.scope x) (hf : X.fn x = true ∨ X.env.scope.names.lookup x = some .local := by first | exact .inl rfl | exact .inr rfl | assumption) : PG X (.Name x pos) (gName i) := by
  intro pins s σ H v u Q I r h
  exact wpAny_assign_Name (store_ok I hN hi hx r (fun s' I' => ⟨_, H, I', h⟩) hf)
noncomputable def gNil : TGs := fun vs σ H Q => vs = [] ∧ Q σ H
noncomputable def gCons (t : TG) (u : TGs) : TGs := fun vs σ H Q => ∃ v r, vs = v :: r ∧ t v σ H fun σ' H' => u r σ' H' Q
theorem pgs_nil : PGs X [] gNil := by
  intro pins s σ H vs us Q I r h
  obtain ⟨e, h⟩ := h
  subst e
  cases r
  exact assignInOrder_nil ⟨σ, H, I, h⟩
theorem pgs_cons {e : Expr} {es : List Expr} {t : TG} {u : TGs} (h1 : PG X e t) (h2 : PGs X es u)
    (hs : (assignEach (e :: es) X.env).map (·.2) = assign e X.env :: (assignEach es X.env).map (·.2) := by rfl) : PGs X (e :: es) (gCons t u) := by
  intro pins s σ H vs us Q I r h
  obtain ⟨v, vr, e1, h⟩ := h
  subst e1
  cases r with
  | cons r rr =>
    rw [hs]
    refine assignInOrder_cons (thn (h1 pins s σ H _ _ _ I r h) fun _ s1 ⟨σ1, H1, I1, q1⟩ => ?_)
    exact h2 pins s1 σ1 H1 _ _ Q I1 rr q1
noncomputable def tAsg (te : TE) (g : TG) : TS := fun D σ H => te σ H fun x H1 => g x σ H1 D.nx
theorem ps_asg {tg e : Expr} {te : TE} {g : TG} (he : PE X e te) (hg : PG X tg g) (hs : swapsWithSole [tg] e pos.line X.env = pure false := by rfl) (hw : swappedStores [tg] e X.env = pure none := by rfl)
    (h1 : (assignEach [tg] X.env).map (·.2) = [assign tg X.env] := by rfl) : PS X (.Assign [tg] e pos) (tAsg te g) := by
  intro pins s σ H D I h
  refine wpAny_Assign_stores (thn (he pins s σ H _ I h) fun v s1 ⟨x, H1, I1, r1, q1⟩ => ?_) hs hw
  rw [h1]
  exact thn (hg pins s1 σ H1 x v _ I1 r1 q1) fun _ s2 q => q
theorem ps_set {i : Nat} {x : Str} {e : Expr} {te : TE} {pos' : Pos} (hN : X.N.Nodup) (hi : X.N[i]? = some x) (hx : Loc X.env.scope x) (he : PE X e te) (hs : swapsWith e (some (.Name x pos')) pos.line X.env = pure false := by rfl) (hf : X.fn x = true ∨ X.env.scope.names.lookup x = some .local := by first | exact .inl rfl | exact .inr rfl | assumption) :
    PS X (.Assign [.Name x pos'] e pos) (tAsg te (gName i)) := by
  intro pins s σ H D I h
  refine wpAny_Assign_Name (thn (he pins s σ H _ I h) fun v s1 ⟨y, H1, I1, r1, q1⟩ => ?_) hs
  exact store_ok I1 hN hi hx r1 (fun s2 I2 => ⟨_, H1, I2, q1⟩) hf
end
section
variable {X : Cx} {pos : Pos}
end
structure It where
  go : Nat → Hp → Prop
  yld : Nat → Hp → V → Hp → Prop
  stop : Nat → Hp → Prop
noncomputable def FpOk (X : Cx) (pins : List (Addr × Obj)) (H : Hp) (b : Addr) : Prop :=
  H b = none ∧ b ≠ X.env.locals ∧ b ∉ X.fs ∧ (b ∈ X.ex ∨ X.s₀.heap.objs.size ≤ b) ∧ (∀ x c, X.env.cells.lookup x = some c → c ≠ b) ∧ ∀ p ∈ X.pn ++ pins, p.1 ≠ b
theorem Inv.fpOk {X : Cx} {pins : List (Addr × Obj)} {σ : St} {H H' : Hp} {s : Shared} {b : Addr} (I : Inv X pins σ H s) (hb : s.heap.objs.size ≤ b) (hn : H' b = none) : FpOk X pins H' b := by
  refine ⟨hn, Nat.ne_of_gt (Nat.lt_of_lt_of_le I.lt hb), I.nofs hb, .inr (Nat.le_trans I.sz hb), fun x c e z => ?_, fun p hp z => ?_⟩
  · obtain ⟨v, q⟩ := I.cell x c e
    exact absurd (Nat.lt_of_lt_of_le q.lt (by rw [z]; exact hb)) (Nat.lt_irrefl _)
  · exact absurd (Nat.lt_of_lt_of_le (Heap.lt_size (I.pin p hp).1) (by rw [z]; exact hb)) (Nat.lt_irrefl _)
structure Turn (P : Program) (w : World) (K : PySem.W.Frag) (tg : Expr) (J : It) (fp : List Addr) (it : Addr) (tn : Nat → Heap → Prop) : Prop where
  mem : it ∈ fp
  obj : ∀ i h, tn i h → ∀ b ∈ fp, ∃ o, h.get? b = some o ∧ ∀ v, o.data ≠ .cell v
  keep : ∀ i h h', tn i h → (∀ b ∈ fp, ∀ o, h.get? b = some o → h'.get? b = some o) → tn i h'
  item : ∀ (X : Cx), X.prog = P → X.w = w → X.K = K → X.calm = true → ∀ (i : Nat) (pins : List (Addr × Obj)) (s : Shared) (σ : St) (H : Hp) (E : Value → Shared → Prop), Inv X pins σ H s → (∀ b ∈ fp, FpOk X pins H b) → tn i s.heap → J.go i H →
    wpAny (model P w) X.A (pyNext (.ref it)) (fun r s1 => ∃ u, r = some u ∧
      wpAny (model P w) X.A (letOwnedTupleGo tg (.ref it) u) (fun _ s2 => ∃ x H', Inv X pins σ H' s2 ∧ RelV x u ∧ J.yld i H x H' ∧ tn (i + 1) s2.heap ∧ ∀ b ∈ fp, H' b = none) E s1) E s
  done : ∀ (X : Cx), X.prog = P → X.w = w → X.K = K → X.calm = true → ∀ (i : Nat) (pins : List (Addr × Obj)) (s : Shared) (σ : St) (H : Hp) (E : Value → Shared → Prop), Inv X pins σ H s → (∀ b ∈ fp, FpOk X pins H b) → tn i s.heap → J.stop i H →
    wpAny (model P w) X.A (pyNext (.ref it)) (fun r s1 => r = none ∧ Inv X pins σ H s1) E s
  self : ∀ (A : Around) (i : Nat) (s : Shared) (Q : Value → Shared → Prop) (E : Value → Shared → Prop), tn i s.heap → Q (.ref it) s → wpAny (model P w) A (pyIter (.ref it)) Q E s
noncomputable abbrev TI := St → Hp → (It → Hp → Prop) → Prop
noncomputable def PIE (X : Cx) (pins : List (Addr × Obj)) (σ : St) (tg : Expr) (R : It → Hp → Prop) (itv : Value) (s2 : Shared) : Prop :=
  ∃ (it : Addr) (fp : List Addr) (tn : Nat → Heap → Prop) (J : It) (H' : Hp), itv = .ref it ∧ Inv X pins σ H' s2 ∧ Turn X.prog X.w X.K tg J fp it tn ∧ tn 0 s2.heap ∧ (∀ b ∈ fp, FpOk X pins H' b) ∧ R J H'
noncomputable def PI (X : Cx) (tg iter : Expr) (wi : TI) : Prop :=
  ∀ (pins : List (Addr × Obj)) (s : Shared) (σ : St) (H : Hp) (R : It → Hp → Prop), Inv X pins σ H s → wi σ H R →
    wpAny (model X.prog X.w) X.A (eval iter X.env) (fun v s1 => wpAny (model X.prog X.w) X.A (pyIter v) (PIE X pins σ tg R) X.xe s1) X.xe s
theorem go_of {M : Model} {A : Around} {E : Value → Shared → Prop} {s : Shared} {tg : Expr} {it : Addr} {u : Value} {o : Obj} {n : String} {vs : Array Value} {Q : Unit → Shared → Prop} (ho : s.heap.get? it = some o) (hc : o.cls = .type n) (hd : o.data = .fields vs)
    (hn : ["enumerate", "zip", "dict_itemiterator", "dict_reverseitemiterator", "odict_iterator", "itertools.zip_longest", "itertools.pairwise"].contains n = false) (hQ : Q () s) : wpAny M A (letOwnedTupleGo tg (.ref it) u) Q E s := by
  unfold letOwnedTupleGo
  cases tg <;> first
    | exact wpAny_pure hQ
    | (cases u <;> first
        | exact wpAny_pure hQ
        | (refine wpAny_bind (wpAny_load ho ?_)
           rw [hc, hd]
           show wpAny M A (if (["enumerate", "zip", "dict_itemiterator", "dict_reverseitemiterator", "odict_iterator", "itertools.zip_longest", "itertools.pairwise"].contains n && vs[0]? == some (rawInt _)) = true then _ else _) Q E s
           rw [if_neg (by intro h; rw [hn, Bool.false_and] at h; cases h)]
           exact wpAny_pure hQ))
noncomputable def Itl (K : PySem.W.Frag) (a : Addr) : It :=
  ⟨fun i H => ∃ xs x, SqL K H a xs ∧ xs[i]? = some x, fun i H x H' => H' = H ∧ ∀ xs, SqL K H a xs → xs[i]? = some x, fun i H => ∃ xs, SqL K H a xs ∧ xs.length ≤ i⟩
noncomputable def Itt (K : PySem.W.Frag) (a : Addr) : It :=
  ⟨fun i H => ∃ xs x, SqT K H a xs ∧ xs[i]? = some x, fun i H x H' => H' = H ∧ ∀ xs, SqT K H a xs → xs[i]? = some x, fun i H => ∃ xs, SqT K H a xs ∧ xs.length ≤ i⟩
noncomputable def Itr (lo : Int) (n : Nat) : It := ⟨fun i _ => i < n, fun i H x H' => H' = H ∧ x = .int (lo + i), fun i _ => n ≤ i⟩
theorem turn_list {P : Program} {w : World} {K : PySem.W.Frag} {tg : Expr} (a it : Addr) : Turn P w K tg (Itl K a) [it] it (fun i h => h.IsListIter it a i) where
  mem := by simp
  obj := fun i h st b hb => by
    have e : b = it := by simpa using hb
    subst e
    obtain ⟨o, e, c, d⟩ := st
    exact ⟨o, e, fun v z => by rw [d] at z; cases z⟩
  keep := fun i h h' st k => st.at fun o e => k it (by simp) o e
  item := by
    intro X hP hw hK hc i pins s σ H E I hf st hg
    subst hP hw hK
    obtain ⟨xs, x, hq, hx⟩ := hg
    obtain ⟨its, rv, p, hz⟩ := I.list hq
    obtain ⟨u, hu, ru⟩ := rv.get hx
    obtain ⟨f0, f1, f2, f3, f4, f5⟩ := hf it (by simp)
    refine wpAny_pyNext_list_item st p.isList (x := u) (by simpa using hu) fun h' st' sb => ?_
    have I1 : Inv X pins σ H { s with heap := h' } := I.turned (t' := s.toks) (fun b o hb e => (sb.2 b hb).trans e) f0 f1 f3 f4 f5
    obtain ⟨o, e, c, d⟩ := id st'
    exact ⟨u, rfl, go_of (s := { s with heap := h' }) e c d (by decide) ⟨x, H, I1, ru, ⟨rfl, fun ys hy => by rw [I.list_inj hy hq]; exact hx⟩, st', fun b hb => (hf b hb).1⟩⟩
  done := by
    intro X hP hw hK hc i pins s σ H E I hf st hg
    subst hP hw hK
    obtain ⟨xs, hq, hx⟩ := hg
    obtain ⟨its, rv, p, hz⟩ := I.list hq
    obtain ⟨f0, f1, f2, f3, f4, f5⟩ := hf it (by simp)
    have hl := rv.length
    exact wpAny_pyNext_list_end (I.ok.hd hc) st p.isList (by simp; omega) fun h' eb => ⟨rfl, I.turned (t' := s.toks) (fun b o hb e => eb b o hb e) f0 f1 f3 f4 f5⟩
  self := fun _ _ _ _ _ st h => wpAny_pyIter_listiter st h
theorem turn_tuple {P : Program} {w : World} {K : PySem.W.Frag} {tg : Expr} (a it : Addr) : Turn P w K tg (Itt K a) [it] it (fun i h => h.IsTupleIter it a i) where
  mem := by simp
  obj := fun i h st b hb => by
    have e : b = it := by simpa using hb
    subst e
    obtain ⟨o, e, c, d⟩ := st
    exact ⟨o, e, fun v z => by rw [d] at z; cases z⟩
  keep := fun i h h' st k => st.at fun o e => k it (by simp) o e
  item := by
    intro X hP hw hK hc i pins s σ H E I hf st hg
    subst hP hw hK
    obtain ⟨xs, x, hq, hx⟩ := hg
    obtain ⟨its, rv, p, hz⟩ := I.tuple hq
    obtain ⟨u, hu, ru⟩ := rv.get hx
    obtain ⟨f0, f1, f2, f3, f4, f5⟩ := hf it (by simp)
    refine wpAny_pyNext_tuple_item st (show s.heap.IsTuple a its.toArray from p) (x := u) (by simpa using hu) fun h' st' sb => ?_
    have I1 : Inv X pins σ H { s with heap := h' } := I.turned (t' := s.toks) (fun b o hb e => (sb.2 b hb).trans e) f0 f1 f3 f4 f5
    obtain ⟨o, e, c, d⟩ := id st'
    exact ⟨u, rfl, go_of (s := { s with heap := h' }) e c d (by decide) ⟨x, H, I1, ru, ⟨rfl, fun ys hy => by rw [I.tuple_inj hy hq]; exact hx⟩, st', fun b hb => (hf b hb).1⟩⟩
  done := by
    intro X hP hw hK hc i pins s σ H E I hf st hg
    subst hP hw hK
    obtain ⟨xs, hq, hx⟩ := hg
    obtain ⟨its, rv, p, hz⟩ := I.tuple hq
    obtain ⟨f0, f1, f2, f3, f4, f5⟩ := hf it (by simp)
    have hl := rv.length
    exact wpAny_pyNext_tuple_end (I.ok.hd hc) st (show s.heap.IsTuple a its.toArray from p) (by simp; omega) fun h' eb => ⟨rfl, I.turned (t' := s.toks) (fun b o hb e => eb b o hb e) f0 f1 f3 f4 f5⟩
  self := fun _ _ _ _ _ st h => wpAny_pyIter_tupleiter st h
theorem turn_range {P : Program} {w : World} {K : PySem.W.Frag} {tg : Expr} (it : Addr) (lo : Int) (n : Nat) : Turn P w K tg (Itr lo n) [it] it (fun i h => IsRangeIter h it (lo + (i : Nat) * 1) ((n : Int) - (i : Nat)) 1) where
  mem := by simp
  obj := fun i h st b hb => by
    have e : b = it := by simpa using hb
    subst e
    exact ⟨_, st, fun v z => by
      have z' : Data.fields _ = Data.cell v := z
      cases z'⟩
  keep := fun i h h' st k => k it (by simp) _ st
  item := by
    intro X hP hw hK hc i pins s σ H E I hf st hg
    subst hP hw hK
    obtain ⟨f0, f1, f2, f3, f4, f5⟩ := hf it (by simp)
    have W := Walks.range (prog := X.prog) (w := X.w) (I.ok.hd hc) it lo 1 n
    refine W.item i s _ _ hg st fun v h' tk hv st' kk => ?_
    obtain ⟨t, rfl⟩ := hv
    have I1 : Inv X pins σ H { s with heap := h', toks := tk } := I.turned (fun b o hb e => kk b o (by simpa using hb) e) f0 f1 f3 f4 f5
    refine ⟨_, rfl, go_of (s := { s with heap := h', toks := tk }) (n := "range_iterator") st' rfl rfl (by decide) ⟨.int (lo + i), H, I1, ⟨t, ?_⟩, ⟨rfl, rfl⟩, st', fun b hb => (hf b hb).1⟩⟩
    rw [Int.mul_one]
  done := by
    intro X hP hw hK hc i pins s σ H E I hf st hg
    subst hP hw hK
    obtain ⟨f0, f1, f2, f3, f4, f5⟩ := hf it (by simp)
    exact wpAny_pyNext_range_end (I.ok.hd hc) st (by have : n ≤ i := hg; omega) fun h' eb => ⟨rfl, I.turned (t' := s.toks) (fun b o hb e => eb b o hb e) f0 f1 f3 f4 f5⟩
  self := fun _ _ _ _ _ st h => wpAny_pyIter_rangeiter st h
end L2
namespace L2
open PySem PySem.Spec PyProof.Rows
section
variable {X : Cx} {tg : Expr}
theorem range_it {pins : List (Addr × Obj)} {σ : St} {H : Hp} {s : Shared} {R : It → Hp → Prop} {E : Value → Shared → Prop} {lo hi : Int} {t u v : Tok} {tk : Nat} (I : Inv X pins σ H s) (h1 : -(2 ^ 62) ≤ lo) (h2 : lo < 2 ^ 62) (h3 : -(2 ^ 62) ≤ hi) (h4 : hi < 2 ^ 62)
    (q : R (Itr lo (hi - lo).toNat) H) : wpAny (model X.prog X.w) X.A (pyIter (.ref s.heap.objs.size)) (PIE X pins σ tg R) E { s with heap := s.heap.push { cls := .type "range", data := .fields #[.int lo t, .int hi u, .int 1 v] }, toks := tk } := by
  refine wpAny_pyIter_range (IsRange.new ..) (small_one h1 h2 h3 h4) ?_
  have I1 : Inv X pins σ H { s with heap := s.heap.push { cls := .type "range", data := .fields #[.int lo t, .int hi u, .int 1 v] }, toks := tk } := I.kept fun b o e => Heap.get?_push_of_some _ e
  refine ⟨(s.heap.push { cls := .type "range", data := .fields #[.int lo t, .int hi u, .int 1 v] }).objs.size, [(s.heap.push { cls := .type "range", data := .fields #[.int lo t, .int hi u, .int 1 v] }).objs.size], _, _, H, rfl,
    I1.kept (t' := tk) fun b o e => Heap.get?_push_of_some _ e, turn_range _ lo (hi - lo).toNat, ?_, fun b hb => ?_, q⟩
  · have e1 : lo + ((0 : Nat) : Int) * 1 = lo := by simp
    have e2 : (((hi - lo).toNat : Nat) : Int) - ((0 : Nat) : Int) = Builtin.Range.rangeSize lo hi 1 := by rw [rangeSize_one]; split <;> omega
    show IsRangeIter _ _ (lo + ((0 : Nat) : Int) * 1) ((((hi - lo).toNat : Nat) : Int) - ((0 : Nat) : Int)) 1
    rw [e1, e2]
    exact Heap.get?_push_size _ rfl
  · have e : b = (s.heap.push { cls := .type "range", data := .fields #[.int lo t, .int hi u, .int 1 v] }).objs.size := by simpa using hb
    subst e
    exact I1.fpOk (Nat.le_refl _) (I1.hok.fresh (Nat.le_refl _))
noncomputable def iRng1 (ta : TA) : TI := fun σ H R => ta σ H fun vs H1 => ∃ j : Int, vs = [.int j] ∧ -(2 ^ 62) ≤ j ∧ j < 2 ^ 62 ∧ R (Itr 0 j.toNat) H1
noncomputable def iRng2 (ta : TA) : TI := fun σ H R => ta σ H fun vs H1 => ∃ i j : Int, vs = [.int i, .int j] ∧ (-(2 ^ 62) ≤ i ∧ i < 2 ^ 62 ∧ -(2 ^ 62) ≤ j ∧ j < 2 ^ 62) ∧ R (Itr i (j - i).toNat) H1
theorem pi_range1 {a : Expr} {ta : TA} {p pos : Pos} (hg : Gl X "range") (hm : X.mg "range" = none) (ha : PA X [a] ta) (hs : starEach [a] X.env = [(false, eval a X.env)] := by rfl) : PI X tg (.Call (.Name "range" p) [a] [] pos) (iRng1 ta) := by
  intro pins s σ H R I h
  refine Call_ (ld_blt I hg hm boot_range (PyProof.Rows.callWith_type1 (thn (ha pos pins s σ H _ I h) fun us s1 ⟨vs, H1, I1, r1, q1⟩ => ?_) hs rfl))
  obtain ⟨j, e, q1, q2, q⟩ := q1
  subst e
  cases r1 with
  | cons r rr =>
    cases rr
    obtain ⟨t, rfl⟩ := r
    exact call_range_1 (range_it I1 (by omega) (by omega) q1 q2 (by simpa using q))
theorem pi_range2 {a b : Expr} {ta : TA} {p pos : Pos} (hg : Gl X "range") (hm : X.mg "range" = none) (ha : PA X [a, b] ta) (hs : starEach [a, b] X.env = [(false, eval a X.env), (false, eval b X.env)] := by rfl) (hs2 : starEach [b] X.env = [(false, eval b X.env)] := by rfl) :
    PI X tg (.Call (.Name "range" p) [a, b] [] pos) (iRng2 ta) := by
  intro pins s σ H R I h
  refine Call_ (ld_blt I hg hm boot_range (PyProof.Rows.callWith_type1 (thn (ha pos pins s σ H _ I h) fun us s1 ⟨vs, H1, I1, r1, q1⟩ => ?_) (by rw [hs, hs2]) (by rw [hs2]; rfl)))
  obtain ⟨i, j, e, ⟨q1, q2, q3, q4⟩, q⟩ := q1
  subst e
  cases r1 with
  | cons r rr =>
    cases rr with
    | cons r' rr =>
      cases rr
      obtain ⟨t, rfl⟩ := r
      obtain ⟨t', rfl⟩ := r'
      exact call_range_2 (range_it I1 q1 q2 q3 q4 q)
noncomputable def tFor (wi : TI) (g : TG) (tb : TS) : TS := fun D σ H => wi σ H fun J H1 => ∃ W : Nat → Nat → St → Hp → Prop, (∃ m, W 0 m σ H1) ∧ ∀ i m σ H, W i m σ H →
  (J.stop i H ∧ D.nx σ H) ∨ (J.go i H ∧ ∃ N : St → Hp → Prop, (∀ σ' H', N σ' H' → ∃ m', m' < m ∧ W (i + 1) m' σ' H') ∧ ∀ x H', J.yld i H x H' → g x σ H' fun σ2 H2 => tb { D with nx := N, ct := N, bk := D.nx } σ2 H2)
noncomputable def pinsAt (fp : List Addr) (h : Heap) : List (Addr × Obj) := fp.filterMap fun b => (h.get? b).map fun o => (b, o)
theorem mem_pinsAt {fp : List Addr} {h : Heap} {b : Addr} {o : Obj} (hb : b ∈ fp) (e : h.get? b = some o) : (b, o) ∈ pinsAt fp h := List.mem_filterMap.mpr ⟨b, hb, by rw [e]; rfl⟩
theorem of_pinsAt {fp : List Addr} {h : Heap} {p : Addr × Obj} (hp : p ∈ pinsAt fp h) : p.1 ∈ fp ∧ h.get? p.1 = some p.2 := by
  obtain ⟨b, hb, e⟩ := List.mem_filterMap.mp hp
  cases q : h.get? b with
  | none => rw [q] at e; cases e
  | some o =>
    rw [q] at e
    have e' : (b, o) = p := Option.some.inj e
    subst e'
    exact ⟨hb, q⟩
theorem Inv.pinned {pins : List (Addr × Obj)} {σ : St} {H : Hp} {s : Shared} {fp : List Addr} (I : Inv X pins σ H s) (hf : ∀ b ∈ fp, FpOk X pins H b) (ho : ∀ b ∈ fp, ∃ o, s.heap.get? b = some o ∧ ∀ v, o.data ≠ .cell v) : Inv X (pins ++ pinsAt fp s.heap) σ H s :=
  I.pins_of fun p hp => (List.mem_append.mp hp).elim (fun z => I.pin p (List.mem_append_right _ z)) fun z => by
    obtain ⟨hb, e⟩ := of_pinsAt z
    obtain ⟨f0, f1, f2, _⟩ := hf p.1 hb
    obtain ⟨o, e', d⟩ := ho p.1 hb
    rw [e] at e'; cases e'
    exact ⟨e, f0, f1, f2, d⟩
theorem Inv.unpinned {pins pl : List (Addr × Obj)} {σ : St} {H : Hp} {s : Shared} (I : Inv X (pins ++ pl) σ H s) : Inv X pins σ H s := I.pins_of fun p hp => I.pin p (List.mem_append_right _ (List.mem_append_left _ hp))
theorem ps_for {iter : Expr} {body : List Stmt} {wi : TI} {g : TG} {tb : TS} {pos : Pos} (hp : PassesOwn (model X.prog X.w) X.A X.env X.xe) (hc : X.calm = true) (hi : PI X tg iter wi) (hg : PG X tg g) (hb : PSs X body tb)
    (hs : ∀ x, foldedSetIterable iter X.env x = pure x := by intro _; rfl) : PS X (.For tg iter body [] pos) (tFor wi g tb) := by
  intro pins s σ H D I h
  refine wpAny_For (thn (hi pins s σ H _ I h) fun v s1 h1 => thn h1 fun itv s2 h2 => ?_) hs
  obtain ⟨it, fp, tn, J, H2, e, I2, T, st2, f2, W, ⟨m0, w0⟩, turn⟩ := h2
  subst e
  -- what stays true of the iterator's objects through the loop
  have stat : ∀ {H' : Hp}, (∀ b ∈ fp, H' b = none) → ∀ b ∈ fp, FpOk X pins H' b := fun hn b hb => ⟨hn b hb, (f2 b hb).2⟩
  refine codeAny_forLoop_any (fun n s' => ∃ i σ' H', Inv X pins σ' H' s' ∧ tn i s'.heap ∧ (∀ b ∈ fp, H' b = none) ∧ W i n σ' H') ?_ m0 ⟨0, σ, H2, I2, st2, fun b hb => (f2 b hb).1, w0⟩
  rintro n s3 ⟨i, σ3, H3, I3, st3, fr3, w3⟩
  rcases turn i n σ3 H3 w3 with ⟨stop, qn⟩ | ⟨go, N, hN, step⟩
  · refine wpAny_passesOwn hp (thn (T.done X rfl rfl rfl hc i pins s3 σ3 H3 X.xe I3 (stat fr3) st3 stop) fun r s4 ⟨hr, I4⟩ => ?_)
    subst hr
    exact wpAny_execs_nil ⟨σ3, H3, I4, qn⟩
  · refine wpAny_passesOwn hp (thn (T.item X rfl rfl rfl hc i pins s3 σ3 H3 X.xe I3 (stat fr3) st3 go) fun r s4 ⟨u, hr, h4⟩ => ?_)
    subst hr
    refine wpAny_passesOwn hp (thn h4 fun _ s5 ⟨x, H5, I5, r5, y5, st5, fr5⟩ => ?_)
    have I5' := I5.pinned (stat fr5) (T.obj _ _ st5)
    refine wpAny_passesOwn hp (thn (hg _ s5 σ3 H5 x u _ I5' r5 (step x H5 y5)) fun _ s6 ⟨σ6, H6, I6, q6⟩ => ?_)
    refine wpAny_passesOwn hp (thn (hb _ s6 σ6 H6 _ I6 q6) fun f s7 q7 => ?_)
    have again : ∀ {σ7 : St} {H7 : Hp}, Inv X (pins ++ pinsAt fp s5.heap) σ7 H7 s7 → N σ7 H7 → ∃ m, m < n ∧ ∃ i σ' H', Inv X pins σ' H' s7 ∧ tn i s7.heap ∧ (∀ b ∈ fp, H' b = none) ∧ W i m σ' H' := fun {σ7 H7} I7 n7 => by
      obtain ⟨m', hm, w7⟩ := hN σ7 H7 n7
      refine ⟨m', hm, i + 1, σ7, H7, I7.unpinned, T.keep _ _ _ st5 fun b hb o e => (I7.pin (b, o) (List.mem_append_right _ (List.mem_append_right _ (mem_pinsAt hb e)))).1, fun b hb => ?_, w7⟩
      obtain ⟨o, e, d⟩ := T.obj _ _ st5 b hb
      exact (I7.pin (b, o) (List.mem_append_right _ (List.mem_append_right _ (mem_pinsAt hb e)))).2.1
    cases f with
    | next => obtain ⟨σ7, H7, I7, n7⟩ := q7; exact again I7 n7
    | cont => obtain ⟨σ7, H7, I7, n7⟩ := q7; exact again I7 n7
    | brk => obtain ⟨σ7, H7, I7, q7⟩ := q7; exact ⟨σ7, H7, I7.unpinned, q7⟩
    | ret v => obtain ⟨x7, σ7, H7, I7, r7, q7⟩ := q7; exact ⟨x7, σ7, H7, I7.unpinned, r7, q7⟩
end
end L2
namespace L2
open PySem PySem.Spec PyProof.Rows
noncomputable abbrev R2 := V → V → Hp → VK → Prop
noncomputable def OpR (X : Cx) (f : Value → Value → Sem Value) (r : R2) : Prop :=
  ∀ (pins : List (Addr × Obj)) (s : Shared) (σ : St) (H : Hp) (x y : V) (v u : Value) (Q : VK), Inv X pins σ H s → RelV x v → RelV y u → r x y H Q →
    wpAny (model X.prog X.w) X.A (f v u) (EP X pins σ Q) X.xe s
noncomputable def UnR (X : Cx) (f : Value → Sem Value) (r : V → Hp → VK → Prop) : Prop :=
  ∀ (pins : List (Addr × Obj)) (s : Shared) (σ : St) (H : Hp) (x : V) (v : Value) (Q : VK), Inv X pins σ H s → RelV x v → r x H Q →
    wpAny (model X.prog X.w) X.A (f v) (EP X pins σ Q) X.xe s
noncomputable def CallR (X : Cx) (f : Value) (r : List V → Hp → VK → Prop) : Prop :=
  ∀ (pins : List (Addr × Obj)) (s : Shared) (σ : St) (H : Hp) (xs : List V) (us : List Value) (Q : VK), Inv X pins σ H s → Vals xs us → r xs H Q →
    wpAny (model X.prog X.w) X.A (call f us) (EP X pins σ Q) X.xe s
noncomputable def TruR (X : Cx) (r : V → Hp → (Bool → Hp → Prop) → Prop) : Prop :=
  ∀ (pins : List (Addr × Obj)) (s : Shared) (σ : St) (H : Hp) (x : V) (v : Value) (Q : Bool → Hp → Prop), Inv X pins σ H s → RelV x v → r x H Q →
    wpAny (model X.prog X.w) X.A (truthy v) (TP X pins σ Q) X.xe s
noncomputable def tOp (r : R2) (ta tb : TE) : TE := fun σ H Q => ta σ H fun x H1 => tb σ H1 fun y H2 => r x y H2 Q
noncomputable def tUn (r : V → Hp → VK → Prop) (ta : TE) : TE := fun σ H Q => ta σ H fun x H1 => r x H1 Q
noncomputable def rI (C : Int → Int → Prop) (g : Int → Int → V) : R2 := fun x y H Q => ∃ i j, x = .int i ∧ y = .int j ∧ C i j ∧ Q (g i j) H
noncomputable def rI0 (g : Int → Int → V) : R2 := fun x y H Q => ∃ i j, x = .int i ∧ y = .int j ∧ Q (g i j) H
noncomputable def rU (g : Int → V) : V → Hp → VK → Prop := fun x H Q => ∃ i, x = .int i ∧ Q (g i) H
section
variable {X : Cx} {a b c : Expr} {ta tb tc : TE} {pos : Pos}
theorem binT (ha : PE X a ta) (hb : PE X b tb) {pins : List (Addr × Obj)} {s : Shared} {σ : St} {H : Hp} {R : V → V → Hp → Prop} (I : Inv X pins σ H s)
    (h : ta σ H fun x H1 => tb σ H1 fun y H2 => R x y H2) {Q : Value → Shared → Prop} {f : Value → Value → Sem Value}
    (hf : ∀ v u s2 x y H2, Inv X pins σ H2 s2 → RelV x v → RelV y u → R x y H2 → wpAny (model X.prog X.w) X.A (f v u) Q X.xe s2) :
    wpAny (model X.prog X.w) X.A (eval a X.env) (fun v s₁ => wpAny (model X.prog X.w) X.A (eval b X.env) (fun u s₂ => wpAny (model X.prog X.w) X.A (f v u) Q X.xe s₂) X.xe s₁) X.xe s := by
  refine thn (ha pins s σ H _ I h) fun v s1 ⟨x, H1, I1, r1, q1⟩ => ?_
  refine thn (hb pins s1 σ H1 _ I1 q1) fun u s2 ⟨y, H2, I2, r2, q2⟩ => ?_
  exact hf v u s2 x y H2 I2 r1 r2 q2
theorem pe_op {op : Operator} {r : R2} (ho : OpR X (binaryOp op) r) (ha : PE X a ta) (hb : PE X b tb) : PE X (.BinOp a op b pos) (tOp r ta tb) := by
  intro pins s σ H Q I h
  exact wpAny_BinOp (binT ha hb I h fun v u s2 x y H2 I2 rx ry q => ho pins s2 σ H2 x y v u Q I2 rx ry q)
theorem pe_un {op : UnaryOp} {r : V → Hp → VK → Prop} (ho : UnR X (unaryOp op) r) (ha : PE X a ta) : PE X (.UnaryOp op a pos) (tUn r ta) := by
  intro pins s σ H Q I h
  exact UnaryOp_ (thn (ha pins s σ H _ I h) fun v s1 ⟨x, H1, I1, r1, q1⟩ => ho pins s1 σ H1 x v Q I1 r1 q1)
theorem opI {f : Value → Value → Sem Value} {C : Int → Int → Prop} {g : Int → Int → Int}
    (rule : ∀ (i j : Int) (t u : Tok) (s : Shared) (Q : Value → Shared → Prop) (E : Value → Shared → Prop), C i j → Q (.int (g i j) s.toks) { s with toks := s.toks + 1 } → wpAny (model X.prog X.w) X.A (f (.int i t) (.int j u)) Q E s) :
    OpR X f (rI C fun i j => .int (g i j)) := by
  intro pins s σ H x y v u Q I rx ry h
  obtain ⟨i, j, rfl, rfl, hc, q⟩ := h
  obtain ⟨t, rfl⟩ := rx
  obtain ⟨t', rfl⟩ := ry
  exact rule i j t t' s _ _ hc ⟨.int (g i j), H, I.tok _, ⟨_, rfl⟩, q⟩
theorem opI0 {f : Value → Value → Sem Value} {g : Int → Int → Int}
    (rule : ∀ (i j : Int) (t u : Tok) (s : Shared) (Q : Value → Shared → Prop) (E : Value → Shared → Prop), Q (.int (g i j) s.toks) { s with toks := s.toks + 1 } → wpAny (model X.prog X.w) X.A (f (.int i t) (.int j u)) Q E s) :
    OpR X f (rI0 fun i j => .int (g i j)) := by
  intro pins s σ H x y v u Q I rx ry h
  obtain ⟨i, j, rfl, rfl, q⟩ := h
  obtain ⟨t, rfl⟩ := rx
  obtain ⟨t', rfl⟩ := ry
  exact rule i j t t' s _ _ ⟨.int (g i j), H, I.tok _, ⟨_, rfl⟩, q⟩
noncomputable def CDiv (i j : Int) : Prop := 0 < j ∧ j < 1073741824
noncomputable def CMul (i j : Int) : Prop := (-(2 ^ 64) < i ∧ i < 2 ^ 64) ∨ (-(2 ^ 64) < j ∧ j < 2 ^ 64)
theorem CMul.ok {i j : Int} (h : CMul i j) : IntMulOk i j := by
  rcases h with ⟨h1, h2⟩ | ⟨h1, h2⟩
  · exact .of_left (intBits_le_64 h1 h2)
  · exact .of_right (intBits_le_64 h1 h2)
theorem op_add : OpR X (binaryOp .Add) (rI0 fun i j => .int (i + j)) := opI0 fun _ _ _ _ _ _ _ q => add_int q
theorem op_sub : OpR X (binaryOp .Sub) (rI0 fun i j => .int (i - j)) := opI0 fun _ _ _ _ _ _ _ q => sub_int q
theorem op_mul : OpR X (binaryOp .Mult) (rI CMul fun i j => .int (i * j)) := opI fun _ _ _ _ _ _ _ hc q => mul_int q hc.ok
theorem op_fdiv : OpR X (binaryOp .FloorDiv) (rI CDiv fun i j => .int (i / j)) := opI fun i j _ _ _ _ _ hc q => by
  have h1 : (0 : Int) < j := hc.1
  have h2 : j < 1073741824 := hc.2
  exact floordiv_int (by omega) (by rw [Int.fdiv_eq_ediv_of_nonneg i (by omega)]; exact q) (.inl (PyProof.noPylong_small (by omega)))
theorem op_mod : OpR X (binaryOp .Mod) (rI (fun _ j => 0 < j) fun i j => .int (i % j)) := opI fun i j _ _ _ _ _ hc q => by
  have h1 : (0 : Int) < j := hc
  exact mod_int' (by omega) (by rw [Int.fmod_eq_emod_of_nonneg i (by omega)]; exact q)
theorem unI {f : Value → Sem Value} {g : Int → Int}
    (rule : ∀ (i : Int) (t : Tok) (s : Shared) (Q : Value → Shared → Prop) (E : Value → Shared → Prop), Q (.int (g i) s.toks) { s with toks := s.toks + 1 } → wpAny (model X.prog X.w) X.A (f (.int i t)) Q E s) :
    UnR X f (rU fun i => .int (g i)) := by
  intro pins s σ H x v Q I rx h
  obtain ⟨i, rfl, q⟩ := h
  obtain ⟨t, rfl⟩ := rx
  exact rule i t s _ _ ⟨.int (g i), H, I.tok _, ⟨_, rfl⟩, q⟩
theorem un_neg : UnR X (unaryOp .USub) (rU fun i => .int (-i)) := unI fun _ _ _ _ _ q => neg_int q
end
section
variable {X : Cx} {a b c : Expr} {ta tb tc : TE} {pos : Pos}
theorem OpR.or {f : Value → Value → Sem Value} {r r' : R2} (h : OpR X f r) (h' : OpR X f r') : OpR X f (fun x y H Q => r x y H Q ∨ r' x y H Q) := by
  intro pins s σ H x y v u Q I rx ry q
  rcases q with q | q
  · exact h pins s σ H x y v u Q I rx ry q
  · exact h' pins s σ H x y v u Q I rx ry q
theorem pe_cmpR {op : CmpOp} {r : R2} (ho : OpR X (compareOp op) r) (ha : PE X a ta) (hb : PE X b tb) (hm : behindInMarks op b = false) : PE X (.Compare a [op] [b] pos) (tOp r ta tb) := by
  intro pins s σ H Q I h
  exact wpAny_Compare1 (binT ha hb I h fun v u s2 x y H2 I2 rx ry q => ho pins s2 σ H2 x y v u Q I2 rx ry q) hm
noncomputable def tTest (t : TE) : TT := fun σ H Q => t σ H fun x H' => ∃ k, x = .bl k ∧ Q k H'
theorem pt_cmpR {op : CmpOp} {r : R2} (ho : OpR X (compareOp op) r) (ha : PE X a ta) (hb : PE X b tb) (hm : behindInMarks op b = false) : PT X (.Compare a [op] [b] pos) (tTest (tOp r ta tb)) := by
  intro pins s σ H Q I h
  refine wpAny_isTrue_Compare1 (thn (ha pins s σ H _ I h) fun v s1 ⟨x, H1, I1, r1, q1⟩ => thn (hb pins s1 σ H1 _ I1 q1) fun u s2 ⟨y, H2, I2, r2, q2⟩ =>
    thn (ho pins s2 σ H2 x y v u _ I2 r1 r2 q2) fun c s3 ⟨z, H3, I3, r3, k, e, q3⟩ => ?_) hm
  subst e
  cases r3
  exact wpAny_truthy_bool ⟨H3, I3, q3⟩
noncomputable def tChain (r r' : R2) (ta tb tc : TE) : TE := fun σ H Q => ta σ H fun x H1 => tb σ H1 fun y H2 => r x y H2 fun z H3 => ∃ k, z = .bl k ∧
  (if k = true then tc σ H3 fun w' H4 => r' y w' H4 Q else Q (.bl false) H3)
theorem pe_chain {op op' : CmpOp} {r r' : R2} (ho : OpR X (compareOp op) r) (ho' : OpR X (compareOp op') r') (ha : PE X a ta) (hb : PE X b tb) (hc : PE X c tc)
    (hm : lastMarks [op, op'] [b, c] = false := by with_unfolding_all rfl) : PE X (.Compare a [op, op'] [b, c] pos) (tChain r r' ta tb tc) := by
  intro pins s σ H Q I h
  refine Compare_chain (thn (ha pins s σ H _ I h) fun v s1 ⟨x, H1, I1, r1, q1⟩ => chain_link (thn (hb pins s1 σ H1 _ I1 q1) fun u s2 ⟨y, H2, I2, r2, q2⟩ =>
    thn (ho pins s2 σ H2 x y v u _ I2 r1 r2 q2) fun d s3 ⟨z, H3, I3, r3, k, e, q3⟩ => ?_)) hm
  subst e
  cases r3
  refine wpAny_truthy_bool ?_
  cases k with
  | false => exact ite_ff ⟨.bl false, H3, I3, rfl, q3⟩
  | true => exact ite_tt (chain_last (thn (hc pins s3 σ H3 _ I3 q3) fun w' s4 ⟨z', H4, I4, r4, q4⟩ => ho' pins s4 σ H4 y z' u w' Q I4 r2 r4 q4))
theorem pt_chain {op op' : CmpOp} {r r' : R2} (ho : OpR X (compareOp op) r) (ho' : OpR X (compareOp op') r') (ha : PE X a ta) (hb : PE X b tb) (hc : PE X c tc)
    (hm : lastMarks [op, op'] [b, c] = false := by with_unfolding_all rfl) : PT X (.Compare a [op, op'] [b, c] pos) (tTest (tChain r r' ta tb tc)) := by
  intro pins s σ H Q I h
  refine isTrue_chain (thn (ha pins s σ H _ I h) fun v s1 ⟨x, H1, I1, r1, q1⟩ => test_link (thn (hb pins s1 σ H1 _ I1 q1) fun u s2 ⟨y, H2, I2, r2, q2⟩ =>
    thn (ho pins s2 σ H2 x y v u _ I2 r1 r2 q2) fun d s3 ⟨z, H3, I3, r3, k, e, q3⟩ => ?_)) hm
  subst e
  cases r3
  refine wpAny_truthy_bool ?_
  cases k with
  | false =>
    obtain ⟨k', e', q'⟩ := q3
    cases e'
    exact ite_ff ⟨H3, I3, q'⟩
  | true =>
    refine ite_tt (test_last (thn (hc pins s3 σ H3 _ I3 q3) fun w' s4 ⟨z', H4, I4, r4, q4⟩ => thn (ho' pins s4 σ H4 y z' u w' _ I4 r2 r4 q4) fun d' s5 ⟨z2, H5, I5, r5, k2, e2, q5⟩ => ?_))
    subst e2
    cases r5
    exact wpAny_truthy_bool ⟨H5, I5, q5⟩
noncomputable def TruV (K : PySem.W.Frag) (x : V) (H : Hp) (k : Bool) : Prop :=
  match x with
  | .non => k = false
  | .bl b => k = b
  | .int i => k = (i != 0)
  | .str y => y.length ≤ sizeLine ∧ k = ((y.length : Int) != 0)
  | .byt y => y.size ≤ sizeLine ∧ k = ((y.size : Int) != 0)
  | .ref p => (∃ xs, SqL K H p xs ∧ k = !xs.isEmpty) ∨ (∃ xs, SqT K H p xs ∧ k = !xs.isEmpty) ∨ ∃ kvs, H p = some (.dK kvs) ∧ k = !kvs.isEmpty
  | _ => False
theorem isEmpty_kv {κ : Type} {kvs : List (κ × V)} {vs : List (κ × Value)} (r : KV kvs vs) : (!vs.isEmpty) = !kvs.isEmpty := by
  cases r <;> rfl
theorem isEmpty_of {xs : List V} {its : List Value} (r : Vals xs its) : (!its.toArray.isEmpty) = !xs.isEmpty := by
  cases r <;> simp
theorem line63 : (sizeLine : Nat) < 2 ^ 63 := by rw [sizeLine_eq]; decide
theorem tru_ok : TruR X (fun x H Q => ∃ k, TruV X.K x H k ∧ Q k H) := by
  intro pins s σ H x v Q I rx h
  obtain ⟨k, e, q⟩ := h
  have hl := line63
  have hs : sizeLine = 16777216 := sizeLine_eq
  cases x with
  | non =>
    cases rx
    have e' : k = false := e
    subst e'
    exact truthy_none ⟨H, I, q⟩
  | bl b =>
    cases rx
    have e' : k = b := e
    subst e'
    exact wpAny_truthy_bool ⟨H, I, q⟩
  | int i =>
    obtain ⟨t, rfl⟩ := rx
    have e' : k = (i != 0) := e
    subst e'
    exact PySem.P.truthy_int ⟨H, I, q⟩
  | str y =>
    obtain ⟨t, rfl⟩ := rx
    obtain ⟨hy, e'⟩ : y.length ≤ sizeLine ∧ k = ((y.length : Int) != 0) := e
    subst e'
    exact PySem.P.truthy_str (by omega) ⟨H, I.tok _, q⟩
  | byt y =>
    obtain ⟨t, rfl⟩ := rx
    obtain ⟨hy, e'⟩ : y.size ≤ sizeLine ∧ k = ((y.size : Int) != 0) := e
    subst e'
    exact PySem.W.truthy_bytes (by omega) ⟨H, I.tok _, q⟩
  | ref p =>
    cases rx
    have e' : (∃ xs, SqL X.K H p xs ∧ k = !xs.isEmpty) ∨ (∃ xs, SqT X.K H p xs ∧ k = !xs.isEmpty) ∨ ∃ kvs, H p = some (.dK kvs) ∧ k = !kvs.isEmpty := e
    rcases e' with ⟨xs, hx, e'⟩ | ⟨xs, hx, e'⟩ | ⟨kvs, hx, e'⟩
    · subst e'
      obtain ⟨its, r, pl, hz⟩ := I.list hx
      have hlen := r.length
      exact wpAny_truthy_list pl.isList (by simp only [List.size_toArray]; omega) ⟨H, I.tok _, by rw [isEmpty_of r]; exact q⟩
    · subst e'
      obtain ⟨its, r, pl, hz⟩ := I.tuple hx
      have hlen := r.length
      exact truthy_tuple pl (by simp only [List.size_toArray]; omega) ⟨H, I.tok _, by rw [isEmpty_of r]; exact q⟩
    · subst e'
      obtain ⟨hz, hS, vs, r, m⟩ : kvs.length ≤ sizeLine ∧ (p == sysModules) = false ∧ ∃ vs, KV kvs vs ∧ s.heap.DictOf (mixKind X.prog X.w) p vs := I.hok p _ hx
      have hlen : kvs.length = vs.length := Paired.length r
      exact wpAny_truthy_dict hS m (by omega) ⟨H, I.tok _, by rw [isEmpty_kv r]; exact q⟩
  | _ => exact (show False from e).elim
theorem op_add_str : OpR X (binaryOp .Add) (fun x y H Q => ∃ i j, x = .str i ∧ y = .str j ∧ i.length + j.length ≤ sizeLine ∧ Q (.str (i ++ j)) H) := by
  intro pins s σ H x y v u Q I rx ry h
  obtain ⟨i, j, rfl, rfl, hz, q⟩ := h
  obtain ⟨t, rfl⟩ := rx
  obtain ⟨t', rfl⟩ := ry
  exact add_str (fun t' tk => ⟨.str (i ++ j), H, I.tok _, ⟨_, rfl⟩, q⟩) hz
theorem vals1 {x : V} {us : List Value} (r : Vals [x] us) : ∃ u, us = [u] ∧ RelV x u := by
  cases r with
  | cons r1 r2 => cases r2; exact ⟨_, rfl, r1⟩
theorem vals2 {x y : V} {us : List Value} (r : Vals [x, y] us) : ∃ u w', us = [u, w'] ∧ RelV x u ∧ RelV y w' := by
  cases r with
  | cons r1 r2 =>
    cases r2 with
    | cons r3 r4 => cases r4; exact ⟨_, _, rfl, r1, r3⟩
theorem call_abs : CallR X (.builtin "abs") (fun xs H Q => ∃ i, xs = [.int i] ∧ Q (.int (if i < 0 then -i else i)) H) := by
  intro pins s σ H xs us Q I r h
  obtain ⟨i, rfl, q⟩ := h
  obtain ⟨u, rfl, t, rfl⟩ := vals1 r
  exact call_abs_int fun u tk => ⟨.int (if i < 0 then -i else i), H, I.tok _, ⟨_, rfl⟩, q⟩
theorem call_max2 (hc : X.calm = true) : CallR X (.builtin "max") (fun xs H Q => ∃ i j, xs = [.int i, .int j] ∧ Q (.int (if j > i then j else i)) H) := by
  intro pins s σ H xs us Q I r h
  obtain ⟨i, j, rfl, q⟩ := h
  obtain ⟨u, w', rfl, ⟨t, rfl⟩, ⟨t', rfl⟩⟩ := vals2 r
  refine max_two_ints (I.ok.hd hc) fun h' tk k => ⟨_, H, I.kept k, ?_, q⟩
  by_cases hj : j > i
  · rw [if_pos hj, if_pos hj]; exact ⟨_, rfl⟩
  · rw [if_neg hj, if_neg hj]; exact ⟨_, rfl⟩
theorem call_min2 (hc : X.calm = true) : CallR X (.builtin "min") (fun xs H Q => ∃ i j, xs = [.int i, .int j] ∧ Q (.int (if j < i then j else i)) H) := by
  intro pins s σ H xs us Q I r h
  obtain ⟨i, j, rfl, q⟩ := h
  obtain ⟨u, w', rfl, ⟨t, rfl⟩, ⟨t', rfl⟩⟩ := vals2 r
  refine min_two_ints (I.ok.hd hc) fun h' tk k => ⟨_, H, I.kept k, ?_, q⟩
  by_cases hj : j < i
  · rw [if_pos hj, if_pos hj]; exact ⟨_, rfl⟩
  · rw [if_neg hj, if_neg hj]; exact ⟨_, rfl⟩
theorem call_int1 : CallR X (.type "int") (fun xs H Q => (∃ i, xs = [.int i] ∧ Q (.int i) H) ∨ ∃ k, xs = [.bl k] ∧ Q (.int (if k then 1 else 0)) H) := by
  intro pins s σ H xs us Q I r h
  rcases h with ⟨i, rfl, q⟩ | ⟨k, rfl, q⟩
  · obtain ⟨u, rfl, t, rfl⟩ := vals1 r
    exact call_int_int ⟨.int i, H, I, ⟨_, rfl⟩, q⟩
  · obtain ⟨u, rfl, r1⟩ := vals1 r
    cases r1
    exact call_int_bool ⟨.int (if k then 1 else 0), H, I.tok _, ⟨_, rfl⟩, q⟩
theorem call_str_int : CallR X (.type "str") (fun xs H Q => ∃ i, xs = [.int i] ∧ i.natAbs.log2 < 1920 ∧ Q (.str (toString i)) H) := by
  intro pins s σ H xs us Q I r h
  obtain ⟨i, rfl, hz, q⟩ := h
  obtain ⟨u, rfl, t, rfl⟩ := vals1 r
  exact PySem.P.str_of_int hz ⟨.str _, H, I.tok _, ⟨_, rfl⟩, q⟩
noncomputable def LenV (K : PySem.W.Frag) (x : V) (H : Hp) (n : Nat) : Prop :=
  match x with
  | .str y => y.length ≤ sizeLine ∧ n = y.length
  | .byt y => y.size ≤ sizeLine ∧ n = y.size
  | .ref p => (∃ xs, SqL K H p xs ∧ n = xs.length) ∨ ∃ xs, SqT K H p xs ∧ n = xs.length
  | _ => False
theorem call_len : CallR X (.builtin "len") (fun xs H Q => ∃ x n, xs = [x] ∧ LenV X.K x H n ∧ Q (.int n) H) := by
  intro pins s σ H xs us Q I r h
  obtain ⟨x, n, rfl, e, q⟩ := h
  obtain ⟨u, rfl, rx⟩ := vals1 r
  have hl := line63
  have hs : sizeLine = 16777216 := sizeLine_eq
  cases x with
  | str y =>
    obtain ⟨t, rfl⟩ := rx
    obtain ⟨hy, e'⟩ : y.length ≤ sizeLine ∧ n = y.length := e
    subst e'
    exact len_str (by omega) ⟨.int _, H, I.tok _, ⟨_, rfl⟩, q⟩
  | byt y =>
    obtain ⟨t, rfl⟩ := rx
    obtain ⟨hy, e'⟩ : y.size ≤ sizeLine ∧ n = y.size := e
    subst e'
    exact PySem.W.len_bytes (by omega) ⟨.int _, H, I.tok _, ⟨_, rfl⟩, q⟩
  | ref p =>
    cases rx
    have e' : (∃ xs, SqL X.K H p xs ∧ n = xs.length) ∨ ∃ xs, SqT X.K H p xs ∧ n = xs.length := e
    rcases e' with ⟨xs, hx, e'⟩ | ⟨xs, hx, e'⟩
    · subst e'
      obtain ⟨its, r', pl, hz⟩ := I.list hx
      have hlen := r'.length
      exact Calls.call_len_list pl.isList (by simp only [List.size_toArray]; omega) ⟨.int xs.length, H, I.tok _, ⟨_, by simp only [List.size_toArray]; rw [hlen]⟩, q⟩
    · subst e'
      obtain ⟨its, r', pl, hz⟩ := I.tuple hx
      have hlen := r'.length
      exact len_tuple pl (by simp only [List.size_toArray]; omega) ⟨.int xs.length, H, I.tok _, ⟨_, by simp only [List.size_toArray]; rw [hlen]⟩, q⟩
  | _ => exact (show False from e).elim
end
end L2
namespace L2
open PySem PySem.Spec PyProof.Rows
structure ObjM (h : Heap) (x dx C : Addr) (mA : Str → Option Value) : Prop where
  obj : h.get? x = some (PySem.W.instObj C dx)
  ns : h.Ns1 dx mA
  ne : dx ≠ x
section
variable {prog : Program} {w : World} {A : Around} {E : Value → Shared → Prop} {s : Shared} {K : PySem.W.Frag} {x dx C f : Addr} {mA : Str → Option Value} {name : Str} {v : Value}
end
section
variable {P : Program} {w : World} {H H' : Hp} {h h' : Heap} {a C dx : Addr} {fs fs' : List (Str × V)}
end
structure Cls (K : PySem.W.Frag) (C : Addr) : Prop where
  pg : PySem.W.plainGet K C Str.empty = true
  hd : PySem.W.hasDictIn K C = true
  po : PySem.W.plainOver K C = true
  sa : PySem.W.findIn K (.ref C) "__setattr__" = some (some (.builtin "object.__setattr__"))
theorem Cls.get {K : PySem.W.Frag} {C : Addr} (c : Cls K C) (f : Str) : PySem.W.plainGet K C f = true := c.pg
structure Con (K : PySem.W.Frag) (C : Addr) (f : Str) (v : V) (u : Value) : Prop where
  at_ : PySem.W.findIn K (.ref C) f = some (some u)
  rel : RelV v u
  get : PySem.W.specialIn K u "__get__" = some none
  cp : PySem.W.copiedNames.contains f = false
structure Meth (K : PySem.W.Frag) (C : Addr) (m : Str) (f : Addr) : Prop where
  at_ : PySem.W.findIn K (.ref C) m = some (some (.ref f))
  fn : PySem.W.isFn K (.ref f) = true
  kp : PySem.W.keepIn K (.ref f) = true
section
variable {X : Cx} {pins : List (Addr × Obj)} {σ : St} {H : Hp} {s : Shared} {a C dx : Addr} {fs : List (Str × V)} {f : Str} {v : V} {A : Around} {E : Value → Shared → Prop}
end
section
variable {X : Cx} {o e value : Expr} {f : Str} {pos pos' tpos : Pos} {ta tv : TE}
end
section
variable {X : Cx} {pins : List (Addr × Obj)} {σ : St} {H : Hp} {s : Shared} {A : Around} {E : Value → Shared → Prop} {Q : Value → Shared → Prop} {c : Value} {b : Bool}
inductive TyOf (K : PySem.W.Frag) (H : Hp) : V → Value → Prop where
  | non : TyOf K H .non (.type "NoneType")
  | bl (x : Bool) : TyOf K H (.bl x) (.type "bool")
  | int (i : Int) : TyOf K H (.int i) (.type "int")
  | str (x : Str) : TyOf K H (.str x) (.type "str")
  | flt (x : UInt64) : TyOf K H (.flt x) (.type "float")
  | lst {a : Addr} {xs : List V} (e : H a = some (.lst xs)) : TyOf K H (.ref a) (.type "list")
  | frz {a : Addr} {o : Obj} {xs : List V} (e : H a = some (.frz o (.lst xs))) : TyOf K H (.ref a) (.type "list")
  | tup {a : Addr} {xs : List V} (e : H a = some (.tup xs)) : TyOf K H (.ref a) (.type "tuple")
  | dK {a : Addr} {kvs : List (Key × V)} (e : H a = some (.dK kvs)) : TyOf K H (.ref a) (.type "dict")
  | dT {a : Addr} {kvs : List (List Key × V)} (e : H a = some (.dT kvs)) : TyOf K H (.ref a) (.type "dict")
  | ins {a C dx : Addr} {fs : List (Str × V)} (e : H a = some (.ins C dx fs)) (cl : Cls K C) (ha : PySem.W.findIn K (.ref C) "__class__" = some (some (.builtin "object.__class__")))
      (hn : PySem.W.specialIn K (.builtin "object.__class__") "__get__" = some (some (.builtin "getset_descriptor.__get__"))) (htk : PySem.W.takesIn K (.builtin "object.__class__") = some true)
      (hm : PySem.W.mroIn K C (.type "object") = some true) : TyOf K H (.ref a) (.ref C)
end
end L2
namespace L2
open PySem PySem.Spec PyProof.Rows
structure Room (k : Nat) (A : Around) : Prop where
  hd : A.handled = none
  dp : A.depth + 3 * k + 5 < recursionLimit
  un : A.units + 16 * k + 200 < cLine
theorem Room.mono {j k : Nat} {A : Around} (r : Room k A) (h : j ≤ k) : Room j A := ⟨r.hd, by have := r.dp; omega, by have := r.un; omega⟩
theorem Room.deeper {k : Nat} {A : Around} (r : Room (k + 1) A) (env : Env) : Room k (A.deeper env) :=
  ⟨r.hd, by have := r.dp; show A.depth + 1 + 3 * k + 5 < _; omega, by have := r.un; show A.units + 3 + 16 * k + 200 < _; omega⟩
theorem Room.in1 {k : Nat} {A : Around} (r : Room (k + 1) A) : Room k A.in1 :=
  ⟨r.hd, by have := r.dp; show A.depth + 3 * k + 5 < _; omega, by have := r.un; show A.units + 1 + 16 * k + 200 < _; omega⟩
theorem Room.depth {k : Nat} {A : Around} (r : Room k A) : A.depth < recursionLimit := by have := r.dp; omega
theorem Room.units {k : Nat} {A : Around} (r : Room k A) : A.units + 64 < cLine := by have := r.un; omega
noncomputable def tNil : TA := fun _ H Q => Q [] H
noncomputable def tCons (ta : TE) (tr : TA) : TA := fun σ H Q => ta σ H fun x H1 => tr σ H1 fun xs H2 => Q (x :: xs) H2
section
variable {X : Cx} {e : Expr} {es : List Expr} {te : TE} {t : TA} {pos : Pos}
theorem pa_nil : PA X [] tNil := fun _ _ _ _ H Q I h => Calls.spliced_nil ⟨[], H, I, .nil, h⟩
theorem pa_cons (ha : PE X e te) (hr : PA X es t) (hs : starEach (e :: es) X.env = (false, eval e X.env) :: starEach es X.env := by rfl) : PA X (e :: es) (tCons te t) := by
  intro pos pins s σ H Q I h
  rw [hs]
  show wpAny _ _ (spliced ((false, eval e X.env) :: backTo pos (starEach es X.env))) _ _ s
  refine Calls.spliced_cons (thn (ha pins s σ H _ I h) fun u s1 ⟨x, H1, I1, r1, q1⟩ => ?_)
  exact thn (hr pos pins s1 σ H1 _ I1 q1) fun us s2 ⟨xs, H2, I2, r2, q2⟩ => ⟨x :: xs, H2, I2, .cons r1 r2, q2⟩
noncomputable def tTup (t : TA) : TE := fun σ H Q => t σ H fun xs H1 => xs.length ≤ sizeLine ∧ ∀ p, H1 p = none → Q (.ref p) (upd H1 p (.tup xs))
noncomputable def tLst (t : TA) : TE := fun σ H Q => t σ H fun xs H1 => xs.length ≤ sizeLine ∧ ∀ p, H1 p = none → Q (.ref p) (upd H1 p (.lst xs))
theorem pe_tup {x1} (h : PA X es t) : PE X (.Tuple es x1 pos) (tTup t) := by
  intro pins s σ H Q I hq
  refine wpAny_Tuple_spliced (thn (h pos pins s σ H _ I hq) fun us s1 ⟨xs, H1, I1, r, z, q⟩ => ⟨by rw [← r.length]; exact z, ?_⟩)
  have hf : H1 s1.heap.objs.size = none := I1.hok.fresh (Nat.le_refl _)
  refine ⟨.ref s1.heap.objs.size, upd H1 s1.heap.objs.size (.tup xs), I1.laid (t' := s1.toks) (fun b u e => Heap.get?_push_of_some _ e) (Nat.le_refl _) ?_, rfl, q _ hf⟩
  exact ⟨z, us, r, ⟨_, Heap.get?_push_size _ rfl, rfl, _, rfl⟩⟩
theorem pe_lst (h : PA X es t) : PE X (.List es pos) (tLst t) := by
  intro pins s σ H Q I hq
  refine wpAny_List_spliced (thn (h pos pins s σ H _ I hq) fun us s1 ⟨xs, H1, I1, r, z, q⟩ => ⟨by rw [← r.length]; exact z, ?_⟩)
  have hf : H1 s1.heap.objs.size = none := I1.hok.fresh (Nat.le_refl _)
  refine ⟨.ref s1.heap.objs.size, upd H1 s1.heap.objs.size (.lst xs), I1.laid (t' := s1.toks) (fun b u e => Heap.get?_push_of_some _ e) (Nat.le_refl _) ?_, rfl, q _ hf⟩
  exact ⟨z, us, 0, r, Heap.get?_push_size _ rfl⟩
end
noncomputable abbrev Sp := List V → Hp → VK → XK → Prop
noncomputable abbrev CXT := List Env → Hp → Shared → XK → Value → Shared → Prop
structure Env0 (P : Program) (w : World) (K : PySem.W.Frag) (mg : Str → Option Value) (base : Heap) (A : Around) (outer : List Env) (s : Shared) (H : Hp) : Prop where
  frames : A.frames = some outer
  mod : Mod K mg base
  bs : ∀ b o, base.get? b = some o → s.heap.get? b = some o ∧ H b = none
  bsz : base.objs.size ≤ s.heap.objs.size
  funs : s.heap.FunFrames base outer
  frf : ∀ b ∈ frs outer, H b = none
  hok : HOk P w H s.heap
  bare : AllBare s.gens
noncomputable def CE (outer : List Env) (P : Program) (w : World) (H : Hp) (s : Shared) (Q : VK) (u : Value) (s' : Shared) : Prop :=
  ∃ v H', s'.os = s.os ∧ AllBare s'.gens ∧ Un (frs outer) [] H H' s.heap s'.heap ∧ HOk P w H' s'.heap ∧ RelV v u ∧ Q v H'
noncomputable def CR (CX : CXT) (outer : List Env) (P : Program) (w : World) (H : Hp) (s : Shared) (Q : VK) (E : XK) (r : Result) (s' : Shared) : Prop :=
  match r with
  | .ok (.ret u) => CE outer P w H s Q u s'
  | .ok _ => False
  | .error e => CX outer H s E e s'
structure FnOk (P : Program) (w : World) (K : PySem.W.Frag) (mg : Str → Option Value) (base : Heap) (CX : CXT) (k : Nat) (f : Addr) (fd : FuncData) (ps : List Str) (sp : Sp) : Prop where
  len : ∀ vs H Q E, sp vs H Q E → vs.length = ps.length
  run : ∀ (A : Around) (outer : List Env) (s : Shared) (H : Hp) (args : Args) (us : List Value) (vs : List V) (Q : VK) (E : XK), Room k A → Env0 P w K mg base A outer s H → BindsTo s fd args (ps.zip us) → Vals vs us → sp vs H Q E →
    codeAny (model P w) A (.call (.ref f) args) (CR CX outer P w H s Q E) s
theorem FnOk.mono {P : Program} {w : World} {K : PySem.W.Frag} {mg : Str → Option Value} {base : Heap} {CX : CXT} {j k : Nat} {f : Addr} {fd : FuncData} {ps : List Str} {sp : Sp} (F : FnOk P w K mg base CX j f fd ps sp) (h : j ≤ k) :
    FnOk P w K mg base CX k f fd ps sp := ⟨F.len, fun A outer s H args us vs Q E hr => F.run A outer s H args us vs Q E (hr.mono h)⟩
theorem Env0.in1 {P : Program} {w : World} {K : PySem.W.Frag} {mg : Str → Option Value} {base : Heap} {A : Around} {outer : List Env} {s : Shared} {H : Hp} (e : Env0 P w K mg base A outer s H) :
    Env0 P w K mg base A.in1 outer s H := ⟨e.frames, e.mod, e.bs, e.bsz, e.funs, e.frf, e.hok, e.bare⟩
section
variable {X : Cx} {pins : List (Addr × Obj)} {σ : St} {H : Hp} {s s' : Shared}
theorem Inv.env0 (I : Inv X pins σ H s) : Env0 X.prog X.w X.K X.mg X.base X.A X.stack s H :=
  ⟨I.ok.frames, I.ok.mod, I.bs, Nat.le_trans I.ok.bsz I.sz, I.stack, I.stkFree, I.hok, I.bare⟩
theorem Inv.after {Q : VK} {u : Value} (I : Inv X pins σ H s) (h : CE X.stack X.prog X.w H s Q u s') : EP X pins σ Q u s' := by
  obtain ⟨v, H', os, bare, un, hok, r, q⟩ := h
  obtain ⟨hh, g, d, t, os'⟩ := s'
  obtain rfl : os' = s.os := os
  exact ⟨v, H', I.call (h' := hh) (g' := g) (d' := d) (t' := t) (ch := []) un hok bare (fun b z => absurd z (by simp)), r, q⟩
end
noncomputable def Binds (K : PySem.W.Frag) (fd : FuncData) (ps : List Str) (ds : List Value) : Prop :=
  ∀ (s : Shared) (us : List Value), K.In s.heap → (us ++ ds).length = ps.length → BindsTo s fd ⟨us, []⟩ (ps.zip (us ++ ds))
theorem Binds.all {K : PySem.W.Frag} {fd : FuncData} {ps : List Str} (h : ∀ us : List Value, us.length = ps.length → bindArgs fd ⟨us, []⟩ = pure (ps.zip us)) : Binds K fd ps [] := fun s us _ hl => by
  rw [List.append_nil] at hl ⊢
  exact .of_eq (h us hl)
noncomputable def Passes (CX : CXT) (X : Cx) (E : XK) : Prop := ∀ (pins : List (Addr × Obj)) (σ : St) (H : Hp) (s : Shared) (e : Value) (s' : Shared), Inv X pins σ H s → CX X.stack H s E e s' → X.xe e s'
section
variable {X : Cx} {CX : CXT} {k : Nat} {f C : Addr} {fd : FuncData} {ps : List Str} {sp : Sp} {dvs : List V} {ds : List Value} {E : XK} {x m : Str} {p pos apos : Pos} {e o : Expr} {es : List Expr} {ta : TE} {t : TA}
theorem run_fn {pins : List (Addr × Obj)} {σ : St} {H : Hp} {s : Shared} {Q : VK} {us : List Value} {vs : List V} (F : FnOk X.prog X.w X.K X.mg X.base CX k f fd ps sp) (hr : Room k X.A) (hb : Binds X.K fd ps ds) (hd : Vals dvs ds) (hx : Passes CX X E)
    (I : Inv X pins σ H s) (r : Vals vs us) (h : sp (vs ++ dvs) H Q E) : wpAny (model X.prog X.w) X.A (call (.ref f) us) (EP X pins σ Q) X.xe s := by
  have r2 : Vals (vs ++ dvs) (us ++ ds) := r.append hd
  have hl : (us ++ ds).length = ps.length := by rw [← r2.length]; exact F.len _ _ _ _ h
  refine wpAny_call (codeAny_mono (F.run X.A X.stack s H ⟨us, []⟩ (us ++ ds) (vs ++ dvs) Q E hr I.env0 (hb s us I.kIn hl) r2 h) fun r s' hq => ?_)
  cases r with
  | error e => exact hx pins σ H s e s' I hq
  | ok fl =>
    cases fl with
    | ret u => exact I.after hq
    | next => exact False.elim hq
    | brk => exact False.elim hq
    | cont => exact False.elim hq
structure Mk (K : PySem.W.Frag) (C f : Addr) : Prop where
  makes : PySem.W.makesIn K C = true
  init : PySem.W.findIn K (.ref C) "__init__" = some (some (.ref f))
  fn : PySem.W.isFn K (.ref f) = true
  kp : PySem.W.keepIn K (.ref C) = true
end
section
variable {X : Cx} {CX : CXT} {k : Nat} {f C : Addr} {fd : FuncData} {ps ks : List Str} {sp : Sp} {E : XK} {x m : Str} {p pos apos kpos : Pos} {e o : Expr} {es : List Expr} {kws : List Keyword} {te ta : TE} {t tk : TA} {nm : Option Str}
structure KBinds (K : PySem.W.Frag) (fd : FuncData) (ps ks : List Str) (g : List Value → List Value → List Value) (gV : List V → List V → List V) : Prop where
  to : ∀ (s : Shared) (us ws : List Value), K.In s.heap → (g us ws).length = ps.length → BindsTo s fd ⟨us, ks.zip ws⟩ (ps.zip (g us ws))
  rel : ∀ {vs : List V} {us : List Value} {zs : List V} {ws : List Value}, Vals vs us → Vals zs ws → Vals (gV vs zs) (g us ws)
variable {g : List Value → List Value → List Value} {gV : List V → List V → List V}
end
structure FnScope (N P : List Str) (sc : Scope) : Prop where
  kind : sc.kind = .function
  co : sc.isCoroutine = false
  gen : sc.isGenerator = false
  nd : N.Nodup
  pre : N.take P.length = P
  par : ∀ x ∈ P, sc.names.lookup x = some .local ∨ sc.names.lookup x = some .cell
  nofree : ∀ y ∈ sc.names, y.2 ≠ .free
theorem bindL_out {kindOf : Str → Option NameKind} {x : Str} : ∀ {binds : List (Str × Value)} {m : Str → Option Value}, (∀ v, (x, v) ∉ binds) → bindL kindOf binds m x = m x
  | [], _, _ => rfl
  | (n, v) :: r, m, h => by
    unfold bindL
    rw [bindL_out fun w hw => h w (List.mem_cons_of_mem _ hw)]
    split
    · have : x ≠ n := by rintro rfl; exact h v List.mem_cons_self
      simp [this]
    · rfl
theorem bindC_out {kindOf : Str → Option NameKind} {x : Str} : ∀ {binds : List (Str × Value)} {m : Str → Option Value}, (∀ v, (x, v) ∉ binds) → bindC kindOf binds m x = m x
  | [], _, _ => rfl
  | (n, v) :: r, m, h => by
    unfold bindC
    rw [bindC_out fun w hw => h w (List.mem_cons_of_mem _ hw)]
    split
    · rfl
    · have : x ≠ n := by rintro rfl; exact h v List.mem_cons_self
      simp [this]
theorem bindL_get {kindOf : Str → Option NameKind} {x : Str} {v : Value} : ∀ {P : List Str} {vs : List Value} {i : Nat} {m : Str → Option Value}, P.Nodup → P[i]? = some x → vs[i]? = some v → kindOf x = some .local →
    bindL kindOf (P.zip vs) m x = some v
  | [], _, _, _, _, h, _, _ => by simp at h
  | _ :: _, [], _, _, _, _, h, _ => by simp at h
  | p :: P, w :: vs, 0, m, nd, h1, h2, hk => by
    simp at h1 h2; subst h1; subst h2
    show bindL kindOf ((p, w) :: P.zip vs) m p = _
    unfold bindL
    rw [bindL_out fun v hv => (List.nodup_cons.mp nd).1 (List.of_mem_zip hv).1, if_pos hk]
    simp
  | p :: P, w :: vs, i + 1, m, nd, h1, h2, hk => by
    show bindL kindOf ((p, w) :: P.zip vs) m x = _
    unfold bindL
    exact bindL_get (i := i) (List.nodup_cons.mp nd).2 (by simpa using h1) (by simpa using h2) hk
theorem bindC_get {kindOf : Str → Option NameKind} {x : Str} {v : Value} : ∀ {P : List Str} {vs : List Value} {i : Nat} {m : Str → Option Value}, P.Nodup → P[i]? = some x → vs[i]? = some v → kindOf x ≠ some .local →
    bindC kindOf (P.zip vs) m x = some v
  | [], _, _, _, _, h, _, _ => by simp at h
  | _ :: _, [], _, _, _, _, h, _ => by simp at h
  | p :: P, w :: vs, 0, m, nd, h1, h2, hk => by
    simp at h1 h2; subst h1; subst h2
    show bindC kindOf ((p, w) :: P.zip vs) m p = _
    unfold bindC
    rw [bindC_out fun v hv => (List.nodup_cons.mp nd).1 (List.of_mem_zip hv).1, if_neg hk]
    simp
  | p :: P, w :: vs, i + 1, m, nd, h1, h2, hk => by
    show bindC kindOf ((p, w) :: P.zip vs) m x = _
    unfold bindC
    exact bindC_get (i := i) (List.nodup_cons.mp nd).2 (by simpa using h1) (by simpa using h2) hk
noncomputable def start (N : List Str) (vs : List V) : St := vs.map some ++ List.replicate (N.length - vs.length) none
noncomputable def cxOf (CX : CXT) (P : Program) (w : World) (K : PySem.W.Frag) (mg : Str → Option Value) (base : Heap) (N : List Str) (qual : Str) (scope : Scope) (f : Addr) (cd : Value) (A : Around) (outer : List Env) (s : Shared) (H : Hp) (E : XK) : Cx where
  prog := P
  w := w
  K := K
  mg := mg
  base := base
  A := A.deeper (envOfC qual scope s.heap.objs.size f cd)
  N := N
  s₀ := s
  H₀ := H
  env := envOfC qual scope s.heap.objs.size f cd
  outer := outer
  stack := envOfC qual scope s.heap.objs.size f cd :: outer
  ex := []
  calm := true
  fn := fun _ => true
  pn := []
  xe := fun e s' => wpAny (model P w) (A.deeper (envOfC qual scope s.heap.objs.size f cd)) (leaving (envOfC qual scope s.heap.objs.size f cd) e) (fun _ s'' => CX outer H s E e s'') (fun e' s'' => CX outer H s E e' s'') s'
theorem cell_has {sc : Scope} {n : Nat} {x : Str} (h : sc.names.lookup x = some .cell) : ∃ c, (cellsFrom n sc.names []).lookup x = some c := by
  have q := PySem.W.cellsFrom_some sc.names n [] (.inl h)
  exact Option.isSome_iff_exists.mp q
theorem inv_start {CX : CXT} {P : Program} {w : World} {K : PySem.W.Frag} {mg : Str → Option Value} {base : Heap} {N ps : List Str} {qual : Str} {scope : Scope} {f : Addr} {cd : Value} {A : Around} {outer : List Env} {s s1 : Shared} {H : Hp} {E : XK} {us : List Value} {vs : List V}
    (S : FnScope N ps scope) (hd : A.handled = none) (e0 : Env0 P w K mg base A outer s H) (hl : vs.length = ps.length) (r : Vals vs us)
    (x : InCallC s s.heap.objs.size (bindL (envOfC qual scope s.heap.objs.size f cd).kindOf (ps.zip us) fun _ => none) (cellsFrom (s.heap.objs.size + 1) scope.names []) (bindC (envOfC qual scope s.heap.objs.size f cd).kindOf (ps.zip us) fun _ => none) s1) :
    Inv (cxOf CX P w K mg base N qual scope f cd A outer s H E) [] (start N vs) H s1 := by
  have hpl : ps.length ≤ N.length := by have := congrArg List.length S.pre; rw [List.length_take] at this; omega
  obtain ⟨h1, tk, rfl, hk⟩ := x.done
  have noA : ∀ b : Addr, b ∉ (cxOf CX P w K mg base N qual scope f cd A outer s H E).ex := fun b z => absurd (show b ∈ ([] : List Addr) from z) (by simp)
  refine ⟨⟨e0.mod, S.kind, rfl, rfl, Nat.le_refl _, fun y z c h1 h2 => ?_, fun y hy => ?_, fun y c _ h => ?_, fun _ => hd, Around.frames_deeper e0.frames, .inr ⟨rfl, rfl⟩, fun b z => absurd z (noA b), e0.bs, e0.bsz, fun b _ _ => noA b, fun b z => absurd z (noA b), e0.funs, e0.frf⟩,
    rfl, e0.bare, Un.kept hk, ⟨_, x.toInCall.ns, fun i y v h1 h2 h3 => ?_⟩, fun y c h => ⟨_, x.cell y c h⟩, e0.hok.fresh (Nat.le_refl _), fun y c h => ?_, fun p hp => absurd (show p ∈ ([] : List (Addr × Obj)) from hp) (by simp), e0.hok.kept hk, ?_⟩
  · exact name_of_addr x.apart (PySem.mem_of_lookup h1) (PySem.mem_of_lookup h2)
  · have hy : scope.names.lookup y = some .cell ∨ scope.names.lookup y = some .free := hy
    rcases hy with hy | hy
    · exact cell_has hy
    · exact absurd rfl (S.nofree _ (PySem.mem_of_lookup hy))
  · exact Nat.le_of_lt (x.above y c (PySem.mem_of_lookup h))
  · have hi : i < vs.length := by
      unfold start at h2
      by_cases hi : i < vs.length
      · exact hi
      · rw [List.getElem?_append_right (by simpa using hi)] at h2
        rw [List.getElem?_replicate] at h2
        split at h2 <;> cases h2
    have ha : vs[i]? = some v := by
      unfold start at h2
      rw [List.getElem?_append_left (by simpa using hi), List.getElem?_map] at h2
      cases e : vs[i]? with
      | none => rw [e] at h2; cases h2
      | some a => rw [e] at h2; cases h2; rfl
    obtain ⟨u, hu, rv⟩ := r.get ha
    have hp : ps[i]? = some y := by
      rw [← S.pre, List.getElem?_take_of_lt (by omega)]; exact h1
    have ndP : ps.Nodup := by rw [← S.pre]; exact S.nd.sublist (List.take_sublist _ _)
    refine ⟨u, rv, ?_⟩
    rcases S.par y (List.mem_of_getElem? hp) with k | k
    · exact .inl ⟨k, bindL_get ndP hp hu k⟩
    · obtain ⟨c, e⟩ := cell_has (n := s.heap.objs.size + 1) k
      refine .inr ⟨.inl k, c, e, ?_⟩
      have q := x.cell y c e
      rw [bindC_get ndP hp hu (by show scope.names.lookup y ≠ _; rw [k]; decide)] at q
      exact q
  · exact e0.hok.fresh (Nat.le_of_lt (x.above y c (PySem.mem_of_lookup h)))
  · unfold start
    show _ = N.length
    rw [List.length_append, List.length_map, List.length_replicate]
    omega
theorem fn_of {CX : CXT} {P : Program} {w : World} {K : PySem.W.Frag} {mg : Str → Option Value} {base : Heap} {k : Nat} {f : Addr} {name qual : Str} {params : Arguments} {body : List Stmt} {scope : Scope} {dV kV doc pm cdv ct oc : Value} {an od : Option Addr}
    {osl : Array (Option Value)} {N ps : List Str} {sp : Sp} (lk : K.lookup f = some ⟨oc, od, .func (PySem.W.fnOf name qual params body scope dV kV doc pm an cdv ct), osl⟩) (hcd : PySem.W.codeIn K cdv qual = true) (S : FnScope N ps scope)
    (len : ∀ vs H Q E, sp vs H Q E → vs.length = ps.length)
    (hbody : ∀ (A : Around) (outer : List Env) (s : Shared) (H : Hp) (vs : List V) (Q : VK) (E : XK), Room k (A.deeper (envOfC qual scope s.heap.objs.size f cdv)) → sp vs H Q E →
      ∃ t, PSs (cxOf CX P w K mg base N qual scope f cdv A outer s H E) body t ∧ t { nx := fun _ H' => Q .non H', rt := Q } (start N vs) H) :
    FnOk P w K mg base CX (k + 1) f (PySem.W.fnOf name qual params body scope dV kV doc pm an cdv ct) ps sp := by
  refine ⟨len, fun A outer s H args us vs Q E hr e0 hb r hsp => ?_⟩
  have hl := len _ _ _ _ hsp
  have KX : K.In s.heap := e0.mod.kin.keeps fun b o e => (e0.bs b o e).1
  have lim : s.heap.NoLimit := e0.mod.nolimit.keeps fun b o e => (e0.bs b o e).1
  have hkind : ∀ y ∈ ps.zip us, scope.names.lookup y.1 = some .local ∨ (scope.names.lookup y.1 = some .cell ∧ ((cellsFrom (s.heap.objs.size + 1) scope.names []).lookup y.1).isSome = true) := fun ⟨n, v⟩ hy => by
    rcases S.par n (List.of_mem_zip hy).1 with q | q
    · exact .inl q
    · exact .inr ⟨q, PySem.W.cellsFrom_some _ _ _ (.inl q)⟩
  refine codeAny_call_function hr.depth (KX _ _ lk) rfl S.co S.gen rfl (PySem.W.codeRec_of KX hcd) (hb _ _ _ _ ?_)
  refine wpAny_newFunctionEnv_cells S.kind hkind fun env he s1 x => ?_
  subst he
  refine ⟨lim.keeps x.toInCall.keep, codeAny_func ?_⟩
  obtain ⟨t, ht, hq⟩ := hbody A outer s H vs Q E (hr.deeper _) hsp
  have I : Inv (cxOf CX P w K mg base N qual scope f cdv A outer s H E) [] (start N vs) H s1 := inv_start S hr.hd e0 hl r x
  refine wpAny_mono (ht [] s1 (start N vs) H _ I hq) (fun fl s' hs => ?_) fun e s' hs => hs
  have fin : ∀ {σ' : St} {H' : Hp} {v : V} {u : Value}, Inv (cxOf CX P w K mg base N qual scope f cdv A outer s H E) [] σ' H' s' → RelV v u → Q v H' → CE outer P w H s Q u s' :=
    fun {σ' H' v u} J rv q => ⟨v, H', J.os, J.bare, J.base, J.hok, rv, q⟩
  cases fl with
  | ret u =>
    obtain ⟨v, σ', H', J, rv, q⟩ := hs
    exact fin J rv q
  | next =>
    obtain ⟨σ', H', J, q⟩ := hs
    exact fin (v := V.non) (u := Value.none) J rfl q
  | brk =>
    obtain ⟨_, _, _, q⟩ := hs
    exact False.elim q
  | cont =>
    obtain ⟨_, _, _, q⟩ := hs
    exact False.elim q
end L2
namespace L2
open PySem PySem.Spec PyProof.Rows
section
variable {X : Cx} {x : Str} {p pos : Pos} {e : Expr} {es : List Expr} {t : TA} {id T : String} {r : List V → Hp → VK → Prop}
noncomputable def tCB (r : List V → Hp → VK → Prop) (t : TA) : TE := fun σ H Q => t σ H fun vs H1 => r vs H1 Q
theorem pe_callB (hc : CallR X (.builtin id) r) (hg : Gl X x) (hm : X.mg x = none) (hv : bootBuiltins x = some (.builtin id)) (ha : PA X (e :: es) t) (hn : x ≠ "__name__" := by decide) (hdb : (x == ("__debug__" : Str)) = false := by decide)
    (he : starEach (e :: es) X.env = (false, eval e X.env) :: starEach es X.env := by rfl) (hpl : (backTo pos (starEach es X.env)).any (·.1) = false := by rfl) : PE X (.Call (.Name x p) (e :: es) [] pos) (tCB r t) := by
  intro pins s σ H Q I h
  refine wpAny_Call_Name_kw (ld_blt I hg hm hv ?_ hn hdb)
  exact PyProof.Rows.callWith_builtin1 (thn (ha pos pins s σ H _ I h) fun us s1 ⟨vs, H1, I1, r1, q1⟩ => hc pins s1 σ H1 vs us Q I1 r1 q1) he hpl
theorem pe_callTy (hc : CallR X (.type T) r) (hg : Gl X x) (hm : X.mg x = none) (hv : bootBuiltins x = some (.type T)) (ha : PA X (e :: es) t) (hn : x ≠ "__name__" := by decide) (hdb : (x == ("__debug__" : Str)) = false := by decide)
    (he : starEach (e :: es) X.env = (false, eval e X.env) :: starEach es X.env := by rfl) (hpl : (backTo pos (starEach es X.env)).any (·.1) = false := by rfl) : PE X (.Call (.Name x p) (e :: es) [] pos) (tCB r t) := by
  intro pins s σ H Q I h
  refine wpAny_Call_Name_kw (ld_blt I hg hm hv ?_ hn hdb)
  exact PyProof.Rows.callWith_type1 (thn (ha pos pins s σ H _ I h) fun us s1 ⟨vs, H1, I1, r1, q1⟩ => hc pins s1 σ H1 vs us Q I1 r1 q1) he hpl
end
end L2
namespace HT
open PySem PyProof.Rows
section
open PySem.SeqAt
open PySem.AutoSeq1 (wpAny_loadPart')
open PySem.MeetsSeq PySem.MeetsSeq2 PySem.MeetsSeq3
end
section
variable {prog : Program} {w : World} {A : Around} {E : Value → Shared → Prop} {s : Shared}
noncomputable def sIx (n d : Nat) : Option Int → Nat
  | none => d
  | some v => if v < 0 then (v + (n : Int)).toNat else min v.toNat n
theorem sIx_le (n d : Nat) (hd : d ≤ n) (o : Option Int) : sIx n d o ≤ n := by
  cases o with
  | none => exact hd
  | some v =>
    show (if v < 0 then (v + (n : Int)).toNat else min v.toNat n) ≤ n
    by_cases hv : v < 0
    · rw [if_pos hv]; omega
    · rw [if_neg hv]; exact Nat.min_le_right _ _
theorem clip_eq (v : Int) (n d : Nat) : (if v < 0 then max (v + (n : Int)) 0 else min v (n : Int)) = ((sIx n d (some v) : Nat) : Int) := by
  show (if v < 0 then max (v + (n : Int)) 0 else min v (n : Int)) = (((if v < 0 then (v + (n : Int)).toNat else min v.toNat n) : Nat) : Int)
  by_cases hv : v < 0
  · simp only [if_pos hv]; omega
  · simp only [if_neg hv]; omega
theorem adjust_gen (lo hi : Option Int) (n : Nat) : Builtin.Slice.sliceAdjust lo hi 1 (n : Int) = (((sIx n 0 lo : Nat) : Int), ((sIx n n hi : Nat) : Int)) := by
  have h1 : ¬ ((1 : Int) < 0) := by omega
  unfold Builtin.Slice.sliceAdjust
  simp only [h1, if_false]
  refine Prod.ext ?_ ?_
  · cases lo with
    | none => rfl
    | some v => exact clip_eq v n 0
  · cases hi with
    | none => rfl
    | some v => exact clip_eq v n n
theorem places_gen (i j : Nat) : Builtin.Slice.slicePlaces (i : Int) (j : Int) 1 = j - i := by
  unfold Builtin.Slice.slicePlaces
  have h1 : (1 : Int) > 0 := by omega
  simp only [h1, if_true, Int.ediv_one]
  split <;> omega
theorem slicePart_ {v : Value} {o : Option Int} {Q : Option Int → Shared → Prop} (p : IsPart v o) (h : Q o s) : wpAny (model prog w) A (Builtin.Slice.slicePartIndex v) Q E s := by
  cases p with
  | none => exact slicePart_none h
  | int i t => exact slicePart_int h
theorem sliceApplied_gen {sl : Addr} {vl vu : Value} {lo hi : Option Int} {n : Nat} {Q : Int × Int × Nat → Shared → Prop} (hs : s.heap.IsSliceOf sl vl vu .none) (pl : IsPart vl lo) (pu : IsPart vu hi)
    (h : Q (((sIx n 0 lo : Nat) : Int), 1, sIx n n hi - sIx n 0 lo) s) : wpAny (model prog w) A (Builtin.Slice.sliceApplied (.ref sl) (pure (n : Int))) Q E s := by
  obtain ⟨os, hos, hcs, hds⟩ := id hs
  unfold Builtin.Slice.sliceApplied Builtin.Slice.sliceFields
  refine wpAny_bind (wpAny_bind (wpAny_field hos hds (x := vl) rfl (wpAny_bind (wpAny_field hos hds (x := vu) rfl (wpAny_bind (wpAny_field hos hds (x := .none) rfl (wpAny_pure ?_)))))))
  refine wpAny_bind (slicePart_none ?_)
  show wpAny _ _ (if ((1 : Int) == 0) = true then _ else _) _ _ s
  rw [if_neg (by decide)]
  refine wpAny_bind (slicePart_ pl (wpAny_bind (slicePart_ pu (wpAny_bind (wpAny_pure ?_)))))
  show wpAny _ _ (match Builtin.Slice.sliceAdjust lo hi 1 (n : Int) with | (lo, hi) => pure (lo, (1 : Int), Builtin.Slice.slicePlaces lo hi 1)) _ _ s
  rw [adjust_gen lo hi n]
  show wpAny _ _ (pure (((sIx n 0 lo : Nat) : Int), (1 : Int), Builtin.Slice.slicePlaces ((sIx n 0 lo : Nat) : Int) ((sIx n n hi : Nat) : Int) 1)) _ _ s
  rw [places_gen]
  exact wpAny_pure h
theorem pick_gen (xs : Array Value) (i k : Nat) : ((List.range k).filterMap fun (m : Nat) => xs[((i : Int) + (m : Int) * 1).toNat]?).toArray = ((xs.toList.drop i).take k).toArray := by
  have e : (fun (m : Nat) => xs[((i : Int) + (m : Int) * 1).toNat]?) = fun m => xs[i + m]? := by
    funext m
    have : ((i : Int) + (m : Int) * 1).toNat = i + m := by omega
    rw [this]
  rw [e]
  have := pick_run xs i k
  rw [List.filterMap_map] at this
  have e2 : ((fun x => xs[x]?) ∘ fun x => i + x) = fun m => xs[i + m]? := rfl
  rw [e2] at this
  rw [this]
theorem getItem_tuple_cut {t sl : Addr} {items : Array Value} {vl vu : Value} {lo hi : Option Int} {Q : Value → Shared → Prop} (ht : IsTup s.heap t items) (hs : s.heap.IsSliceOf sl vl vu .none) (pl : IsPart vl lo) (pu : IsPart vu hi)
    (hw : ¬ (sIx items.size 0 lo = 0 ∧ sIx items.size items.size hi = items.size))
    (h : Q (.ref s.heap.objs.size) { s with heap := s.heap.push { cls := .type "tuple", data := .seq ((items.toList.drop (sIx items.size 0 lo)).take (sIx items.size items.size hi - sIx items.size 0 lo)).toArray } })
    (hsz : items.size ≤ sizeLine) : wpAny (model prog w) A (getItem (.ref t) (.ref sl)) Q E s := by
  have htake : sizeOk (.seq ((items.toList.drop (sIx items.size 0 lo)).take (sIx items.size items.size hi - sIx items.size 0 lo)).toArray) := by
    show ((items.toList.drop (sIx items.size 0 lo)).take (sIx items.size items.size hi - sIx items.size 0 lo)).toArray.size ≤ sizeLine
    rw [List.size_toArray, List.length_take, List.length_drop, Array.length_toList]
    omega
  have hj : sIx items.size items.size hi ≤ items.size := sIx_le _ _ (Nat.le_refl _) hi
  obtain ⟨os, hos, hcs, hds⟩ := id hs
  have hTs : s.TypeIs (.ref sl) "slice" := ⟨os, hos, hcs⟩
  unfold getItem
  try with_reducible refine wpAny_holding ?_
  first | refine wpAny_bind (wpAny_pure ?_) | skip
  refine wpAny_bind (wpAny_sequenceKey ht.typeIs (by decide) ?_)
  refine wpAny_bind (wpAny_callSpecial?_slot (name := Str.ofString "__getitem__") ht.typeIs PyProof.Rows.slot_tuple_getitem
    (wpAny_call_entry PyProof.Rows.slot_tuple_getitem ht.typeIs entry_tuple_getitem ?_ (args_tuple_getitem _ _)))
  show wpAny _ _ (Builtin.Tuple.tupleItemsOf (.ref t) >>= _) _ _ s
  refine wpAny_bind (tupleItemsOf_ ht ?_)
  refine wpAny_bind (wpAny_typeOf hTs ?_)
  rw [if_pos (by decide)]
  refine wpAny_bind (sliceApplied_gen hs pl pu ?_)
  have hno : ¬ ((((sIx items.size 0 lo : Nat) : Int) == 0 && (1 : Int) == 1 && (sIx items.size items.size hi - sIx items.size 0 lo) == items.size) = true) := by
    intro q
    rw [Bool.and_eq_true, Bool.and_eq_true] at q
    have q1 : ((sIx items.size 0 lo : Nat) : Int) = 0 := eq_of_beq q.1.1
    have q2 : sIx items.size items.size hi - sIx items.size 0 lo = items.size := eq_of_beq q.2
    exact hw ⟨by omega, by omega⟩
  show wpAny _ _ (if (((sIx items.size 0 lo : Nat) : Int) == 0 && (1 : Int) == 1 && (sIx items.size items.size hi - sIx items.size 0 lo) == items.size) = true then _ else _) _ _ s
  rw [if_neg hno, pick_gen]
  first
    | exact wpAny_bind (m := Builtin.Tuple.tupleExact _) (wpAny_newObj_type (wpAny_pure ⟨_, rfl, wpAny_pure h⟩) htake)
    | exact wpAny_bind (m := Builtin.Tuple.tupleExact _) (wpAny_newObj_type (wpAny_bind (wpAny_pure (wpAny_pure ⟨_, rfl, wpAny_pure h⟩))) htake)
    | exact wpAny_bind (wpAny_bind (m := Builtin.Tuple.tupleExact _) (wpAny_newObj_type (wpAny_pure (wpAny_pure ⟨_, rfl, wpAny_pure h⟩)) htake))
    | exact wpAny_bind (wpAny_bind (m := Builtin.Tuple.tupleExact _) (wpAny_newObj_type (wpAny_pure ⟨_, rfl, wpAny_pure h⟩) htake))
end
end HT
namespace L2
open PySem PySem.Spec PyProof.Rows
noncomputable abbrev TO := St → Hp → (Option Int → Hp → Prop) → Prop
noncomputable def PO (X : Cx) (e : Option Expr) (t : TO) : Prop :=
  ∀ (pins : List (Addr × Obj)) (s : Shared) (σ : St) (H : Hp) (Q : Option Int → Hp → Prop), Inv X pins σ H s → t σ H Q →
    wpAny (model X.prog X.w) X.A (evalPart e X.env) (fun u s' => ∃ o H', Inv X pins σ H' s' ∧ IsPart u o ∧ Q o H') X.xe s
noncomputable def tNoPart : TO := fun _ H Q => Q none H
noncomputable def tPart (t : TE) : TO := fun σ H Q => t σ H fun x H1 => ∃ i, x = .int i ∧ Q (some i) H1
theorem intsAre_of {ns : List Int} : ∀ {us : List Value}, Vals (ns.map V.int) us → IntsAre us ns := by
  induction ns with
  | nil => intro us r; rw [List.map_nil] at r; cases r; exact .nil
  | cons n ns ih =>
    intro us r
    rw [List.map_cons] at r
    cases r with
    | cons r1 r2 =>
      obtain ⟨t, e⟩ := r1
      subst e
      exact .cons n t (ih r2)
section
variable {X : Cx} {e : Expr} {te : TE} {lo hi : Option Expr} {tl th : TO} {pos p2 : Pos}
theorem po_none : PO X none tNoPart := by
  intro pins s σ H Q I h
  rw [evalPart_none]
  exact wpAny_pure ⟨none, H, I, .none, h⟩
theorem po_some (h : PE X e te) : PO X (some e) (tPart te) := by
  intro pins s σ H Q I hw
  rw [evalPart_some]
  refine thn (h pins s σ H _ I hw) fun u s1 ⟨x, H1, I1, r1, q1⟩ => ?_
  obtain ⟨i, rfl, q⟩ := q1
  obtain ⟨t, rfl⟩ := r1
  exact ⟨some i, H1, I1, .int i t, q⟩
noncomputable def SlR (X : Cx) (r : V → Option Int → Option Int → Hp → VK → Prop) : Prop :=
  ∀ (pins : List (Addr × Obj)) (s : Shared) (σ : St) (H : Hp) (x : V) (v vl vu : Value) (lo hi : Option Int) (sl : Addr) (Q : VK), Inv X pins σ H s → RelV x v → s.heap.IsSliceOf sl vl vu .none → IsPart vl lo → IsPart vu hi → r x lo hi H Q →
    ∃ T id, typeLookup (.type T) "__getitem__" = pure (some (.builtin id)) ∧ s.TypeIs v T ∧ wpAny (model X.prog X.w) X.A (getItem v (.ref sl)) (EP X pins σ Q) X.xe s
theorem SlR.or {r r' : V → Option Int → Option Int → Hp → VK → Prop} (h : SlR X r) (h' : SlR X r') : SlR X (fun x lo hi H Q => r x lo hi H Q ∨ r' x lo hi H Q) := by
  intro pins s σ H x v vl vu lo hi sl Q I rx hs pl pu q
  rcases q with q | q
  · exact h pins s σ H x v vl vu lo hi sl Q I rx hs pl pu q
  · exact h' pins s σ H x v vl vu lo hi sl Q I rx hs pl pu q
noncomputable def tSl (r : V → Option Int → Option Int → Hp → VK → Prop) (te : TE) (tl th : TO) : TE := fun σ H Q => te σ H fun x H1 => tl σ H1 fun l H2 => th σ H2 fun u H3 => r x l u H3 Q
theorem pe_slice {r : V → Option Int → Option Int → Hp → VK → Prop} (hr : SlR X r) (he : PE X e te) (hl : PO X lo tl) (hu : PO X hi th) : PE X (.Subscript e (.Slice lo hi none p2) pos) (tSl r te tl th) := by
  intro pins s σ H Q I h
  refine Subscript_ (thn (he pins s σ H _ I h) fun v s1 ⟨x, H1, I1, r1, q1⟩ => ?_)
  refine wpAny_Slice (thn (hl pins s1 σ H1 _ I1 q1) fun vl s2 ⟨l, H2, I2, pl, q2⟩ => thn (hu pins s2 σ H2 _ I2 q2) fun vu s3 ⟨u, H3, I3, pu, q3⟩ => ?_)
  rw [evalPart_none]
  refine wpAny_pure ?_
  have I4 : Inv X pins σ H3 { s3 with heap := s3.heap.push { cls := .type "slice", data := .fields #[vl, vu, .none] } } := I3.kept (t' := s3.toks) fun b ob q => Heap.get?_push_of_some _ q
  obtain ⟨T, id, hT, ht, hg⟩ := hr pins { s3 with heap := s3.heap.push { cls := .type "slice", data := .fields #[vl, vu, .none] } } σ H3 x v vl vu l u s3.heap.objs.size Q I4 r1 (Heap.IsSliceOf.new ..) pl pu q3
  show wpAny (model X.prog X.w) X.A (subscriptTail e (.Slice lo hi none p2) v (.ref s3.heap.objs.size)) (EP X pins σ Q) X.xe { s3 with heap := s3.heap.push { cls := .type "slice", data := .fields #[vl, vu, .none] } }
  exact tail_any (ops := [.ref s3.heap.objs.size, v]) ht hT hg (by with_unfolding_all rfl)
noncomputable def cutV (xs : List V) (lo hi : Option Int) : List V := (xs.drop (HT.sIx xs.length 0 lo)).take (HT.sIx xs.length xs.length hi - HT.sIx xs.length 0 lo)
theorem cutV_length (xs : List V) (lo hi : Option Int) : (cutV xs lo hi).length ≤ xs.length := by
  unfold cutV
  rw [List.length_take, List.length_drop]
  omega
noncomputable def rSlT (K : PySem.W.Frag) : V → Option Int → Option Int → Hp → VK → Prop := fun x lo hi H Q => ∃ a xs, x = .ref a ∧ SqT K H a xs ∧
  ¬ (HT.sIx xs.length 0 lo = 0 ∧ HT.sIx xs.length xs.length hi = xs.length) ∧ ∀ p, H p = none → Q (.ref p) (upd H p (.tup (cutV xs lo hi)))
theorem sl_tup : SlR X (rSlT X.K) := by
  intro pins s σ H x v vl vu lo hi sl Q I rx hs pl pu h
  obtain ⟨a, xs, rfl, hx, hw, q⟩ := h
  cases rx
  obtain ⟨its, r, ht, hz⟩ := I.tuple hx
  have hlen : its.toArray.size = xs.length := by rw [List.size_toArray]; exact r.length.symm
  refine ⟨"tuple", _, PyProof.Rows.slot_tuple_getitem.lookup, ht.typeIs, ?_⟩
  refine HT.getItem_tuple_cut ht hs pl pu (by rw [hlen]; exact hw) ?_ (by rw [hlen]; exact hz)
  rw [hlen]
  refine ⟨.ref s.heap.objs.size, _, I.laid (t' := s.toks) (o := .tup (cutV xs lo hi)) (fun b ob q => Heap.get?_push_of_some _ q) (Nat.le_refl _) ?_, rfl, q _ (I.hok.fresh (Nat.le_refl _))⟩
  exact ⟨Nat.le_trans (cutV_length xs lo hi) hz, _, (r.drop (HT.sIx xs.length 0 lo)).take (HT.sIx xs.length xs.length hi - HT.sIx xs.length 0 lo), IsTup.new _ _⟩
end
end L2
namespace L2
open PySem PySem.Spec PyProof.Rows
noncomputable def ixN (n : Nat) (i : Int) : Option Nat := if 0 ≤ i then (if i < n then some i.toNat else none) else if -(n : Int) ≤ i then some (i + n).toNat else none
noncomputable def atI {α : Type} (xs : List α) (i : Int) : Option α := (ixN xs.length i).bind fun j => xs[j]?
theorem ixN_seq {n : Nat} {i : Int} {j : Nat} (h : ixN n i = some j) : seqIndex? i n = some j ∧ j < n ∧ -(n : Int) ≤ i ∧ i < n := by
  unfold ixN at h
  by_cases h0 : 0 ≤ i
  · rw [if_pos h0] at h
    by_cases h1 : i < n
    · rw [if_pos h1] at h
      have e : i.toNat = j := Option.some.inj h
      exact ⟨by rw [seqIndex_of h0 h1, e], by omega, by omega, h1⟩
    · rw [if_neg h1] at h; cases h
  · rw [if_neg h0] at h
    by_cases h1 : -(n : Int) ≤ i
    · rw [if_pos h1] at h
      have e : (i + n).toNat = j := Option.some.inj h
      exact ⟨by rw [seqIndex_neg (by omega) h1, e], by omega, h1, by omega⟩
    · rw [if_neg h1] at h; cases h
theorem atI_get {α : Type} {xs : List α} {i : Int} {v : α} (h : atI xs i = some v) : ∃ j, seqIndex? i xs.length = some j ∧ xs[j]? = some v ∧ j < xs.length ∧ -(xs.length : Int) ≤ i ∧ i < xs.length := by
  unfold atI at h
  cases e : ixN xs.length i with
  | none => rw [e] at h; cases h
  | some j =>
    rw [e] at h
    obtain ⟨h1, h2, h3, h4⟩ := ixN_seq e
    exact ⟨j, h1, h, h2, h3, h4⟩
noncomputable def PlainIx (b : Expr) : Prop := ∀ o i, subscripted b false o i = operate [o, i] (getItem o i)
noncomputable def IxR (X : Cx) (r : R2) : Prop :=
  ∀ (value slice : Expr) (pins : List (Addr × Obj)) (s : Shared) (σ : St) (H : Hp) (x y : V) (v u : Value) (Q : VK), Inv X pins σ H s → RelV x v → RelV y u → r x y H Q →
    subscripted slice false v u = operate [v, u] (getItem v u) → wpAny (model X.prog X.w) X.A (subscriptTail value slice v u) (EP X pins σ Q) X.xe s
noncomputable def MtR (X : Cx) (id : String) (r : V → List V → Hp → VK → Prop) : Prop :=
  ∀ (pins : List (Addr × Obj)) (s : Shared) (σ : St) (H : Hp) (x : V) (xs : List V) (v : Value) (us : List Value) (Q : VK), Inv X pins σ H s → RelV x v → Vals xs us → r x xs H Q →
    wpAny (model X.prog X.w) X.A (call (.builtin id) (v :: us)) (EP X pins σ Q) X.xe s
section
variable {X : Cx} {a b : Expr} {ta tb : TE} {pos : Pos}
theorem IxR.or {r r' : R2} (h : IxR X r) (h' : IxR X r') : IxR X (fun x y H Q => r x y H Q ∨ r' x y H Q) := by
  intro value slice pins s σ H x y v u Q I rx ry q hs
  rcases q with q | q
  · exact h value slice pins s σ H x y v u Q I rx ry q hs
  · exact h' value slice pins s σ H x y v u Q I rx ry q hs
theorem MtR.or {id : String} {r r' : V → List V → Hp → VK → Prop} (h : MtR X id r) (h' : MtR X id r') : MtR X id (fun x xs H Q => r x xs H Q ∨ r' x xs H Q) := by
  intro pins s σ H x xs v us Q I rx rs q
  rcases q with q | q
  · exact h pins s σ H x xs v us Q I rx rs q
  · exact h' pins s σ H x xs v us Q I rx rs q
theorem pe_ix {r : R2} (hr : IxR X r) (ha : PE X a ta) (hb : PE X b tb) (hs : PlainIx b) : PE X (.Subscript a b pos) (tOp r ta tb) := by
  intro pins s σ H Q I h
  exact Subscript_ (binT ha hb I h fun v u s2 x y H2 I2 rx ry q => hr a b pins s2 σ H2 x y v u Q I2 rx ry q (hs _ _))
noncomputable def rIxL (K : PySem.W.Frag) : R2 := fun x y H Q => ∃ p xs i v, x = .ref p ∧ y = .int i ∧ SqL K H p xs ∧ atI xs i = some v ∧ Q v H
noncomputable def rIxT (K : PySem.W.Frag) : R2 := fun x y H Q => ∃ p xs i v, x = .ref p ∧ y = .int i ∧ SqT K H p xs ∧ atI xs i = some v ∧ Q v H
noncomputable def rIxS : R2 := fun x y H Q => ∃ z i c, x = .str z ∧ y = .int i ∧ z.length ≤ sizeLine ∧ atI z.cps.toList i = some c ∧ Q (.str ⟨#[c]⟩) H
theorem ix_list : IxR X (rIxL X.K) := by
  intro value slice pins s σ H x y v u Q I rx ry h hs
  obtain ⟨p, xs, i, z, rfl, rfl, hq, he, q⟩ := h
  cases rx
  obtain ⟨t, rfl⟩ := ry
  obtain ⟨its, r, pl, hz⟩ := I.list hq
  obtain ⟨j, h1, h2, h3, h4, h5⟩ := atI_get he
  obtain ⟨w, ew, rw'⟩ := r.get h2
  have hl := r.length
  have hn := line63
  have fin : EP X pins σ Q w s := ⟨z, H, I, rw', q⟩
  by_cases h0 : 0 ≤ i
  · have hj : i.toNat = j := by
      rw [seqIndex_of h0 h5] at h1
      exact Option.some.inj h1
    exact item_listR pl.isList h0 (by omega) (by rw [hj]; simpa using ew) fin hs
  · have hj : (i + (its.toArray.size : Int)).toNat = j := by
      rw [seqIndex_neg (by omega) h4] at h1
      rw [List.size_toArray, ← hl]
      exact Option.some.inj h1
    exact subscriptTail_builtinR (x := w) pl.isList.typeIs slot_list_getitem.lookup
      (wpAny_getItem_list_neg (Q := fun r s' => r = w ∧ EP X pins σ Q r s') pl.isList (by omega) (by rw [List.size_toArray] <;> omega) (by omega) (by rw [hj]; simpa using ew) ⟨rfl, fin⟩) hs
theorem ix_tup : IxR X (rIxT X.K) := by
  intro value slice pins s σ H x y v u Q I rx ry h hs
  obtain ⟨p, xs, i, z, rfl, rfl, hq, he, q⟩ := h
  cases rx
  obtain ⟨t, rfl⟩ := ry
  obtain ⟨its, r, pl, hz⟩ := I.tuple hq
  obtain ⟨j, h1, h2, h3, h4, h5⟩ := atI_get he
  obtain ⟨w, ew, rw'⟩ := r.get h2
  have hl := r.length
  have hn := line63
  have fin : EP X pins σ Q w s := ⟨z, H, I, rw', q⟩
  exact subscriptTail_builtinR (x := w) pl.typeIs slot_tuple_getitem.lookup
    (getItem_tuple (j := j) (Q := fun r s' => r = w ∧ EP X pins σ Q r s') pl (by omega) (by omega) (by rw [List.size_toArray, ← hl]; exact h1) (by simpa using ew) ⟨rfl, fin⟩) hs
theorem ix_str : IxR X rIxS := by
  intro value slice pins s σ H x y v u Q I rx ry h hs
  obtain ⟨z, i, c, rfl, rfl, hz, he, q⟩ := h
  obtain ⟨t, rfl⟩ := rx
  obtain ⟨t', rfl⟩ := ry
  obtain ⟨j, h1, h2, h3, h4, h5⟩ := atI_get he
  have hl : z.cps.toList.length = z.length := by simp [Str.length]
  rw [hl] at h1 h4 h5
  have hn := line63
  exact tail_any (typeIs_str s z t) slot_str_getitem.lookup (getItem_str (c := c) (by
    have e1 : decide (i < -(2 ^ 63 : Int)) = false := decide_eq_false (by omega)
    have e2 : decide (i ≥ 2 ^ 63) = false := decide_eq_false (by omega)
    rw [e1, e2, Bool.or_false]) (by rw [h1]; simpa using h2) ⟨.str ⟨#[c]⟩, H, I.tok _, ⟨_, rfl⟩, q⟩) hs
noncomputable def rIx (K : PySem.W.Frag) : R2 := fun x y H Q => rIxL K x y H Q ∨ rIxT K x y H Q ∨ rIxS x y H Q
theorem ix_seq : IxR X (rIx X.K) := ix_list.or (ix_tup.or ix_str)
theorem Inv.lst {pins : List (Addr × Obj)} {σ : St} {H : Hp} {s : Shared} {p : Addr} {xs : List V} (I : Inv X pins σ H s) (h : H p = some (.lst xs)) :
    ∃ (its : List Value) (n : Nat), Vals xs its ∧ s.heap.get? p = some { cls := .type "list", data := .seq its.toArray n } ∧ xs.length ≤ sizeLine := by
  obtain ⟨z, its, n, r, e⟩ := I.hok p _ h
  exact ⟨its, n, r, e, z⟩
theorem slice_bounds (lo hi : Option Int) (n : Nat) : (sliceBounds lo hi none n).1 = ((HT.sIx n 0 lo : Nat) : Int) ∧ (sliceBounds lo hi none n).2.1 = ((HT.sIx n n hi : Nat) : Int) ∧ (sliceBounds lo hi none n).2.2 = 1 := by
  refine ⟨?_, ?_, rfl⟩
  · cases lo with
    | none => simp [sliceBounds, HT.sIx]
    | some i =>
      simp only [sliceBounds, HT.sIx, Option.getD_none, show (1 : Int) > 0 by decide, if_true]
      by_cases h : i < 0
      · simp only [h, if_true] <;> omega
      · simp only [h, if_false] <;> omega
  · cases hi with
    | none => simp [sliceBounds, HT.sIx]
    | some i =>
      simp only [sliceBounds, HT.sIx, Option.getD_none, show (1 : Int) > 0 by decide, if_true]
      by_cases h : i < 0
      · simp only [h, if_true] <;> omega
      · simp only [h, if_false] <;> omega
theorem slicePick_cut (its : List Value) (lo hi : Option Int) : slicePick its.toArray lo hi none = ((its.drop (HT.sIx its.length 0 lo)).take (HT.sIx its.length its.length hi - HT.sIx its.length 0 lo)).toArray := by
  obtain ⟨h1, h2, h3⟩ := slice_bounds lo hi its.toArray.size
  unfold slicePick
  rw [h1, h2, h3]
  simp only [sliceRange_one, pick_run, List.size_toArray] <;> rfl
noncomputable def rSlL (K : PySem.W.Frag) : V → Option Int → Option Int → Hp → VK → Prop := fun x lo hi H Q => ∃ a xs, x = .ref a ∧ SqL K H a xs ∧ ∀ p, H p = none → Q (.ref p) (upd H p (.lst (cutV xs lo hi)))
theorem sl_list : SlR X (rSlL X.K) := by
  intro pins s σ H x v vl vu lo hi sl Q I rx hs pl pu h
  obtain ⟨a, xs, rfl, hx, q⟩ := h
  cases rx
  obtain ⟨its, r, ht, hz⟩ := I.list hx
  have hlen := r.length
  refine ⟨"list", _, slot_list_getitem.lookup, ht.isList.typeIs, ?_⟩
  refine wpAny_getItem_list_slice ht.isList hs pl pu .none (by simp) ?_ (by rw [List.size_toArray] <;> omega)
  rw [slicePick_cut, ← hlen]
  refine ⟨.ref s.heap.objs.size, _, I.laid (t' := s.toks) (o := .lst (cutV xs lo hi)) (fun b ob q => Heap.get?_push_of_some _ q) (Nat.le_refl _) ?_, rfl, q _ (I.hok.fresh (Nat.le_refl _))⟩
  exact ⟨Nat.le_trans (cutV_length xs lo hi) hz, _, 0, (r.drop (HT.sIx xs.length 0 lo)).take (HT.sIx xs.length xs.length hi - HT.sIx xs.length 0 lo), Heap.get?_push_size _ rfl⟩
theorem CallR.or {f : Value} {r r' : List V → Hp → VK → Prop} (h : CallR X f r) (h' : CallR X f r') : CallR X f (fun xs H Q => r xs H Q ∨ r' xs H Q) := by
  intro pins s σ H xs us Q I rs q
  rcases q with q | q
  · exact h pins s σ H xs us Q I rs q
  · exact h' pins s σ H xs us Q I rs q
theorem call_list_of : CallR X (.type "list") (fun xs H Q => ∃ p ys, xs = [.ref p] ∧ (SqL X.K H p ys ∨ SqT X.K H p ys) ∧ ∀ l, H l = none → Q (.ref l) (upd H l (.lst ys))) := by
  intro pins s σ H xs us Q I r h
  obtain ⟨p, ys, rfl, hq, q⟩ := h
  obtain ⟨u, rfl, rx⟩ := vals1 r
  cases rx
  have fin : ∀ (its : List Value), Vals ys its → ys.length ≤ sizeLine → ∀ (h' : Heap) (c' : Nat), (∀ b o', s.heap.get? b = some o' → h'.get? b = some o') →
      h'.get? s.heap.objs.size = some { cls := .type "list", dict := none, data := .seq its.toArray c', slots := #[] } → EP X pins σ Q (.ref s.heap.objs.size) { s with heap := h' } := fun its r' hz h' c' kp e =>
    ⟨.ref s.heap.objs.size, _, I.laid (t' := s.toks) kp (Nat.le_refl _) (show ObjOk X.prog X.w _ h' _ (.lst ys) from ⟨hz, its, c', r', e⟩), rfl, q _ (I.hok.fresh (Nat.le_refl _))⟩
  rcases hq with hq | hq
  · obtain ⟨its, r', pl, hz⟩ := I.list hq
    have hlen := r'.length
    obtain ⟨o, ho, hc, n, hd⟩ := pl.isList
    exact call_list_seq p (.inl rfl) ho hc hd (fun h' c' kp e => fin its r' hz h' c' kp e) (by simp only [List.size_toArray] <;> omega)
  · obtain ⟨its, r', pl, hz⟩ := I.tuple hq
    have hlen := r'.length
    obtain ⟨o, ho, hc, n, hd⟩ := pl
    exact call_list_seq p (.inr rfl) ho hc hd (fun h' c' kp e => fin its r' hz h' c' kp e) (by simp only [List.size_toArray] <;> omega)
noncomputable def tyV (K : PySem.W.Frag) (T : String) (x : V) (H : Hp) : Prop := match x with
  | .str _ => T = "str"
  | .int _ => T = "int"
  | .ref p => (T = "list" ∧ ∃ xs, SqL K H p xs) ∨ (T = "tuple" ∧ ∃ o, K.lookup p = some o ∧ o.cls = .type "tuple" ∧ o.dict = none) ∨
      (T = "dict" ∧ ((∃ kvs, H p = some (.dK kvs)) ∨ ∃ kvs, H p = some (.dT kvs))) ∨ (T = "set" ∧ ∃ S n, H p = some (.set S n))
  | _ => False
theorem tyV_is {pins : List (Addr × Obj)} {σ : St} {H : Hp} {s : Shared} {T : String} {x : V} {v : Value} (I : Inv X pins σ H s) (r : RelV x v) (ty : tyV X.K T x H) :
    s.TypeIs v T ∧ ∀ a, v = .ref a → ∃ ob, s.heap.get? a = some ob ∧ ob.dict = none := by
  cases x with
  | str z =>
    obtain ⟨t, rfl⟩ := r
    cases (show T = "str" from ty)
    exact ⟨typeIs_str s z t, fun _ e => nomatch e⟩
  | int i =>
    obtain ⟨t, rfl⟩ := r
    cases (show T = "int" from ty)
    exact ⟨typeIs_int s i t, fun _ e => nomatch e⟩
  | ref p =>
    cases r
    rcases ty with ⟨rfl, xs, hq⟩ | ⟨rfl, o, hk, hc, hd⟩ | ⟨rfl, hk⟩ | ⟨rfl, S, n, hk⟩
    · obtain ⟨its, _, pl, _⟩ := I.list hq
      refine ⟨pl.isList.typeIs, fun a e => ?_⟩
      cases e
      obtain ⟨o, n, e, c, hd, _⟩ := pl
      exact ⟨o, e, hd⟩
    · refine ⟨⟨o, I.kIn p o hk, hc⟩, fun a e => ?_⟩
      cases e
      exact ⟨o, I.kIn _ o hk, hd⟩
    · have z : ∃ o, s.heap.get? p = some o ∧ o.ExactDict := by
        rcases hk with ⟨kvs, hk⟩ | ⟨kvs, hk⟩
        · obtain ⟨_, _, _, _, o, _, _, e, ex, _⟩ := I.hok p _ hk
          exact ⟨o, e, ex⟩
        · obtain ⟨_, _, _, _, o, _, _, e, ex, _⟩ := I.hok p _ hk
          exact ⟨o, e, ex⟩
      obtain ⟨o, e, ex⟩ := z
      refine ⟨⟨o, e, ex.1⟩, fun a e2 => ?_⟩
      cases e2
      exact ⟨o, e, ex.2.1⟩
    · obtain ⟨o, _, _, _, e, ex, _⟩ := I.hok p _ hk
      refine ⟨⟨o, e, ex.1⟩, fun a e2 => ?_⟩
      cases e2
      exact ⟨o, e, ex.2.1⟩
  | _ => exact False.elim ty
noncomputable def tBM (K : PySem.W.Frag) (T : String) (r : V → List V → Hp → VK → Prop) (to : TE) (t : TA) : TE := fun σ H Q => to σ H fun x H1 => tyV K T x H1 ∧ t σ H1 fun xs H2 => r x xs H2 Q
variable {o e : Expr} {es : List Expr} {to : TE} {t : TA} {name : Str} {apos cpos : Pos} {T id : String} {r : V → List V → Hp → VK → Prop}
theorem pe_bm (pa : PlainAttrs T) (slot : Slot T name id) (hty : typeOf (.builtin id) = pure (.type "method_descriptor")) (hm : MtR X id r) (ho : PE X o to) (ha : PA X (e :: es) t)
    (hbase : attributeBase o name X.env (eval o X.env) = eval o X.env := by rfl)
    (hfew : ((backTo cpos (starEach (e :: es) X.env)).all (fun x => !x.1) && (backToKw cpos (keywordEach [] X.env)).all (fun x => x.1.isSome)
      && decide ((e :: es).length + ([] : List Keyword).length + (if ([] : List Keyword).isEmpty then 0 else 1) < 30)) = true := by rfl)
    (hline : (apos.endLine == cpos.line) = true := by rfl) (hs : starEach (e :: es) X.env = (false, eval e X.env) :: starEach es X.env := by rfl) (hplain : (backTo cpos (starEach es X.env)).any (·.1) = false := by rfl) :
    PE X (.Call (.Attribute o name apos) (e :: es) [] cpos) (tBM X.K T r to t) := by
  intro pins s σ H Q I h
  refine wpAny_Call_method_late hbase hfew hline rfl (thn (ho pins s σ H _ I h) fun v s1 ⟨x, H1, I1, r1, ty, q1⟩ => ?_)
  obtain ⟨h1, h2⟩ := tyV_is I1 r1 ty
  refine ⟨T, id, pa, slot, hty, h1, h2, ?_⟩
  have hA := ha cpos pins s1 σ H1 _ I1 q1
  rw [hs] at hA ⊢
  refine Calls.callWith_builtin (by show (false || (backTo cpos (starEach es X.env)).any (·.1)) = false; rw [hplain] <;> rfl) (Calls.evalArgs_plain ?_)
  exact thn hA fun us s2 ⟨vs, H2, I2, r2, q2⟩ => hm pins s2 σ H2 x vs v us Q I2 r1 r2 q2
end
end L2
namespace L2
open PySem PySem.Spec PyProof.Rows
noncomputable def MtM (X : Cx) (id : String) (r : V → List V → Hp → VK → Prop) : Prop :=
  ∀ (pins : List (Addr × Obj)) (s : Shared) (σ : St) (H : Hp) (x : V) (xs : List V) (v : Value) (us : List Value) (Q : VK), Inv X pins σ H s → RelV x v → Vals xs us → r x xs H Q →
    wpAny (model X.prog X.w) X.A (call (.builtin id) (v :: us)) (EP X pins σ Q) X.xe s
theorem Vals.one : ∀ {x : V} {us : List Value}, Vals [x] us → ∃ u, us = [u] ∧ RelV x u
  | _, _, .cons r .nil => ⟨_, rfl, r⟩
theorem Vals.two : ∀ {x y : V} {us : List Value}, Vals [x, y] us → ∃ u v, us = [u, v] ∧ RelV x u ∧ RelV y v
  | _, _, _, .cons r (.cons q .nil) => ⟨_, _, rfl, r, q⟩
theorem Vals.zero : ∀ {us : List Value}, Vals [] us → us = []
  | _, .nil => rfl
theorem Vals.reverse {xs : List V} {us : List Value} (h : Vals xs us) : Vals xs.reverse us.reverse := by
  induction h with
  | nil => exact .nil
  | cons r t ih => rw [List.reverse_cons, List.reverse_cons]; exact Vals.append ih (.cons r .nil)
theorem Vals.rep {xs : List V} {us : List Value} (h : Vals xs us) : ∀ k : Nat, Vals (List.replicate k xs).flatten (List.replicate k us).flatten
  | 0 => .nil
  | k + 1 => by
    rw [List.replicate_succ, List.replicate_succ, List.flatten_cons, List.flatten_cons]
    exact Vals.append h (Vals.rep h k)
section
variable {X : Cx} {pins : List (Addr × Obj)} {σ : St} {H : Hp} {s : Shared} {l b : Addr} {xs ys zs : List V}
theorem Inv.lset {its its' : List Value} {n : Nat} {f : Array Value → Array Value} {t' : Nat} (I : Inv X pins σ H s) (hH : H l = some (.lst xs))
    (e : s.heap.get? l = some { cls := .type "list", data := .seq its.toArray n }) (hf : f its.toArray = its'.toArray) (hv : Vals ys its') (hz : ys.length ≤ sizeLine) :
    Inv X pins σ (upd H l (.lst ys)) { s with heap := s.heap.update l (Obj.mapSeq f), toks := t' } := by
  have q := PySem.IsL.update e f
  rw [hf] at q
  refine I.write (x := l) (e := l) (by rw [hH]; exact trivial) (.inl rfl) (fun b' u hb hu => (Heap.get?_update_other s.heap (Obj.mapSeq f) (Ne.symm hb)).trans hu) ⟨_, q⟩ ?_
  exact ⟨hz, its', _, hv, q⟩
theorem Inv.lnew {its : List Value} {t' : Nat} (I : Inv X pins σ H s) (hv : Vals ys its) (hz : ys.length ≤ sizeLine) :
    Inv X pins σ (upd H s.heap.objs.size (.lst ys)) { s with heap := s.heap.push { cls := .type "list", data := .seq its.toArray }, toks := t' } :=
  I.laid (fun _ _ q => Heap.get?_push_of_some _ q) (Nat.le_refl _) ⟨hz, its, 0, hv, Heap.get?_push_size _ rfl⟩
theorem Inv.fresh (I : Inv X pins σ H s) : H s.heap.objs.size = none := I.hok.fresh (Nat.le_refl _)
theorem Inv.lstM (I : Inv X pins σ H s) (hH : H l = some (.lst xs)) : xs.length ≤ sizeLine ∧ ∃ (its : List Value) (n : Nat), Vals xs its ∧ xs.length = its.length ∧ s.heap.get? l = some { cls := .type "list", data := .seq its.toArray n } := by
  obtain ⟨z, its, n, r, e⟩ := I.hok l _ hH
  exact ⟨z, its, n, r, r.length, e⟩
end
section
variable {X : Cx}
noncomputable def rAppend : V → List V → Hp → VK → Prop := fun x vs H Q => ∃ l xs y, x = .ref l ∧ vs = [y] ∧ H l = some (.lst xs) ∧ xs.length < sizeLine ∧ Q .non (upd H l (.lst (xs ++ [y])))
theorem mt_append : MtM X "list.append" rAppend := by
  intro pins s σ H x vs v us Q I rx rv h
  obtain ⟨l, xs, y, rfl, rfl, hH, hz, q⟩ := h
  cases rx
  obtain ⟨u, rfl, ru⟩ := rv.one
  obtain ⟨z, its, n, r, hl, e⟩ := I.lstM hH
  refine call_meets F.slot_list_append ⟨_, e, rfl⟩ F.entry_list_append (F.args_list_append_2 _ _) (PySem.list_append l its.toArray n u (by rw [List.size_toArray]; omega)) ⟨e, ?_⟩
  refine ⟨.non, _, I.lset (its' := its ++ [u]) hH e (by simp) (r.append (.cons ru .nil)) ?_, rfl, q⟩
  rw [List.length_append, List.length_singleton]
  omega
end
section
variable {prog : Program} {w : World} {A : Around} {E : Value → Shared → Prop} {s : Shared}
end
section
variable {X : Cx}
end
end L2
namespace Att
open PySem PySem.W PySem.Calls PyProof.Rows
theorem ints_of_wellAll {P : Params} {h : Heap} : ∀ (ns : List Int) (vs : List Value), WellAll P h vs (ns.map WData.int) → IntsAre vs ns := by
  intro ns
  induction ns with
  | nil =>
    intro vs w
    rw [List.map_nil] at w
    cases w
    exact .nil
  | cons n ns ih =>
    intro vs w
    rw [List.map_cons] at w
    cases w with
    | cons a b =>
      cases a
      exact .cons _ _ (ih _ b)
theorem script_of {l : OpenLaw} {n : Nat} (hn : l.most = some n) {P : Params} {h : Heap} {args : List WData} {vals : List Value}
    (hpre : l.row.toRowW.claim.pre args = true) (hwl : WellAll P h vals args) :
    ∃ a vs ns, vals = [Value.ref a] ∧ args = [WData.list (ns.map WData.int)] ∧ h.get? a = some { cls := .type "list", data := .seq vs.toArray } ∧ IntsAre vs ns ∧ ns.length ≤ n := by
  have hsh : WShape.hasAll [] args [.list .int] = true := (pre_splitW hpre).1
  have hc : l.pre.holds [] { args := args } = true := (pre_splitW hpre).2
  obtain ⟨d, r, rfl, h1, h2⟩ := hasAllW_cons hsh
  obtain rfl := hasAllW_nil h2
  obtain ⟨xs, rfl, h3⟩ := hasW_list h1
  obtain ⟨ns, rfl⟩ := items_int h3
  have hlen : ns.length ≤ n := by
    unfold OpenLaw.pre at hc
    have h4 : (WTm.not (.lt (.lit (.int (n : Int))) (.len (.arg 0)))).holds [] { args := [.list (ns.map .int)] } = true := by
      have h4 := (holds_andW hc).1
      rw [hn] at h4
      exact h4
    have h5 := condW_of h4 (w_not (w_lt w_lit (w_len_list (w_arg rfl))))
    rw [List.length_map] at h5
    refine Nat.le_of_not_lt fun q => ?_
    have q' : (n : Int) < ((ns.length : Nat) : Int) := by omega
    first
      | (rw [decide_eq_true q'] at h5; exact absurd h5 (by decide))
      | (simp at h5; omega)
  cases hwl with
  | cons w1 w2 =>
    cases w2
    cases w1 with
    | list ho hall => exact ⟨_, _, ns, rfl, rfl, ho, ints_of_wellAll ns _ hall, hlen⟩
theorem post_true (l : OpenLaw) (args : List WData) : l.row.toRowW.claim.post args (.bool true) args = true :=
  postW_of (r := l.row.toRowW) (X := (true == true))
    (show WShape.has [] (.bool true) .bool = true by first | rfl | decide | simp [WShape.has, WShape.arms, WShape.armsAll])
    (show (WTm.eq .res (.lit (.bool true))).value [] { args := args, res := some (.bool true), after := args } = some (.bool (true == true)) from w_eq_bool (w_res rfl) w_lit) rfl
theorem attach_call {l : OpenLaw} {n : Nat} {q : Program} {loose : List Str} {XP : (Str → Option Value) → Heap → Prop} {YP : World → Heap → Prop} {d : DefRec}
    (hn : l.most = some n) (hdf : d.params.defaults = [])
    (call : ∀ (w : World) (s₀ s₁ : Shared) (mg mb : Str → Option Value) (fa : Addr) (o : Obj) (pm cd doc : Value) (a : Addr) (vs : List Value) (ns : List Int),
      Ground q loose [] XP w s₀ mg mb s₁.heap → YP w s₁.heap →
      s₁.heap.get? fa = some o → o.data = .func (docDef d.name d.params d.body d.scope pm cd doc) → s₁.heap.CodeRec cd d.name → mg d.name = some (.ref fa) →
      s₁.heap.get? a = some { cls := .type "list", data := .seq vs.toArray } → IntsAre vs ns → ns.length ≤ n → s₁.gens = #[] →
      codeAny (model l.prog w) callerA (.call (.ref fa) ⟨[.ref a], []⟩) (fun r s' => r = .ok (.ret (.bool true)) ∧ OldK s₁.heap s'.heap ∧ s'.os = s₁.os ∧ AllBare s'.gens) s₁) :
    WalkO q loose XP YP l.row.toRowW d [] (fun f vs => PySem.call f vs) := by
  intro w s₀ s₁ mg mb G Y fa o pm cd doc dV kV ho hd hcd hD hmg hg args vals as hpre hlay hrd hwl hlo
  obtain rfl : dV = .none := Dflts.none hD hdf
  obtain rfl : kV = .none := Dflts.noKw hD
  obtain ⟨a, vs, ns, rfl, rfl, hobj, hints, hlen⟩ := script_of hn hpre hwl
  refine enter_call (codeAny_mono (call w s₀ s₁ mg mb fa o pm cd doc a vs ns G Y ho (fd_plain hd) hcd hmg hobj hints hlen hg) fun r s' hq => ?_)
  obtain ⟨rfl, h2, h3, h4⟩ := hq
  exact ⟨.inl ⟨.bool true, .bool true, [], rfl, fun _ => rfl, .bool true, post_true l _, fun _ => ⟨List.Pairwise.nil, fun _ hm => (nomatch hm)⟩⟩, h2, h3, h4⟩
section
variable {prog : Program} {w : World} {A : Around} {E : Value → Shared → Prop} {s : Shared} {K : Frag}
end
end Att
namespace L2
open PySem PySem.Spec PyProof.Rows
noncomputable def KL (K : PySem.W.Frag) (a : Addr) (xs : List V) : Prop :=
  ∃ (its : List Value) (n : Nat), K.lookup a = some { cls := .type "list", data := .seq its.toArray n } ∧ its.length ≤ sizeLine ∧ Vals xs its
noncomputable def Ls (K : PySem.W.Frag) (H : Hp) (a : Addr) (xs : List V) : Prop := Rd H a (.lst xs) ∨ KL K a xs
theorem vals_ints : ∀ {vs : List Value} {ns : List Int}, IntsAre vs ns → Vals (ns.map V.int) vs
  | _, _, .nil => .nil
  | _, _, .cons n t h => .cons ⟨t, rfl⟩ (vals_ints h)
noncomputable def Only (H : Hp) : Prop := ∀ b, H b = none ∨ ∃ o xs, H b = some (.frz o (.lst xs))
theorem law_call {P : Program} {w : World} {K : PySem.W.Frag} {mg mb : Str → Option Value} {CX : CXT} {k : Nat} {fa a : Addr} {fd : FuncData} {x : Str} {sp : Sp} {s₁ : Shared} {vs : List Value} {ns : List Int}
    (KX : K.In s₁.heap) (hns : s₁.heap.Ns mainGlobals mg) (hb : s₁.heap.Ns builtinsNs mb) (hbb : ∀ x : Str, x ≠ "__name__" → mb x = bootBuiltins x) (hlim : s₁.heap.NoLimit) (hg : s₁.gens = #[])
    (ha : s₁.heap.get? a = some { cls := .type "list", data := .seq vs.toArray }) (hi : IntsAre vs ns) (hl : ns.length ≤ sizeLine) (hr : Room k callerA)
    (F : ∀ base : Heap, K.In base → base.Ns mainGlobals mg → FnOk P w K mg base CX k fa fd [x] sp) (hbind : ∀ (s : Shared) (u : Value), BindsTo s fd ⟨[u], []⟩ [(x, u)])
    (hsp : ∀ H : Hp, Only H → Ls K H a (ns.map V.int) → sp [.ref a] H (fun v _ => v = .bl true) fun _ _ _ => False)
    (hCX : ∀ H e s', CX [] H s₁ (fun _ _ _ => False) e s' → False) :
    codeAny (model P w) callerA (.call (.ref fa) ⟨[.ref a], []⟩) (fun r s' => r = .ok (.ret (.bool true)) ∧ OldK s₁.heap s'.heap ∧ s'.os = s₁.os ∧ AllBare s'.gens) s₁ := by
  have rv := vals_ints hi
  have lenV := hi.length
  -- from an abstract heap in which nothing but the script may be tracked
  have core : ∀ H : Hp, Only H → Ls K H a (ns.map V.int) → HOk P w H s₁.heap → (∀ b, H b ≠ none → b = a) → (H a ≠ none → K.lookup a = none) →
      codeAny (model P w) callerA (.call (.ref fa) ⟨[.ref a], []⟩) (fun r s' => r = .ok (.ret (.bool true)) ∧ OldK s₁.heap s'.heap ∧ s'.os = s₁.os ∧ AllBare s'.gens) s₁ := by
    intro H hO hS hok hA hK
    have base_of : ∀ {b : Addr} {o : Obj}, s₁.heap.get? b = some o → H b = none → (hidT s₁.heap H).get? b = some o := fun e n => hidT_get e n
    have noA : ∀ {b : Addr} {o : Obj} {es : Array DictEntry} {ep : Nat}, s₁.heap.get? b = some o → o.data = .dict es ep → H b = none := fun {b o es ep} e d => by
      cases q : H b with
      | none => rfl
      | some u =>
        have e' : b = a := hA b (by rw [q]; simp)
        subst e'
        rw [ha] at e; cases e
        have d' : Data.seq vs.toArray _ = Data.dict es ep := d
        cases d'
    have nsK : ∀ {b : Addr} {m : Str → Option Value}, s₁.heap.Ns b m → (hidT s₁.heap H).Ns b m := fun {b m} ⟨o, es, ep, e, d, r⟩ => ⟨o, es, ep, base_of e (noA e d), d, r⟩
    have hKb : K.In (hidT s₁.heap H) := fun b o e => base_of (KX b o e) (by
      cases q : H b with
      | none => rfl
      | some u =>
        have e' : b = a := hA b (by rw [q]; simp)
        subst e'
        rw [hK (by rw [q]; simp)] at e; cases e)
    have hM : Mod K mg (hidT s₁.heap H) := ⟨hKb, nsK hns, ⟨mb, nsK hb, hbb⟩, let ⟨mc, h1, h2⟩ := hlim; ⟨mc, nsK h1, h2⟩⟩
    have e0 : Env0 P w K mg (hidT s₁.heap H) callerA [] s₁ H := ⟨rfl, hM, fun b o e => of_hidT e, Nat.le_of_eq (hidT_size _ _), trivial, fun b hb => absurd (show b ∈ ([] : List Addr) from hb) (by simp), hok, .of_eq hg⟩
    refine codeAny_mono ((F _ hKb (nsK hns)).run callerA [] s₁ H ⟨[.ref a], []⟩ [.ref a] [.ref a] _ _ hr e0 (hbind s₁ (.ref a)) (.cons rfl .nil) (hsp H hO hS)) fun r s' h => ?_
    cases r with
    | error e => exact (hCX H e s' h).elim
    | ok fl =>
      cases fl with
      | next => exact False.elim h
      | brk => exact False.elim h
      | cont => exact False.elim h
      | ret u =>
        obtain ⟨v, H', os, bare, un, hok', r', q⟩ := h
        have q' : v = .bl true := q
        subst q'
        obtain rfl : u = Value.bool true := r'
        refine ⟨rfl, OldK.of_keep fun b o e => ?_, os, bare⟩
        cases q : H b with
        | none => exact un.keep b o e q (by intro z; exact absurd (show b ∈ ([] : List Addr) from z) (by simp)) (by simp)
        | some u =>
          rcases hO b with z | ⟨ob, xs, z⟩
          · rw [q] at z; cases z
          · have z2 := un.frzs b ob _ z
            obtain ⟨e1, _⟩ := hok b _ z
            obtain ⟨e2, _⟩ := hok' b _ z2
            rw [e] at e1; cases e1
            exact e2
  cases hk : K.lookup a with
  | some o =>
    -- the script is one of the module's own objects
    have e := KX a o hk
    rw [ha] at e
    cases e
    refine core (fun _ => none) (fun _ => .inl rfl) (.inr ⟨vs, _, hk, by rw [lenV]; exact hl, rv⟩) (fun b u z => by have z' : (none : Option HO) = some u := z; cases z') (fun b z => absurd rfl z) fun z => absurd rfl z
  | none =>
    refine core (fun b => if b = a then some (.frz { cls := .type "list", data := .seq vs.toArray } (.lst (ns.map V.int))) else none) (fun b => ?_) (.inl (.inr ⟨{ cls := .type "list", data := .seq vs.toArray }, if_pos rfl⟩)) (fun b u z => ?_) (fun b z => ?_) fun _ => hk
    · by_cases hb : b = a
      · exact .inr ⟨_, _, if_pos hb⟩
      · exact .inl (if_neg hb)
    · by_cases hb : b = a
      · have z' := (if_pos hb).symm.trans z
        cases z'
        subst hb
        exact ⟨ha, by rw [List.length_map]; exact hl, vs, _, rv, ha⟩
      · have z' := (if_neg hb).symm.trans z
        cases z'
    · by_cases hb : b = a
      · exact hb
      · exact absurd (if_neg hb) z
end L2
namespace L2
open PySem PySem.Spec PyProof.Rows
theorem walk_of {l : PySem.W.OpenLaw} {n k : Nat} {q : Program} {loose : List Str} {XP : (Str → Option Value) → Heap → Prop} {YP : World → Heap → Prop} {d : DefRec} {K : Params → PySem.W.Frag} {CX : World → CXT} {sp : World → Sp} {x : Str}
    (hn : l.most = some n) (hn2 : n ≤ sizeLine) (hdf : d.params.defaults = []) (hr : Room k callerA)
    (hY : ∀ (w : World) (h : Heap), YP w h → (K w.params).In h)
    (F : ∀ (w : World) (mg : Str → Option Value) (fa : Addr) (h : Heap), (K w.params).In h → h.Ns mainGlobals mg → mg d.name = some (.ref fa) →
      ∃ fd : FuncData, (∀ (s : Shared) (u : Value), BindsTo s fd ⟨[u], []⟩ [(x, u)]) ∧
        ∀ base : Heap, (K w.params).In base → base.Ns mainGlobals mg → FnOk l.prog w (K w.params) mg base (CX w) k fa fd [x] (sp w))
    (hsp : ∀ (w : World) (H : Hp) (a : Addr) (ns : List Int), ns.length ≤ n → Only H → Ls (K w.params) H a (ns.map V.int) → sp w [.ref a] H (fun v _ => v = .bl true) fun _ _ _ => False)
    (hCX : ∀ (w : World) (H : Hp) (s : Shared) (e : Value) (s' : Shared), CX w [] H s (fun _ _ _ => False) e s' → False) :
    PySem.W.WalkO q loose XP YP l.row.toRowW d [] (fun f vs => PySem.call f vs) := by
  refine Att.attach_call hn hdf fun w s₀ s₁ mg mb fa o pm cd doc a vs ns G Y ho hd hcd hmg hobj hints hlen hg => ?_
  have KX := hY w _ Y
  obtain ⟨fd, hb, hF⟩ := F w mg fa _ KX G.T.g hmg
  exact law_call KX G.T.g G.T.b G.T.builtins G.T.nolimit hg hobj hints (Nat.le_trans hlen hn2) hr hF hb (fun H hO hS => hsp w H a ns hlen hO hS) fun H e s' => hCX w H s₁ e s'
end L2
namespace L2
open PySem PySem.Spec PyProof.Rows
noncomputable def defArgs (s : Stmt) : Arguments := match s with
  | .FunctionDef _ a _ _ _ _ _ _ _ _ => a
  | _ => { posonlyargs := [], args := [], vararg := none, kwonlyargs := [], kw_defaults := [], kwarg := none, defaults := [] }
noncomputable def defBody (s : Stmt) : List Stmt := match s with
  | .FunctionDef _ _ b _ _ _ _ _ _ _ => b
  | _ => []
noncomputable def defScope (s : Stmt) : Scope := match s with
  | .FunctionDef _ _ _ _ _ _ sc _ _ _ => sc
  | _ => { kind := .function, names := [], isGenerator := false, isCoroutine := false }
noncomputable abbrev CX0 : CXT := fun _ _ _ _ _ _ => False
noncomputable abbrev E0 : XK := fun _ _ _ => False
theorem pass0 {X : Cx} : Passes CX0 X E0 := fun _ _ _ _ _ _ _ h => h.elim
structure Fun (K : PySem.W.Frag) (x qual : Str) (st : Stmt) (f : Addr) (fd : FuncData) : Prop where
  ex : ∃ (oc : Value) (od : Option Addr) (kV doc pm : Value) (an : Option Addr) (cdv ct : Value) (osl : Array (Option Value)),
    fd = PySem.W.fnOf x qual (defArgs st) (defBody st) (defScope st) .none kV doc pm an cdv ct ∧ K.lookup f = some ⟨oc, od, .func fd, osl⟩ ∧ PySem.W.codeIn K cdv qual = true
  kp : PySem.W.keepIn K (.ref f) = true
section
variable {P : Program} {w : World} {K : PySem.W.Frag} {mg : Str → Option Value} {base : Heap}
theorem Fun.ok {x qual : Str} {st : Stmt} {f : Addr} {fd : FuncData} {N ps : List Str} {k : Nat} {sp : Sp} (F : Fun K x qual st f fd) (S : FnScope N ps (defScope st)) (len : ∀ vs H Q E, sp vs H Q E → vs.length = ps.length)
    (hbody : ∀ (cdv : Value) (A : Around) (outer : List Env) (s : Shared) (H : Hp) (vs : List V) (Q : VK) (E : XK), Room k (A.deeper (envOfC qual (defScope st) s.heap.objs.size f cdv)) → sp vs H Q E →
      ∃ t, PSs (cxOf CX0 P w K mg base N qual (defScope st) f cdv A outer s H E).nox (defBody st) t ∧ t { nx := fun _ H' => Q .non H', rt := Q } (start N vs) H) : FnOk P w K mg base CX0 (k + 1) f fd ps sp := by
  obtain ⟨oc, od, kV, doc, pm, an, cdv, ct, osl, rfl, lk, hcd⟩ := F.ex
  refine fn_of lk hcd S len fun A outer s H vs Q E hr hsp => ?_
  obtain ⟨t, h, q⟩ := hbody cdv A outer s H vs Q E hr hsp
  exact ⟨t, h.nox, q⟩
theorem Fun.binds {x qual : Str} {st : Stmt} {f : Addr} {fd : FuncData} {ps : List Str} (F : Fun K x qual st f fd)
    (h : ∀ (kV doc pm : Value) (an : Option Addr) (cdv ct : Value) (us : List Value), us.length = ps.length → bindArgs (PySem.W.fnOf x qual (defArgs st) (defBody st) (defScope st) .none kV doc pm an cdv ct) ⟨us, []⟩ = pure (ps.zip us)) : Binds K fd ps [] := by
  obtain ⟨oc, od, kV, doc, pm, an, cdv, ct, osl, rfl, lk, hcd⟩ := F.ex
  exact .all (h kV doc pm an cdv ct)
theorem fun_mk {x qual : Str} {st : Stmt} {f : Addr} {oc : Value} {od an : Option Addr} {osl : Array (Option Value)} {kV doc pm cdv ct : Value} (l : K.lookup f = some ⟨oc, od, .func (PySem.W.fnOf x qual (defArgs st) (defBody st) (defScope st) .none kV doc pm an cdv ct), osl⟩)
    (c : PySem.W.codeIn K cdv qual = true) (k : PySem.W.keepIn K (.ref f) = true) : Fun K x qual st f (PySem.W.fnOf x qual (defArgs st) (defBody st) (defScope st) .none kV doc pm an cdv ct) := ⟨⟨oc, od, kV, doc, pm, an, cdv, ct, osl, rfl, l, c⟩, k⟩
end
section
variable {X : Cx}
end
noncomputable def Same (H H' : Hp) : Prop := ∀ b o, H b = some o → H' b = some o
theorem Same.refl (H : Hp) : Same H H := fun _ _ h => h
theorem Same.trans {H H1 H2 : Hp} (a : Same H H1) (b : Same H1 H2) : Same H H2 := fun c o h => b c o (a c o h)
theorem Same.free {H H' : Hp} (e : Same H H') {l : Addr} (h : H' l = Option.none) : H l = Option.none := by
  cases q : H l with
  | none => rfl
  | some o =>
    rw [e l o q] at h
    cases h
theorem Same.seq {K : PySem.W.Frag} {H H' : Hp} {a : Addr} {xs : List V} (e : Same H H') (h : SqL K H a xs) : SqL K H' a xs := by
  rcases h with (h | ⟨o, h⟩) | h
  · exact .inl (.inl (e _ _ h))
  · exact .inl (.inr ⟨o, e _ _ h⟩)
  · exact .inr h
end L2
namespace L2
open PySem PySem.Spec PyProof.Rows
theorem peMono {X : Cx} {e : Expr} {t t' : TE} (h : PE X e t) (m : ∀ σ H Q, t' σ H Q → t σ H Q) : PE X e t' := fun pins s σ H Q I q => h pins s σ H Q I (m σ H Q q)
theorem ptMono {X : Cx} {e : Expr} {t t' : TT} (h : PT X e t) (m : ∀ σ H Q, t' σ H Q → t σ H Q) : PT X e t' := fun pins s σ H Q I q => h pins s σ H Q I (m σ H Q q)
theorem paMono {X : Cx} {e : List Expr} {t t' : TA} (h : PA X e t) (m : ∀ σ H Q, t' σ H Q → t σ H Q) : PA X e t' := fun pos pins s σ H Q I q => h pos pins s σ H Q I (m σ H Q q)
theorem psMono {X : Cx} {e : Stmt} {t t' : TS} (h : PS X e t) (m : ∀ D σ H, t' D σ H → t D σ H) : PS X e t' := fun pins s σ H D I q => h pins s σ H D I (m D σ H q)
theorem pssMono {X : Cx} {e : List Stmt} {t t' : TS} (h : PSs X e t) (m : ∀ D σ H, t' D σ H → t D σ H) : PSs X e t' := fun pins s σ H D I q => h pins s σ H D I (m D σ H q)
theorem piMono {X : Cx} {tg e : Expr} {t t' : TI} (h : PI X tg e t) (m : ∀ σ H Q, t' σ H Q → t σ H Q) : PI X tg e t' := fun pins s σ H Q I q => h pins s σ H Q I (m σ H Q q)
noncomputable def cxC (X : Cx) (scope : Scope) (cl : List (Str × Addr)) (N : List Str) (C : Addr) (s3 : Shared) (H3 : Hp) (fp : List Addr) : Cx :=
  { X with N := N, s₀ := s3, H₀ := H3, env := compEnvC scope cl C X.env, outer := X.stack, ex := fp, fn := fun _ => false, pn := [], xe := fun _ _ => False }
structure CompSc (X : Cx) (scope : Scope) (cl : List (Str × Addr)) (Fr : List (Str × Nat)) (Tg : List Str) : Prop where
  clos : closureFor scope X.env = pure cl
  kind : scope.kind = .function
  nocell : ∀ y ∈ scope.names, y.2 ≠ .cell
  loc : ∀ y ∈ scope.names, y.2 = .local → scope.names.lookup y.1 = some .local
  sub : ∀ x c, cl.lookup x = some c → X.env.cells.lookup x = some c
  has : ∀ x, ((relabel scope X.env).names.lookup x = some .cell ∨ (relabel scope X.env).names.lookup x = some .free) → ∃ c, cl.lookup x = some c
  out : ∀ p ∈ Fr, X.N[p.2]? = some p.1 ∧ (X.env.kindOf p.1 = some .cell ∨ X.env.kindOf p.1 = some .free) ∧ ((relabel scope X.env).names.lookup p.1 = some .cell ∨ (relabel scope X.env).names.lookup p.1 = some .free)
noncomputable def stC (Fr : List (Str × Nat)) (Tg : List Str) (σ : St) : St := Fr.map (fun p => (σ[p.2]?).join) ++ List.replicate Tg.length none
section
variable {X : Cx} {scope : Scope} {cl : List (Str × Addr)} {Fr : List (Str × Nat)} {Tg : List Str} {pins : List (Addr × Obj)} {σ : St} {H3 : Hp} {s3 : Shared} {fp : List Addr}
theorem cxC_ok (S : CompSc X scope cl Fr Tg) (I : Inv X pins σ H3 s3) (hf : ∀ b ∈ fp, FpOk X pins H3 b) (hfs : ∀ b ∈ fp, b < s3.heap.objs.size) (N : List Str) : (cxC X scope cl N s3.heap.objs.size s3 H3 fp).Ok where
  mod := I.ok.mod
  kind := S.kind
  glob := I.ok.glob
  blt := I.ok.blt
  above := Nat.le_refl _
  inj := fun x y c h1 h2 => I.ok.inj x y c (S.sub x c h1) (S.sub y c h2)
  has := fun x h => S.has x h
  cab := fun x c h _ => absurd (show false = true from h) (by decide)
  hd := I.ok.hd
  frames := I.ok.frames
  stk := .inl rfl
  exf := fun b hb => ⟨Nat.ne_of_lt (hfs b hb), fun x c e z => (hf b hb).2.2.2.2.1 x c (S.sub x c e) z⟩
  bs := I.bs
  bsz := Nat.le_trans I.ok.bsz I.sz
  noex := fun b o e hb => by
    rcases (hf b hb).2.2.2.1 with z | z
    · exact I.ok.noex b o e z
    · exact absurd (Nat.lt_of_lt_of_le (Heap.lt_size e) (Nat.le_trans I.ok.bsz z)) (Nat.lt_irrefl _)
  exfs := fun b hb z => by
    rcases List.mem_cons.mp (I.stkSub b z) with z | z
    · exact (hf b hb).2.1 z
    · exact (hf b hb).2.2.1 z
  funs := I.stack
  frf := I.stkFree
theorem cxC_start (S : CompSc X scope cl Fr Tg) (I : Inv X pins σ H3 s3) (hf : ∀ b ∈ fp, FpOk X pins H3 b) (hfs : ∀ b ∈ fp, b < s3.heap.objs.size) {h' : Heap} {tk : Nat}
    (hns : h'.Ns s3.heap.objs.size (fun _ => none)) (hk : ∀ b o, s3.heap.get? b = some o → h'.get? b = some o) (hTg : ∀ x ∈ Tg, True) :
    Inv (cxC X scope cl (Fr.map (·.1) ++ Tg) s3.heap.objs.size s3 H3 fp) [] (stC Fr Tg σ) H3 { s3 with heap := h', toks := tk } where
  ok := cxC_ok S I hf hfs _
  os := rfl
  bare := I.bare
  base := Un.kept hk
  loc := by
    refine ⟨_, hns, fun i x v e1 e2 e3 => ?_⟩
    have hi : i < Fr.length := by
      by_cases hi : i < Fr.length
      · exact hi
      · unfold stC at e2
        rw [List.getElem?_append_right (by simpa using hi), List.getElem?_replicate] at e2
        split at e2 <;> cases e2
    have e1' : (Fr.map (·.1))[i]? = some x := by
      rw [← e1]
      exact (List.getElem?_append_left (by simpa using hi)).symm
    have e2' : (Fr.map (fun p => (σ[p.2]?).join))[i]? = some (some v) := by
      rw [← e2]
      exact (List.getElem?_append_left (by simpa using hi)).symm
    rw [List.getElem?_map] at e1' e2'
    obtain ⟨p, hp, rfl⟩ := Option.map_eq_some_iff.mp e1'
    rw [hp] at e2'
    have e2'' : (σ[p.2]?).join = some v := Option.some.inj e2'
    have e4 : σ[p.2]? = some (some v) := by
      cases q : σ[p.2]? with
      | none => rw [q] at e2''; cases e2''
      | some y => rw [q] at e2''; rw [show y = some v from e2'']
    obtain ⟨o1, o2, o3⟩ := S.out p (List.mem_of_getElem? hp)
    obtain ⟨m, hn, hl⟩ := I.loc
    have hv : Vis X.env.scope p.1 := by
      rcases o2 with o2 | o2
      · exact .inr (.inl o2)
      · exact .inr (.inr o2)
    obtain ⟨u, r, l⟩ := hl p.2 p.1 v o1 e4 hv
    refine ⟨u, r, .inr ⟨o3, ?_⟩⟩
    obtain ⟨c, hc⟩ := S.has p.1 o3
    refine ⟨c, hc, ?_⟩
    have hc' := S.sub _ _ hc
    rcases l with ⟨k, _⟩ | ⟨_, c2, h2, z⟩
    · rcases o2 with o2 | o2 <;> (rw [k] at o2; cases o2)
    · rw [hc'] at h2; cases h2
      obtain ⟨o, ho, hd⟩ := z
      exact ⟨o, hk _ _ ho, hd⟩
  cell := fun x c e => by
    obtain ⟨v, o, ho, hd⟩ := I.cell x c (S.sub x c e)
    exact ⟨v, o, hk _ _ ho, hd⟩
  free := I.hok.fresh (Nat.le_refl _)
  freeC := fun x c e => I.freeC x c (S.sub x c e)
  pin := fun p hp => absurd (show p ∈ ([] : List (Addr × Obj)) from hp) (by simp)
  hok := I.hok.kept hk
  len := by
    unfold stC
    show _ = (Fr.map (·.1) ++ Tg).length
    simp
end
noncomputable def PTs (X : Cx) (ifs : List Expr) (t : TT) : Prop :=
  ∀ (pins : List (Addr × Obj)) (s : Shared) (σ : St) (H : Hp) (Q : Bool → Hp → Prop), Inv X pins σ H s → t σ H Q →
    wpAny (model X.prog X.w) X.A (forIn ifs true fun c r => if r = true then do let ok ← isTrue c X.env (eval c X.env); pure (ForInStep.yield ok) else pure (ForInStep.yield r)) (TP X pins σ Q) X.xe s
theorem tests_false {M : Model} {A : Around} {E : Value → Shared → Prop} {s : Shared} {env : Env} {Q : Bool → Shared → Prop} (h : Q false s) : ∀ ifs : List Expr,
    wpAny M A (forIn ifs false fun c r => if r = true then do let ok ← isTrue c env (eval c env); pure (ForInStep.yield ok) else pure (ForInStep.yield r)) Q E s
  | [] => by
    rw [List.forIn_nil]
    exact wpAny_pure h
  | c :: cs => by
    rw [List.forIn_cons]
    rw [if_neg Bool.false_ne_true]
    exact wpAny_bind (wpAny_pure (tests_false h cs))
theorem pts_nil {X : Cx} : PTs X [] (fun _ H Q => Q true H) := fun pins s σ H Q I q => by
  rw [List.forIn_nil]
  exact wpAny_pure ⟨H, I, q⟩
theorem pts_cons {X : Cx} {c : Expr} {cs : List Expr} {t u : TT} (hc : PT X c t) (hr : PTs X cs u) : PTs X (c :: cs) (tAnd t u) := fun pins s σ H Q I q => by
  rw [List.forIn_cons, if_pos rfl]
  refine wpAny_bind (wpAny_bind (thn (hc pins s σ H _ I q) fun b s1 ⟨H1, I1, q1⟩ => wpAny_pure ?_))
  cases b with
  | true => exact hr pins s1 σ H1 Q I1 q1
  | false => exact tests_false ⟨H1, I1, q1⟩ cs
noncomputable def tCmpr (wi : TI) (start : St → St) (g : TG) (tt : TT) (te : TE) : TE := fun σ H Q => wi σ H fun J H1 => ∀ D, H1 D = none → ∃ W : Nat → Nat → St → Hp → Prop, (∃ m, W 0 m (start σ) (upd H1 D (.lst []))) ∧
  ∀ i m σ' H', W i m σ' H' → (J.stop i H' ∧ Q (.ref D) H') ∨ (J.go i H' ∧ ∀ x H2, J.yld i H' x H2 → g x σ' H2 fun σ2 H3 => tt σ2 H3 fun b H4 =>
    if b = true then te σ2 H4 fun v H5 => ∃ ys, H5 D = some (.lst ys) ∧ ys.length < sizeLine ∧ ∃ m', m' < m ∧ W (i + 1) m' σ2 (upd H5 D (.lst (ys ++ [v])))
    else ∃ m', m' < m ∧ W (i + 1) m' σ2 H4)
section
variable {X : Cx} {scope : Scope} {cl : List (Str × Addr)} {Fr : List (Str × Nat)} {Tg : List Str} {elt tg iter : Expr} {ifs : List Expr} {wi : TI} {g : TG} {tt : TT} {te : TE} {pos : Pos}
theorem compTurn_any (scope : Scope) (pos : Pos) (it acc : Value) (env : Env) :
    compTurn (.ListComp elt [⟨tg, iter, ifs, 0⟩] scope pos) 0 it acc env = (do
      standAt iter.pos
      match ← pyNext it with
      | none => pure (.done .next)
      | some v =>
        letOwnedTupleGo tg it v
        assign tg env v
        let ok ← forIn ifs true fun c r => if r = true then do let ok ← isTrue c env (eval c env); pure (ForInStep.yield ok) else pure (ForInStep.yield r)
        if ok = true then
          (do let _ ← call (.builtin "list.append") [acc, ← eval elt env])
        again (.compLoop (.ListComp elt [⟨tg, iter, ifs, 0⟩] scope pos) 0 it acc env)) := by rfl
theorem comp_block (hc : X.calm = true) (S : CompSc X scope cl Fr Tg)
    (hg : ∀ C s H fp, PG (cxC X scope cl (Fr.map (·.1) ++ Tg) C s H fp) tg g) (ht : ∀ C s H fp, PTs (cxC X scope cl (Fr.map (·.1) ++ Tg) C s H fp) ifs tt)
    (he : ∀ C s H fp, PE (cxC X scope cl (Fr.map (·.1) ++ Tg) C s H fp) elt te)
    {pins : List (Addr × Obj)} {σ : St} {H2 : Hp} {s2 : Shared} {it : Addr} {fp : List Addr} {tn : Nat → Heap → Prop} {J : It} {Q : VK} (I2 : Inv X pins σ H2 s2) (T : Turn X.prog X.w X.K tg J fp it tn) (st2 : tn 0 s2.heap)
    (f2 : ∀ b ∈ fp, FpOk X pins H2 b)
    (q : ∀ D, H2 D = none → ∃ W : Nat → Nat → St → Hp → Prop, (∃ m, W 0 m (stC Fr Tg σ) (upd H2 D (.lst []))) ∧
      ∀ i m σ' H', W i m σ' H' → (J.stop i H' ∧ Q (.ref D) H') ∨ (J.go i H' ∧ ∀ x H2, J.yld i H' x H2 → g x σ' H2 fun σ2 H3 => tt σ2 H3 fun b H4 =>
        if b = true then te σ2 H4 fun v H5 => ∃ ys, H5 D = some (.lst ys) ∧ ys.length < sizeLine ∧ ∃ m', m' < m ∧ W (i + 1) m' σ2 (upd H5 D (.lst (ys ++ [v])))
        else ∃ m', m' < m ∧ W (i + 1) m' σ2 H4))
    {E : Value → Shared → Prop} {RR : Value → Addr → Result → Shared → Prop}
    (hR : ∀ D C s' H', (∃ m, s'.heap.Ns C m) → Inv X pins σ H' s' → FpOk X pins H' C → Q (.ref D) H' → RR (.ref D) C (.ok .next) s') :
    wpAny (model X.prog X.w) X.A (newList []) (fun acc s₃ => wpAny (model X.prog X.w) X.A (newFunctionEnv scope X.env.globals cl [] X.env.qual none .none (some X.env)) (fun cenv s₄ =>
      codeAny (model X.prog X.w) X.A (.compStart (.ListComp elt [⟨tg, iter, ifs, 0⟩] scope pos) 0 (.ref it) acc { cenv with scope := relabel scope X.env }) (RR acc cenv.locals) s₄) E s₃) E s2 := by
  have fsz : ∀ b ∈ fp, b < s2.heap.objs.size := fun b hb => by
    obtain ⟨o, e, _⟩ := T.obj _ _ st2 b hb
    exact Heap.lt_size e
  -- the accumulator
  refine wpAny_newObj_type ?_
  have I3 : Inv X pins σ (upd H2 s2.heap.objs.size (.lst [])) { s2 with heap := s2.heap.push { cls := .type "list", data := .seq ([] : List Value).toArray }, toks := s2.toks } := I2.lnew (ys := []) (its := []) .nil (Nat.zero_le _)
  generalize hD : s2.heap.objs.size = D at I3 ⊢
  have hDn : H2 D = none := by rw [← hD]; exact I2.fresh
  generalize hs3 : ({ s2 with heap := s2.heap.push { cls := .type "list", data := .seq ([] : List Value).toArray }, toks := s2.toks } : Shared) = s3 at I3
  have k3 : ∀ b o, s2.heap.get? b = some o → s3.heap.get? b = some o := fun b o e => by rw [← hs3]; exact Heap.get?_push_of_some _ e
  have sz3 : s3.heap.objs.size = D + 1 := by rw [← hs3, ← hD]; exact Heap.size_push ..
  have fszD : ∀ b ∈ fp, b < D := fun b hb => by rw [← hD]; exact fsz b hb
  have fsz3 : ∀ b ∈ fp, b < s3.heap.objs.size := fun b hb => by rw [sz3]; exact Nat.lt_succ_of_lt (fszD b hb)
  have f3 : ∀ b ∈ fp, FpOk X pins (upd H2 D (.lst [])) b := fun b hb => by
    obtain ⟨a1, a2⟩ := f2 b hb
    refine ⟨?_, a2⟩
    rw [upd_ne (Nat.ne_of_lt (fszD b hb))]
    exact a1
  obtain ⟨W, ⟨m0, w0⟩, turn⟩ := q D hDn
  refine wpAny_newFunctionEnv S.nocell (by intro y hy; simp at hy) (fun h4 hns hsb => ?_) S.kind
  have k4 : ∀ b o, s3.heap.get? b = some o → h4.get? b = some o := fun b o e =>
    hsb.extBut b o (Nat.ne_of_lt (Heap.lt_size e)) (Heap.get?_push_of_some _ e)
  have st4 : tn 0 h4 := T.keep _ _ _ st2 fun b hb o e => k4 b o (k3 b o e)
  have I4 := cxC_start (fp := fp) (h' := h4) (tk := s3.toks + ([] : List (Str × Value)).length) S I3 f3 fsz3 (by simpa using hns) k4 (fun _ _ => trivial)
  generalize hC : s3.heap.objs.size = C at I4 hns hsb ⊢
  generalize hY : cxC X scope cl (Fr.map (·.1) ++ Tg) C s3 (upd H2 D (.lst [])) fp = Y at I4
  have yP : Y.prog = X.prog := by rw [← hY]; rfl
  have yw : Y.w = X.w := by rw [← hY]; rfl
  have yK : Y.K = X.K := by rw [← hY]; rfl
  have yA : Y.A = X.A := by rw [← hY]; rfl
  have yc : Y.calm = true := by rw [← hY]; exact hc
  have yx : Y.xe = fun _ _ => False := by rw [← hY]; rfl
  have ye : Y.env = compEnvC scope cl C X.env := by rw [← hY]; rfl
  have yex : Y.ex = fp := by rw [← hY]; rfl
  have ypn : Y.pn = [] := by rw [← hY]; rfl
  have yfs : Y.fs = frs X.stack := by rw [← hY]; rfl
  have yH : Y.H₀ = upd H2 D (.lst []) := by rw [← hY]; rfl
  have ys₀ : Y.s₀ = s3 := by rw [← hY]; rfl
  have hg' : PG Y tg g := by rw [← hY]; exact hg _ _ _ _
  have ht' : PTs Y ifs tt := by rw [← hY]; exact ht _ _ _ _
  have he' : PE Y elt te := by rw [← hY]; exact he _ _ _ _
  have stat : ∀ {H' : Hp}, (∀ b ∈ fp, H' b = none) → ∀ b ∈ fp, FpOk Y [] H' b := fun hn b hb => by
    have okY := I4.ok
    refine ⟨hn b hb, (okY.exf b (by rw [yex]; exact hb)).1, okY.exfs b (by rw [yex]; exact hb), .inl (by rw [yex]; exact hb), (okY.exf b (by rw [yex]; exact hb)).2, fun p hp => absurd hp (by rw [ypn]; simp)⟩
  have fr0 : ∀ b ∈ fp, (upd H2 D (.lst [])) b = none := fun b hb => (f3 b hb).1
  -- back to the frame
  have back : ∀ (s5 : Shared) (σ5 : St) (H5 : Hp), Inv Y [] σ5 H5 s5 → (∃ m, s5.heap.Ns C m) ∧ Inv X pins σ H5 s5 ∧ FpOk X pins H5 C := by
    intro s5 σ5 H5 I5
    have hns5 : ∃ m, s5.heap.Ns C m := by
      obtain ⟨m, hn, _⟩ := I5.loc
      rw [ye] at hn
      exact ⟨m, hn⟩
    have un5 : Un (frs X.stack) fp (upd H2 D (.lst [])) H5 s3.heap s5.heap := by
      have u := I5.base
      rw [yfs, yex, yH, ys₀] at u
      exact u
    have os5 : s5.os = s3.os := by have := I5.os; rw [ys₀] at this; exact this
    have hok5 : HOk X.prog X.w H5 s5.heap := by have := I5.hok; rw [yP, yw] at this; exact this
    have hch : ∀ b ∈ fp, (b ∈ X.ex ∨ X.s₀.heap.objs.size ≤ b) ∧ b ≠ X.env.locals ∧ (∀ x c, X.env.cells.lookup x = some c → c ≠ b) ∧ ∀ p ∈ X.pn ++ pins, p.1 ≠ b := fun b hb => by
      obtain ⟨_, a1, _, a3, a4, a5⟩ := f3 b hb
      exact ⟨a3, a1, a4, a5⟩
    have free5 : H5 C = none := by
      have := I5.free
      rw [ye] at this
      exact this
    exact ⟨hns5, I3.call' os5 un5 hok5 I5.bare hch, I3.fpOk (Nat.le_of_eq hC) free5⟩
  have loop : ∀ (s5 : Shared) (σ5 : St) (H5 : Hp) (i m : Nat), Inv Y [] σ5 H5 s5 → tn i s5.heap → (∀ b ∈ fp, H5 b = none) → W i m σ5 H5 →
      codeAny (model X.prog X.w) X.A (.compLoop (.ListComp elt [⟨tg, iter, ifs, 0⟩] scope pos) 0 (.ref it) (.ref D) (compEnvC scope cl C X.env)) (RR (.ref D) C) s5 := by
    intro s5 σ5 H5 i m I5 st5 fr5 w5
    refine codeAny_loop rfl (fun n s' => ∃ i σ' H', Inv Y [] σ' H' s' ∧ tn i s'.heap ∧ (∀ b ∈ fp, H' b = none) ∧ W i n σ' H') ?_ m ⟨i, σ5, H5, I5, st5, fr5, w5⟩
    rintro n s6 ⟨i, σ6, H6, I6, st6, fr6, w6⟩
    show wpAny _ X.A ((compTurn (.ListComp elt [⟨tg, iter, ifs, 0⟩] scope pos) 0 (.ref it) (.ref D) (compEnvC scope cl C X.env)).onRaise (fun x => do noteFrame x (compEnvC scope cl C X.env); theTreesLotGoes x)) _ _ s6
    refine wpAny_noted ?_
    rw [compTurn_any]
    refine wpAny_bind (wpAny_standAt (wpAny_bind ?_))
    have nx : ∀ {α : Type} {t : Sem α} {Q : α → Shared → Prop} {E' : Value → Shared → Prop} {s : Shared}, wpAny (model X.prog X.w) X.A t Q (fun _ _ => False) s → wpAny (model X.prog X.w) X.A t Q E' s := fun h => wpAny_mono h (fun _ _ z => z) fun _ _ z => z.elim
    rcases turn i n σ6 H6 w6 with ⟨stop, qn⟩ | ⟨go, step⟩
    · have h := T.done Y yP yw yK yc i [] s6 σ6 H6 (fun _ _ => False) I6 (stat fr6) st6 stop
      rw [yA] at h
      refine nx (thn h fun r s7 ⟨hr, I7⟩ => ?_)
      subst hr
      refine wpAny_pure ?_
      obtain ⟨b1, b2, b3⟩ := back s7 σ6 H6 I7
      exact hR D C s7 H6 b1 b2 b3 qn
    · have h := T.item Y yP yw yK yc i [] s6 σ6 H6 (fun _ _ => False) I6 (stat fr6) st6 go
      rw [yA] at h
      refine nx (thn h fun r s7 ⟨u, hr, h7⟩ => ?_)
      subst hr
      refine wpAny_bind (nx (thn h7 fun _ s8 ⟨x, H8, I8, r8, y8, st8, fr8⟩ => ?_))
      have I8' := I8.pinned (stat fr8) (T.obj _ _ st8)
      have h9 := hg' _ s8 σ6 H8 x u _ I8' r8 (step x H8 y8)
      rw [yP, yw, yA, yx, ye] at h9
      refine wpAny_bind (nx (thn h9 fun _ s9 ⟨σ9, H9, I9, q9⟩ => ?_))
      have h10 := ht' _ s9 σ9 H9 _ I9 q9
      rw [yP, yw, yA, yx, ye] at h10
      refine wpAny_bind (nx (thn h10 fun ok s10 ⟨H10, I10, q10⟩ => ?_))
      have again : ∀ {σ' : St} {H' : Hp} {s' : Shared}, Inv Y ([] ++ pinsAt fp s8.heap) σ' H' s' → (∃ m', m' < n ∧ W (i + 1) m' σ' H') → ∃ m, m < n ∧ ∃ i σ' H', Inv Y [] σ' H' s' ∧ tn i s'.heap ∧ (∀ b ∈ fp, H' b = none) ∧ W i m σ' H' := fun {σ' H' s'} I' ⟨m', hm, w'⟩ => by
        refine ⟨m', hm, i + 1, σ', H', I'.unpinned, T.keep _ _ _ st8 fun b hb o e => (I'.pin (b, o) (List.mem_append_right _ (List.mem_append_right _ (mem_pinsAt hb e)))).1, fun b hb => ?_, w'⟩
        obtain ⟨o, e, d⟩ := T.obj _ _ st8 b hb
        exact (I'.pin (b, o) (List.mem_append_right _ (List.mem_append_right _ (mem_pinsAt hb e)))).2.1
      cases ok with
      | false =>
        rw [if_neg Bool.false_ne_true] at q10
        refine wpAny_bind (wpAny_pure (wpAny_pure ⟨rfl, again I10 q10⟩))
      | true =>
        rw [if_pos rfl] at q10
        have h11 := he' _ s10 σ9 H10 _ I10 q10
        rw [yP, yw, yA, yx, ye] at h11
        refine wpAny_bind (wpAny_bind (nx (thn h11 fun y s11 ⟨v, H11, I11, r11, ys, ey, zy, q11⟩ => ?_)))
        have h12 := mt_append (X := Y) ([] ++ pinsAt fp s8.heap) s11 σ9 H11 (.ref D) [v] (.ref D) [y] (fun v' H' => v' = .non ∧ H' = upd H11 D (.lst (ys ++ [v]))) I11 rfl (.cons r11 .nil) ⟨D, ys, v, rfl, rfl, ey, zy, rfl, rfl⟩
        rw [yP, yw, yA, yx] at h12
        refine wpAny_bind (nx (thn h12 fun z s12 ⟨v12, H12, I12, r12, e12, e12'⟩ => ?_))
        subst e12'
        exact wpAny_pure (wpAny_pure ⟨rfl, again I12 q11⟩)
  have start := loop { s3 with heap := h4, toks := s3.toks + ([] : List (Str × Value)).length } (stC Fr Tg σ) (upd H2 D (.lst [])) 0 m0 I4 st4 fr0 w0
  have e5 : ∀ (s' : Shared), s' = { s3 with heap := h4, toks := s3.toks + ([] : List (Str × Value)).length } → codeAny (model X.prog X.w) X.A (.compLoop (.ListComp elt [⟨tg, iter, ifs, 0⟩] scope pos) 0 (.ref it) (.ref D) (compEnvC scope cl C X.env)) (RR (.ref D) C) s' := by
    rintro _ rfl
    exact start
  exact codeAny_compStart_list (e5 _ rfl) (T.self _ _ _ _ _ st4 (e5 _ rfl))
theorem pe_comp (hc : X.calm = true) (S : CompSc X scope cl Fr Tg) (hi : PI X tg iter wi)
    (hg : ∀ C s H fp, PG (cxC X scope cl (Fr.map (·.1) ++ Tg) C s H fp) tg g) (ht : ∀ C s H fp, PTs (cxC X scope cl (Fr.map (·.1) ++ Tg) C s H fp) ifs tt)
    (he : ∀ C s H fp, PE (cxC X scope cl (Fr.map (·.1) ++ Tg) C s H fp) elt te) (hs : ∀ x, foldedSetIterable iter X.env x = pure x := by intro _; rfl) :
    PE X (.ListComp elt [⟨tg, iter, ifs, 0⟩] scope pos) (tCmpr wi (stC Fr Tg) g tt te) := by
  intro pins s σ H Q I h
  rw [eval_ListComp]
  refine wpAny_comprehension_free (use := none) rfl hs S.clos S.kind S.loc (thn (hi pins s σ H _ I h) fun xv s1 h1 => thn h1 fun itv s2 h2 => ?_)
  obtain ⟨it, fp, tn, J, H2, rfl, I2, T, st2, f2, q⟩ := h2
  refine comp_block (RR := fun acc C => compPost (model X.prog X.w) X.A X.xe none (EP X pins σ Q) acc C) hc S hg ht he I2 T st2 f2 q ?_
  intro D C s' H' ⟨m, hn⟩ I' F' q'
  obtain ⟨f0, f1, f2, f3, f4, f5⟩ := F'
  exact ⟨m, hn, fun h' sb => ⟨.ref D, H', I'.turned (t' := s'.toks) (fun b o hb e => (sb.2 b hb).trans e) f0 f1 f3 f4 f5, rfl, q'⟩⟩
theorem ps_comp {y : Str} {py spos : Pos} {i : Nat} (hc : X.calm = true) (hN : X.N.Nodup) (hiN : X.N[i]? = some y) (hy : X.env.kindOf y = some .local) (S : CompSc X scope cl Fr Tg) (hi : PI X tg iter wi)
    (hg : ∀ C s H fp, PG (cxC X scope cl (Fr.map (·.1) ++ Tg) C s H fp) tg g) (ht : ∀ C s H fp, PTs (cxC X scope cl (Fr.map (·.1) ++ Tg) C s H fp) ifs tt)
    (he : ∀ C s H fp, PE (cxC X scope cl (Fr.map (·.1) ++ Tg) C s H fp) elt te)
    (hsw : swapsWith (.ListComp elt [⟨tg, iter, ifs, 0⟩] scope pos) (some (.Name y py)) spos.line X.env = pure true) (hs : ∀ x, foldedSetIterable iter X.env x = pure x := by intro _; rfl) :
    PS X (.Assign [.Name y py] (.ListComp elt [⟨tg, iter, ifs, 0⟩] scope pos) spos) (fun D σ H => tCmpr wi (stC Fr Tg) g tt te σ H fun v H' => D.nx (σ.set i (some v)) H') := by
  intro pins s σ H D I h
  rw [exec_Assign_Name_used _ _ _ _ hsw]
  refine wpAny_bind (wpAny_standAt (wpAny_bind ?_))
  show wpAny _ X.A (do let _ ← comprehension (.ListComp elt [⟨tg, iter, ifs, 0⟩] scope pos) scope X.env _ (newList []) false (eval iter X.env) (some (assign (.Name y py) X.env))) _ _ s
  refine wpAny_bind (thn (wpAny_comprehension_free (use := some (assign (.Name y py) X.env)) (Q := fun _ s' => SP X pins D .next s') rfl hs S.clos S.kind S.loc
    (thn (hi pins s σ H _ I h) fun xv s1 h1 => thn h1 fun itv s2 h2 => ?_)) fun _ s' hq => wpAny_pure (wpAny_pure hq))
  obtain ⟨it, fp, tn, J, H2, rfl, I2, T, st2, f2, q⟩ := h2
  refine comp_block (Q := fun v H' => D.nx (σ.set i (some v)) H') (RR := fun acc C => compPost (model X.prog X.w) X.A X.xe (some (assign (.Name y py) X.env)) (fun _ s' => SP X pins D .next s') acc C) hc S hg ht he I2 T st2 f2 q ?_
  intro D' C s' H' ⟨m, hn⟩ I' F' q'
  obtain ⟨f0, f1, f2, f3, f4, f5⟩ := F'
  show wpAny _ X.A (assign (.Name y py) X.env (.ref D')) _ _ _
  refine wpAny_assign_Name (store_ok2 I' hN hiN (.inl hy) (show RelV (.ref D') (.ref D') from rfl) (fun s'' I'' ⟨a, sb, ha⟩ => ?_) (.inr hy))
  have hCa : C ≠ a := by
    rcases ha with rfl | ha
    · exact f1
    · exact fun z => f4 y a ha z.symm
  refine ⟨m, hn.sameBut sb hCa, fun h' sb' => ⟨_, H', I''.turned (t' := s''.toks) (fun b o hb e => (sb'.2 b hb).trans e) f0 f1 f3 f4 f5, q'⟩⟩
end
end L2
namespace L2
open PySem PySem.Spec PyProof.Rows PySem.SeqAt
section
variable {prog : Program} {w : World} {A : Around} {E : Value → Shared → Prop} {s : Shared}
end
end L2
namespace L2
open PySem PySem.Spec PyProof.Rows PySem.SeqAt
section
variable {X : Cx} {e : Expr} {t : TE} {p p' pos pos' : Pos}
theorem Vals.rev : ∀ {xs : List V} {us : List Value}, Vals xs us → Vals xs.reverse us.reverse
  | [], [], _ => .nil
  | x :: xs, u :: us, .cons r rs => by
    rw [List.reverse_cons, List.reverse_cons]
    exact (Vals.rev rs).append (.cons r .nil)
end
end L2
namespace L2
open PySem PySem.Spec PyProof.Rows PySem.SeqAt
section
variable {X : Cx}
noncomputable def charsV (z : Str) : List V := z.cps.toList.map fun c => .str ⟨#[c]⟩
theorem call_list_txt (hc : X.calm = true) : CallR X (.type "list") (fun xs H Q => ∃ z : Str, xs = [.str z] ∧ z.length ≤ sizeLine ∧ ∀ l, H l = none → Q (.ref l) (upd H l (.lst (charsV z)))) := by
  intro pins s σ H xs us Q I r h
  obtain ⟨z, rfl, hz, q⟩ := h
  obtain ⟨u, rfl, t, rfl⟩ := vals1 r
  refine call_list_str (show X.A.handled = none from I.ok.hd hc) z t (fun h' tk acc' c' kp e hacc => ?_) hz
  have rv : Vals (charsV z) acc'.toList := by
    have hl : acc'.toList.length = z.cps.toList.length := by rw [Array.length_toList, Array.length_toList, hacc.1]
    have key : ∀ (cs : List Nat) (vs : List Value), vs.length = cs.length → (∀ (i : Nat) (v : Value), vs[i]? = some v → ∃ c u, cs[i]? = some c ∧ v = Value.str ⟨#[c]⟩ u) → Vals (cs.map fun c => V.str ⟨#[c]⟩) vs := by
      intro cs
      induction cs with
      | nil =>
        intro vs hl _
        cases vs with
        | nil => exact .nil
        | cons _ _ => cases hl
      | cons c cs ih =>
        intro vs hl hv
        cases vs with
        | nil => cases hl
        | cons v vs =>
          obtain ⟨c', u, e1, e2⟩ := hv 0 v rfl
          have e1' : c = c' := by simpa using e1
          subst e1' e2
          exact .cons ⟨u, rfl⟩ (ih vs (by simpa using hl) fun i w hw => by simpa using hv (i + 1) w (by simpa using hw))
    refine key _ _ hl fun i v hv => ?_
    obtain ⟨c, u, e1, e2⟩ := hacc.2 i v (by rw [← Array.getElem?_toList]; exact hv)
    exact ⟨c, u, by rw [Array.getElem?_toList]; exact e1, e2⟩
  exact ⟨.ref _, _, I.laid (t' := tk) kp (Nat.le_refl _) (show ObjOk X.prog X.w _ h' _ (.lst (charsV z)) from ⟨by unfold charsV; simpa [Str.length] using hz, acc'.toList, c', rv, by simpa using e⟩), rfl, q _ (I.hok.fresh (Nat.le_refl _))⟩
end
end L2
namespace L2
open PySem PySem.Spec PyProof.Rows PySem.SeqAt PySem.W
noncomputable def kRun {α : Type} (lt : Nat → Nat → Bool) : KasT α → α
  | .ret a => a
  | .ask i j k => kRun lt (k (lt i j))
section
variable {prog : Program} {w : World} {A : Around} {E : Value → Shared → Prop} {s : Shared}
noncomputable def TupsAt (h : Heap) : List Value → List (List Int) → Prop
  | [], [] => True
  | v :: vs, ns :: nss => (∃ a o us k, v = .ref a ∧ h.get? a = some o ∧ o.cls = .type "tuple" ∧ o.data = .seq us k ∧ IntsAre us.toList ns ∧ ns ≠ []) ∧ TupsAt h vs nss
  | _, _ => False
theorem TupsAt.keeps {h h' : Heap} (hk : ∀ b o, h.get? b = some o → h'.get? b = some o) : ∀ {vs : List Value} {nss : List (List Int)}, TupsAt h vs nss → TupsAt h' vs nss
  | [], [], _ => trivial
  | v :: vs, ns :: nss, ⟨⟨a, o, us, k, e1, e2, e3⟩, t⟩ => ⟨⟨a, o, us, k, e1, hk _ _ e2, e3⟩, t.keeps hk⟩
  | [], _ :: _, t => t.elim
  | _ :: _, [], t => t.elim
theorem TupsAt.length {h : Heap} : ∀ {vs : List Value} {nss : List (List Int)}, TupsAt h vs nss → vs.length = nss.length
  | [], [], _ => rfl
  | _ :: _, _ :: _, t => by rw [List.length_cons, List.length_cons, t.2.length]
  | [], _ :: _, t => t.elim
  | _ :: _, [], t => t.elim
theorem TupsAt.at {h : Heap} : ∀ {vs : List Value} {nss : List (List Int)}, TupsAt h vs nss → ∀ i, i < vs.length → ∃ a o us k, vs.getD i Value.none = .ref a ∧ h.get? a = some o ∧ o.cls = .type "tuple" ∧ o.data = .seq us k ∧ IntsAre us.toList (nss.getD i [])
  | [], [], _, i, hi => absurd hi (by simp)
  | v :: vs, ns :: nss, t, 0, _ => by
    obtain ⟨⟨a, o, us, k, e1, e2, e3, e4, e5, _⟩, _⟩ := t
    exact ⟨a, o, us, k, e1, e2, e3, e4, e5⟩
  | v :: vs, ns :: nss, t, i + 1, hi => by
    obtain ⟨a, o, us, k, e1, r⟩ := t.2.at i (by simpa using hi)
    exact ⟨a, o, us, k, by simpa using e1, by simpa using r⟩
  | [], _ :: _, t, _, _ => t.elim
  | _ :: _, [], t, _, _ => t.elim
end
noncomputable def AskIn {α : Type} (n : Nat) (P : α → Prop) : KasT α → Prop
  | .ret a => P a
  | .ask i j k => i < n ∧ j < n ∧ ∀ b, AskIn n P (k b)
theorem AskIn.mono {α : Type} {n : Nat} {P P' : α → Prop} (hp : ∀ a, P a → P' a) : ∀ {t : KasT α}, AskIn n P t → AskIn n P' t
  | .ret a, h => hp a h
  | .ask i j k, h => ⟨h.1, h.2.1, fun b => (h.2.2 b).mono hp⟩
theorem AskIn.bind {α β : Type} {n : Nat} {P : α → Prop} {P' : β → Prop} {f : α → KasT β} (hf : ∀ a, P a → AskIn n P' (f a)) : ∀ {t : KasT α}, AskIn n P t → AskIn n P' (t.bind f)
  | .ret a, h => hf a h
  | .ask i j k, h => ⟨h.1, h.2.1, fun b => (h.2.2 b).bind hf⟩
theorem AskIn.run {α : Type} {n : Nat} {P : α → Prop} (lt : Nat → Nat → Bool) : ∀ {t : KasT α}, AskIn n P t → P (kRun lt t)
  | .ret _, h => h
  | .ask i j k, h => (h.2.2 (lt i j)).run lt
noncomputable def PR (n : Nat) (p : Array Nat) : Prop := p.Perm (List.range n).toArray
theorem PR.lt {n : Nat} {p : Array Nat} (h : PR n p) (hn : 0 < n) (i : Nat) : p.getD i 0 < n := by
  by_cases hi : i < p.size
  · have e : p.getD i 0 = p[i] := by simp [Array.getD, hi]
    rw [e]
    have hm : p[i] ∈ (List.range n).toArray := h.mem_iff.mp (Array.getElem_mem hi)
    have hm' : p[i] ∈ List.range n := by simpa using hm
    exact List.mem_range.mp hm'
  · have e : p.getD i 0 = 0 := by simp [Array.getD, hi]
    rw [e]; exact hn
theorem PR.rev {n : Nat} {p : Array Nat} (h : PR n p) (i j : Nat) : PR n (kas_rev p i j) := (mirror_perm p i j _).trans h
section
variable {n : Nat}
end
section
variable {prog : Program} {w : World} {A : Around} {E : Value → Shared → Prop} {s : Shared}
theorem TupsAt.but {h h' : Heap} {a : Addr} {l0 : Obj} (ha : h.get? a = some l0) (hl : l0.cls = .type "list") (hk : ∀ b o, b ≠ a → h.get? b = some o → h'.get? b = some o) : ∀ {vs : List Value} {nss : List (List Int)}, TupsAt h vs nss → TupsAt h' vs nss
  | [], [], _ => trivial
  | v :: vs, ns :: nss, ⟨⟨x, o, us, k, e1, e2, e3, e4⟩, t⟩ => ⟨⟨x, o, us, k, e1, hk _ _ (fun z => by subst z; rw [ha] at e2; cases e2; rw [hl] at e3; exact absurd e3 (by decide)) e2, e3, e4⟩, t.but ha hl hk⟩
  | [], _ :: _, t => t.elim
  | _ :: _, [], t => t.elim
end
end L2
namespace L2
open PySem PySem.Spec PyProof.Rows PySem.SeqAt PySem.W
section
variable {prog : Program} {w : World} {A : Around} {E : Value → Shared → Prop} {s : Shared}
end
end L2
namespace L2
open PySem PySem.Spec PyProof.Rows PySem.SeqAt PySem.W
noncomputable def TupsV (K : PySem.W.Frag) (H : Hp) : List V → List (List Int) → Prop
  | [], [] => True
  | x :: xs, ns :: nss => (∃ a, x = V.ref a ∧ SqT K H a (ns.map V.int) ∧ ns ≠ []) ∧ TupsV K H xs nss
  | _, _ => False
section
variable {X : Cx}
theorem TupsAt.of {pins : List (Addr × Obj)} {s : Shared} {σ : St} {H : Hp} (I : Inv X pins σ H s) : ∀ (xs : List V) (us : List Value) (nss : List (List Int)), Vals xs us → TupsV X.K H xs nss → TupsAt s.heap us nss := by
  intro xs
  induction xs with
  | nil =>
    intro us nss r h
    cases r
    cases nss with
    | nil => exact True.intro
    | cons _ _ => exact False.elim h
  | cons x xs ih =>
    intro us nss r h
    cases r with
    | cons r rs =>
      cases nss with
      | nil => exact False.elim h
      | cons ns nss =>
        obtain ⟨⟨a, ex, hq, hn⟩, hs⟩ := h
        subst ex
        cases r
        obtain ⟨its, rv, pl, hz⟩ := I.tuple hq
        obtain ⟨o, e1, e2, k, e3⟩ := pl
        refine ⟨⟨a, o, its.toArray, k, rfl, e1, e2, e3, ?_, hn⟩, ih _ nss rs hs⟩
        have := intsAre_of rv
        simpa using this
end
end L2
namespace L2
open PySem PySem.Spec PyProof.Rows PySem.SeqAt PySem.W
section
variable {X : Cx}
end
end L2
namespace L2
open PySem PySem.Spec PyProof.Rows PySem.SeqAt PySem.W
section
variable {X : Cx}
end
end L2
namespace L2
open PySem PySem.Spec PyProof.Rows PySem.SeqAt
open PySem.Builtin PySem.Builtin.Str
section
variable {X : Cx}
theorem call_int_txt : CallR X (.type "int") (fun xs H Q => ∃ x n, xs = [.str x] ∧ x.length ≤ 640 ∧ intText? x = some n ∧ Q (.int n) H) := by
  intro pins s σ H xs us Q I r h
  obtain ⟨x, n, rfl, hz, hn, q⟩ := h
  obtain ⟨u, rfl, t, rfl⟩ := vals1 r
  exact PySem.W.KIN.call_text hn hz ⟨.int _, H, I.tok _, ⟨_, rfl⟩, q⟩
theorem split_new {P : Program} {w : World} {A : Around} {E : Value → Shared → Prop} {s : Shared} {x y : Str} {t u : Tok} {Q : Value → Shared → Prop} (hy : y.length ≠ 0) (hx : x.length + 2 ≤ sizeLine)
    (k : ∀ (l : List (Str × Tok)) (n : Nat), l.map (·.1) = Txt.split x y → Q (.ref s.heap.objs.size) { s with heap := s.heap.push { cls := .type "list", data := .seq (strValues l).toArray }, toks := n }) :
    wpAny (model P w) A (call (.builtin "str.split") [.str x t, .str y u]) Q E s := by
  have h0 : (y.length == 0) = false := by simpa using hy
  have hm : (partsBetween x (occurrences x y 0 x.length (x.length + 1)) y.length).length ≤ sizeLine := by
    have := StrLaws.occ_length_le x y 0 x.length (x.length + 1)
    rw [length_partsBetween]
    omega
  by_cases c1 : (decide (x.length < y.length) || decide (strKind x < strKind y)) = true
  · refine call_meets F.slot_str_split (typeIs_str _ _ _) F.entry_str_split (F.args_str_split_2 _ _) (meets_str_split_cannot_occur x y t u c1) ?_
    exact k [(x, t)] s.toks (if_pos c1).symm
  · have c1' := Bool.eq_false_iff.mpr c1
    by_cases c2 : (occurrences x y 0 x.length (x.length + 1)).isEmpty = true
    · refine call_meets F.slot_str_split (typeIs_str _ _ _) F.entry_str_split (F.args_str_split_2 _ _) (meets_str_split_not_found x y t u c1' h0 c2) ?_
      exact k [(x, t)] s.toks ((if_neg c1).trans (if_pos c2)).symm
    · refine call_meets F.slot_str_split (typeIs_str _ _ _) F.entry_str_split (F.args_str_split_2 _ _) (meets_str_split_sep x y t u c1' h0 (Bool.eq_false_iff.mpr c2) (by omega) hm) ?_
      have e := k (numbered s.toks (partsBetween x (occurrences x y 0 x.length (x.length + 1)) y.length)) (s.toks + (partsBetween x (occurrences x y 0 x.length (x.length + 1)) y.length).length) ((numbered_texts _ _).trans ((if_neg c1).trans (if_neg c2)).symm)
      rw [← strsFrom_eq] at e
      exact e
theorem vals_strs : ∀ l : List (Str × Tok), Vals ((l.map (·.1)).map V.str) (strValues l)
  | [] => .nil
  | p :: r => .cons ⟨p.2, rfl⟩ (vals_strs r)
theorem split_ok {pins : List (Addr × Obj)} {s : Shared} {σ : St} {H : Hp} {x y : Str} {t u : Tok} {Q : VK} (I : Inv X pins σ H s) (hy : y.length ≠ 0) (hx : x.length + 2 ≤ sizeLine)
    (k : ∀ p, H p = none → Q (.ref p) (upd H p (.lst ((Txt.split x y).map V.str)))) : wpAny (model X.prog X.w) X.A (call (.builtin "str.split") [.str x t, .str y u]) (EP X pins σ Q) X.xe s := by
  refine split_new hy hx fun l n e => ?_
  refine ⟨.ref _, _, I.laid (t' := n) (fun b o z => Heap.get?_push_of_some _ z) (Nat.le_refl _) (show ObjOk X.prog X.w _ _ _ (.lst ((Txt.split x y).map V.str)) from ⟨?_, strValues l, 0, ?_, Heap.get?_push_size _ rfl⟩), rfl, k _ (I.hok.fresh (Nat.le_refl _))⟩
  · have := split_le x y
    rw [List.length_map]
    omega
  · rw [← e]
    exact vals_strs l
theorem strs_in {K : PySem.W.Frag} {H : Hp} {a : Addr} {od : Option Addr} {n : Nat} {sl : Array (Option Value)} (l : List (Str × Tok)) (h : K.lookup a = some ⟨.type "tuple", od, .seq (strValues l).toArray n, sl⟩) (hz : l.length ≤ 1000) : SqT K H a ((l.map (·.1)).map V.str) := by
  have hs : sizeLine = 16777216 := sizeLine_eq
  refine .inr ⟨_, _, _, h, rfl, rfl, ?_, vals_strs l⟩
  have e : (strValues l).length = l.length := by rw [← (vals_strs l).length, List.length_map, List.length_map]
  show (strValues l).toArray.size ≤ sizeLine
  rw [List.size_toArray]
  omega
theorem pe_ftx {x : Str} {e : Expr} {j : Nat} {p q pos : Pos} {t : TE} (hx : x.length ≤ 1000) (h : PE X e t) :
    PE X (.JoinedStr [.Constant (.str x) j p, .FormattedValue e (-1) none q] pos) (fun σ H Q => t σ H fun v H' => ∃ z, v = .str z ∧ x.length + z.length ≤ sizeLine ∧ Q (.str (x ++ z)) H') := by
  intro pins s σ H Q I hq
  have hs : sizeLine = 16777216 := sizeLine_eq
  refine JoinedStr_many (joinParts_cons (thn (pe_str (X := X) (x := x) (j := j) (pos := p) pins s σ H (fun v H' => v = .str x ∧ H' = H) I ⟨rfl, rfl⟩) fun v s1 ⟨y, H1, I1, r1, e1, e2⟩ => ?_))
  subst e1 e2
  obtain ⟨t1, rfl⟩ := r1
  have ex : Str.empty ++ x = x := Str.empty_append x
  refine ⟨by rw [ex]; omega, ?_⟩
  rw [ex]
  refine joinParts_cons (FormattedValue_plain (thn (h pins s1 σ _ _ I1 hq) fun v s2 ⟨y, H2, I2, r2, z, e2, hz, q2⟩ => ?_))
  subst e2
  obtain ⟨t2, rfl⟩ := r2
  refine formatField_str (fun t' tk => ⟨by rw [strLen_append]; exact hz, ?_⟩) (by omega)
  exact joinParts_nil ⟨.str _, H2, I2.tok _, ⟨_, rfl⟩, q2⟩ (by rw [strLen_append]; exact hz)
end
end L2
namespace L2
open PySem PySem.Spec PyProof.Rows
inductive D where
  | non | bl (b : Bool) | int (i : Int) | str (x : Str) | tup (ds : List D) | lst (own : Bool) (ds : List D)
  deriving Inhabited
mutual
noncomputable def er : D → D
  | .tup ds => .tup (ers ds)
  | .lst _ ds => .lst false (ers ds)
  | .non => .non
  | .bl b => .bl b
  | .int i => .int i
  | .str x => .str x
noncomputable def ers : List D → List D
  | [] => []
  | d :: ds => er d :: ers ds
end
mutual
noncomputable def lfree : D → Bool
  | .tup ds => lfrees ds
  | .lst _ _ => false
  | .non => true
  | .bl _ => true
  | .int _ => true
  | .str _ => true
noncomputable def lfrees : List D → Bool
  | [] => true
  | d :: ds => lfree d && lfrees ds
end
theorem ers_map : ∀ ds : List D, ers ds = ds.map er
  | [] => rfl
  | d :: ds => by rw [ers, ers_map ds]; rfl
theorem lfrees_all : ∀ ds : List D, lfrees ds = ds.all lfree
  | [] => rfl
  | d :: ds => by rw [lfrees, lfrees_all ds]; rfl
theorem ers_length (ds : List D) : (ers ds).length = ds.length := by rw [ers_map, List.length_map]
mutual
theorem er_lfree : ∀ {d : D}, lfree d = true → er d = d
  | .non, _ => rfl
  | .bl _, _ => rfl
  | .int _, _ => rfl
  | .str _, _ => rfl
  | .tup ds, h => by rw [er, ers_lfrees (ds := ds) h]
  | .lst o ds, h => by cases (show false = true from h)
theorem ers_lfrees : ∀ {ds : List D}, lfrees ds = true → ers ds = ds
  | [], _ => rfl
  | d :: ds, h => by
    have h' : (lfree d && lfrees ds) = true := h
    rw [Bool.and_eq_true] at h'
    rw [ers, er_lfree h'.1, ers_lfrees h'.2]
end
inductive Exc where
  | stuck | exc (c : Str)
noncomputable abbrev Res (α : Type) := Except Exc α
noncomputable abbrev stk {α : Type} : Res α := .error .stuck
noncomputable def bnd {α β : Type} (x : Res α) (f : α → Res β) : Res β := match x with
  | .ok a => f a
  | .error e => .error e
noncomputable def grd {α : Type} (c : Bool) (x : Res α) : Res α := if c = true then x else stk
noncomputable def PO' {α : Type} (ex : Str → Prop) (x : Res α) (k : α → Prop) : Prop := match x with
  | .ok a => k a
  | .error (.exc c) => ex c
  | .error .stuck => False
theorem PO'.bnd {α β : Type} {ex : Str → Prop} {x : Res α} {f : α → Res β} {k : β → Prop} (h : PO' ex (bnd x f) k) : PO' ex x fun a => PO' ex (f a) k := by
  cases x with
  | ok a => exact h
  | error e => cases e <;> exact h
theorem PO'.grd {α : Type} {ex : Str → Prop} {c : Bool} {x : Res α} {k : α → Prop} (h : PO' ex (grd c x) k) : c = true ∧ PO' ex x k := by
  unfold L2.grd at h
  cases c with
  | true => exact ⟨rfl, h⟩
  | false => exact False.elim h
theorem PO'.mono {α : Type} {ex : Str → Prop} {x : Res α} {k k' : α → Prop} (h : PO' ex x k) (m : ∀ a, k a → k' a) : PO' ex x k' := by
  cases x with
  | ok a => exact m a h
  | error e => cases e <;> exact h
theorem PO'.mk {α β : Type} {ex : Str → Prop} {x : Res α} {f : α → Res β} {k : β → Prop} (h : PO' ex x fun a => PO' ex (f a) k) : PO' ex (L2.bnd x f) k := by
  cases x with
  | ok a => exact h
  | error e => cases e <;> exact h
theorem PO'.eq {α : Type} {ex : Str → Prop} {x : Res α} {k : α → Prop} (h : PO' ex x k) : PO' ex x fun a => x = .ok a ∧ k a := by
  cases x with
  | ok a => exact ⟨rfl, h⟩
  | error e => cases e <;> exact h
theorem PO'.ok {α : Type} {ex : Str → Prop} {a : α} {k : α → Prop} (h : PO' ex (.ok a : Res α) k) : k a := h
theorem PO'.no {α : Type} {ex : Str → Prop} {k : α → Prop} (h : PO' ex (stk : Res α) k) : False := h
theorem KL.sq {K : PySem.W.Frag} {H : Hp} {a : Addr} {xs : List V} (h : KL K a xs) : SqL K H a xs := by
  obtain ⟨its, n, h1, h2, h3⟩ := h
  exact .inr ⟨_, its.toArray, n, h1, rfl, rfl, rfl, by simpa using h2, by simpa using h3⟩
theorem Ls.sq {K : PySem.W.Frag} {H : Hp} {a : Addr} {xs : List V} (h : Ls K H a xs) : SqL K H a xs := by
  rcases h with h | h
  · exact .inl h
  · exact h.sq
theorem Inv.ls {X : Cx} {pins : List (Addr × Obj)} {σ : St} {H : Hp} {s : Shared} {a : Addr} {xs : List V} (I : Inv X pins σ H s) (h : Ls X.K H a xs) :
    xs.length ≤ sizeLine ∧ ∃ (its : List Value) (n : Nat), Vals xs its ∧ s.heap.get? a = some { cls := .type "list", data := .seq its.toArray n } := by
  rcases h with h | ⟨its, n, h1, h2, h3⟩
  · obtain ⟨z, its, n, r, e⟩ := h.ok I.hok
    exact ⟨z, its, n, r, e⟩
  · exact ⟨by rw [h3.length]; exact h2, its, n, h3, I.kIn _ _ h1⟩
mutual
inductive HRep (K : PySem.W.Frag) (S : Addr → Prop) (H : Hp) : V → D → Prop where
  | non : HRep K S H .non .non
  | bl (b : Bool) : HRep K S H (.bl b) (.bl b)
  | int (i : Int) : HRep K S H (.int i) (.int i)
  | str (x : Str) : HRep K S H (.str x) (.str x)
  | tup {a : Addr} {xs : List V} {ds : List D} : SqT K H a xs → HReps K S H xs ds → HRep K S H (.ref a) (.tup ds)
  | lst {a : Addr} {xs : List V} {o : Bool} {ds : List D} : S a → Rd H a (.lst xs) → HReps K S H xs ds → HRep K S H (.ref a) (.lst o ds)
  | lstK {a : Addr} {xs : List V} {o : Bool} {ds : List D} : KL K a xs → HReps K S H xs ds → HRep K S H (.ref a) (.lst o ds)
inductive HReps (K : PySem.W.Frag) (S : Addr → Prop) (H : Hp) : List V → List D → Prop where
  | nil : HReps K S H [] []
  | cons {v : V} {d : D} {vs : List V} {ds : List D} : HRep K S H v d → HReps K S H vs ds → HReps K S H (v :: vs) (d :: ds)
end
mutual
inductive MRep (K : PySem.W.Frag) (F : Addr → Prop) (H : Hp) : V → D → List Addr → Prop where
  | non : MRep K F H .non .non []
  | bl (b : Bool) : MRep K F H (.bl b) (.bl b) []
  | int (i : Int) : MRep K F H (.int i) (.int i) []
  | str (x : Str) : MRep K F H (.str x) (.str x) []
  | tup {a : Addr} {xs : List V} {ds : List D} {f : List Addr} : SqT K H a xs → MReps K F H xs ds f → MRep K F H (.ref a) (.tup ds) f
  | lstS {a : Addr} {xs : List V} {ds : List D} : F a → Rd H a (.lst xs) → MReps K F H xs ds [] → MRep K F H (.ref a) (.lst false ds) []
  | lstK {a : Addr} {xs : List V} {ds : List D} : KL K a xs → MReps K F H xs ds [] → MRep K F H (.ref a) (.lst false ds) []
  | lstO {a : Addr} {xs : List V} {ds : List D} {f : List Addr} : ¬ F a → H a = some (.lst xs) → MReps K F H xs ds f → MRep K F H (.ref a) (.lst true ds) (a :: f)
inductive MReps (K : PySem.W.Frag) (F : Addr → Prop) (H : Hp) : List V → List D → List Addr → Prop where
  | nil : MReps K F H [] [] []
  | cons {v : V} {d : D} {f : List Addr} {vs : List V} {ds : List D} {g : List Addr} : MRep K F H v d f → MReps K F H vs ds g → MReps K F H (v :: vs) (d :: ds) (f ++ g)
end
theorem Same.rd {H H' : Hp} {a : Addr} {u : HO} (e : Same H H') (h : Rd H a u) : Rd H' a u := by
  rcases h with h | ⟨o, h⟩
  · exact .inl (e _ _ h)
  · exact .inr ⟨o, e _ _ h⟩
theorem Same.seqT {K : PySem.W.Frag} {H H' : Hp} {a : Addr} {xs : List V} (e : Same H H') (h : SqT K H a xs) : SqT K H' a xs := by
  rcases h with h | h
  · exact .inl (e.rd h)
  · exact .inr h
theorem Rd.some {H : Hp} {a : Addr} {u : HO} (h : Rd H a u) : H a ≠ none := by
  rcases h with h | ⟨o, h⟩ <;> (rw [h]; simp)
section
variable {K : PySem.W.Frag} {S S' F F' : Addr → Prop} {H H' : Hp}
mutual
theorem HRep.step (hl : ∀ a xs, S a → Rd H a (.lst xs) → S' a ∧ Rd H' a (.lst xs)) (ht : ∀ a xs, SqT K H a xs → SqT K H' a xs) {v : V} {d : D} : HRep K S H v d → HRep K S' H' v d
  | .non => .non
  | .bl b => .bl b
  | .int i => .int i
  | .str x => .str x
  | .tup h1 h2 => .tup (ht _ _ h1) (HReps.step hl ht h2)
  | .lst h0 h1 h2 => .lst (hl _ _ h0 h1).1 (hl _ _ h0 h1).2 (HReps.step hl ht h2)
  | .lstK h1 h2 => .lstK h1 (HReps.step hl ht h2)
theorem HReps.step (hl : ∀ a xs, S a → Rd H a (.lst xs) → S' a ∧ Rd H' a (.lst xs)) (ht : ∀ a xs, SqT K H a xs → SqT K H' a xs) {vs : List V} {ds : List D} : HReps K S H vs ds → HReps K S' H' vs ds
  | .nil => .nil
  | .cons h1 h2 => .cons (HRep.step hl ht h1) (HReps.step hl ht h2)
end
theorem HRep.mono {v : V} {d : D} (h : HRep K S H v d) (hS : ∀ a, S a → S' a) (e : Same H H') : HRep K S' H' v d := h.step (fun a xs s r => ⟨hS a s, e.rd r⟩) fun a xs s => e.seqT s
theorem HReps.mono {v : List V} {d : List D} (h : HReps K S H v d) (hS : ∀ a, S a → S' a) (e : Same H H') : HReps K S' H' v d := h.step (fun a xs s r => ⟨hS a s, e.rd r⟩) fun a xs s => e.seqT s
theorem HRep.tight {v : V} {d : D} (h : HRep K S H v d) : HRep K (fun a => S a ∧ H a ≠ none) H v d := h.step (fun a xs s r => ⟨⟨s, r.some⟩, r⟩) fun a xs s => s
theorem HReps.tight {v : List V} {d : List D} (h : HReps K S H v d) : HReps K (fun a => S a ∧ H a ≠ none) H v d := h.step (fun a xs s r => ⟨⟨s, r.some⟩, r⟩) fun a xs s => s
mutual
theorem HRep.er {v : V} {d : D} : HRep K S H v d → HRep K S H v (L2.er d)
  | .non => .non
  | .bl b => .bl b
  | .int i => .int i
  | .str x => .str x
  | .tup h1 h2 => .tup h1 (HReps.ers h2)
  | .lst h0 h1 h2 => .lst h0 h1 (HReps.ers h2)
  | .lstK h1 h2 => .lstK h1 (HReps.ers h2)
theorem HReps.ers {vs : List V} {ds : List D} : HReps K S H vs ds → HReps K S H vs (L2.ers ds)
  | .nil => .nil
  | .cons h1 h2 => .cons (HRep.er h1) (HReps.ers h2)
end
mutual
theorem HRep.frozen {v : V} {d : D} : HRep K F H v d → MRep K F H v (L2.er d) []
  | .non => .non
  | .bl b => .bl b
  | .int i => .int i
  | .str x => .str x
  | .tup h1 h2 => .tup h1 (HReps.frozen h2)
  | .lst h0 h1 h2 => .lstS h0 h1 (HReps.frozen h2)
  | .lstK h1 h2 => .lstK h1 (HReps.frozen h2)
theorem HReps.frozen {vs : List V} {ds : List D} : HReps K F H vs ds → MReps K F H vs (L2.ers ds) []
  | .nil => .nil
  | .cons h1 h2 => .cons (f := []) (g := []) (HRep.frozen h1) (HReps.frozen h2)
end
mutual
theorem HRep.free {v : V} {d : D} (n : lfree d = true) : HRep K S H v d → MRep K F H v d []
  | .non => .non
  | .bl b => .bl b
  | .int i => .int i
  | .str x => .str x
  | .tup h1 h2 => .tup h1 (HReps.free n h2)
  | .lst h0 h1 h2 => by cases n
  | .lstK h1 h2 => by cases n
theorem HReps.free {vs : List V} {ds : List D} (n : lfrees ds = true) : HReps K S H vs ds → MReps K F H vs ds []
  | .nil => .nil
  | .cons (d := d) (ds := ds) h1 h2 => by
    have n' : (lfree d && lfrees ds) = true := n
    rw [Bool.and_eq_true] at n'
    exact .cons (f := []) (g := []) (HRep.free n'.1 h1) (HReps.free n'.2 h2)
end
mutual
theorem MRep.read {v : V} {d : D} {f : List Addr} (hF : ∀ a, F a → S a) (hf : ∀ a ∈ f, S a) : MRep K F H v d f → HRep K S H v d
  | .non => .non
  | .bl b => .bl b
  | .int i => .int i
  | .str x => .str x
  | .tup h1 h2 => .tup h1 (MReps.read hF hf h2)
  | .lstS h0 h1 h2 => .lst (hF _ h0) h1 (MReps.read hF (fun _ h => absurd h (by simp)) h2)
  | .lstK h1 h2 => .lstK h1 (MReps.read hF (fun _ h => absurd h (by simp)) h2)
  | .lstO h0 h1 h2 => .lst (hf _ (by simp)) (.inl h1) (MReps.read hF (fun b hb => hf b (List.mem_cons_of_mem _ hb)) h2)
theorem MReps.read {vs : List V} {ds : List D} {f : List Addr} (hF : ∀ a, F a → S a) (hf : ∀ a ∈ f, S a) : MReps K F H vs ds f → HReps K S H vs ds
  | .nil => .nil
  | .cons h1 h2 => .cons (MRep.read hF (fun a ha => hf a (List.mem_append_left _ ha)) h1) (MReps.read hF (fun a ha => hf a (List.mem_append_right _ ha)) h2)
end
mutual
theorem MRep.step (hl : ∀ a xs, F a → Rd H a (.lst xs) → F' a ∧ Rd H' a (.lst xs)) (ht : ∀ a xs, SqT K H a xs → SqT K H' a xs) {v : V} {d : D} {f : List Addr} (k : ∀ a ∈ f, ¬ F a → H a ≠ none → ¬ F' a ∧ H' a = H a) :
    MRep K F H v d f → MRep K F' H' v d f
  | .non => .non
  | .bl b => .bl b
  | .int i => .int i
  | .str x => .str x
  | .tup h1 h2 => .tup (ht _ _ h1) (MReps.step hl ht k h2)
  | .lstS h0 h1 h2 => .lstS (hl _ _ h0 h1).1 (hl _ _ h0 h1).2 (MReps.step hl ht (fun _ h => absurd h (by simp)) h2)
  | .lstK h1 h2 => .lstK h1 (MReps.step hl ht (fun _ h => absurd h (by simp)) h2)
  | .lstO (a := a) h0 h1 h2 => .lstO (k a (by simp) h0 (by rw [h1]; simp)).1 ((k a (by simp) h0 (by rw [h1]; simp)).2.trans h1) (MReps.step hl ht (fun b hb => k b (List.mem_cons_of_mem _ hb)) h2)
theorem MReps.step (hl : ∀ a xs, F a → Rd H a (.lst xs) → F' a ∧ Rd H' a (.lst xs)) (ht : ∀ a xs, SqT K H a xs → SqT K H' a xs) {vs : List V} {ds : List D} {f : List Addr} (k : ∀ a ∈ f, ¬ F a → H a ≠ none → ¬ F' a ∧ H' a = H a) :
    MReps K F H vs ds f → MReps K F' H' vs ds f
  | .nil => .nil
  | .cons h1 h2 => .cons (MRep.step hl ht (fun a ha => k a (List.mem_append_left _ ha)) h1) (MReps.step hl ht (fun a ha => k a (List.mem_append_right _ ha)) h2)
end
mutual
theorem MRep.own {v : V} {d : D} {f : List Addr} : MRep K F H v d f → ∀ a ∈ f, ¬ F a ∧ ∃ xs, H a = some (.lst xs)
  | .non => fun _ h => absurd h (by simp)
  | .bl b => fun _ h => absurd h (by simp)
  | .int i => fun _ h => absurd h (by simp)
  | .str x => fun _ h => absurd h (by simp)
  | .tup h1 h2 => MReps.own h2
  | .lstS h0 h1 h2 => fun _ h => absurd h (by simp)
  | .lstK h1 h2 => fun _ h => absurd h (by simp)
  | .lstO h0 h1 h2 => fun b hb => by
    rcases List.mem_cons.mp hb with rfl | hb
    · exact ⟨h0, _, h1⟩
    · exact MReps.own h2 b hb
theorem MReps.own {vs : List V} {ds : List D} {f : List Addr} : MReps K F H vs ds f → ∀ a ∈ f, ¬ F a ∧ ∃ xs, H a = some (.lst xs)
  | .nil => fun _ h => absurd h (by simp)
  | .cons h1 h2 => fun b hb => by
    rcases List.mem_append.mp hb with hb | hb
    · exact MRep.own h1 b hb
    · exact MReps.own h2 b hb
end
theorem HReps.length {vs : List V} {ds : List D} : HReps K S H vs ds → vs.length = ds.length
  | .nil => rfl
  | .cons _ h => by rw [List.length_cons, List.length_cons, HReps.length h]
theorem HReps.get {i : Nat} : ∀ {vs : List V} {ds : List D} {d : D}, HReps K S H vs ds → ds[i]? = some d → ∃ v, vs[i]? = some v ∧ HRep K S H v d := by
  induction i with
  | zero =>
    intro vs ds d h e
    cases h with
    | nil => simp at e
    | cons h1 h2 =>
      simp at e
      subst e
      exact ⟨_, rfl, h1⟩
  | succ i ih =>
    intro vs ds d h e
    cases h with
    | nil => simp at e
    | cons h1 h2 =>
      obtain ⟨v, e1, h3⟩ := ih h2 (by simpa using e)
      exact ⟨v, by simpa using e1, h3⟩
theorem HReps.getV {i : Nat} : ∀ {vs : List V} {ds : List D} {v : V}, HReps K S H vs ds → vs[i]? = some v → ∃ d, ds[i]? = some d ∧ HRep K S H v d := by
  induction i with
  | zero =>
    intro vs ds d h e
    cases h with
    | nil => simp at e
    | cons h1 h2 =>
      simp at e
      subst e
      exact ⟨_, rfl, h1⟩
  | succ i ih =>
    intro vs ds d h e
    cases h with
    | nil => simp at e
    | cons h1 h2 =>
      obtain ⟨v, e1, h3⟩ := ih h2 (by simpa using e)
      exact ⟨v, by simpa using e1, h3⟩
theorem HReps.append : ∀ {vs ws : List V} {ds es : List D}, HReps K S H vs ds → HReps K S H ws es → HReps K S H (vs ++ ws) (ds ++ es)
  | _, _, _, _, .nil, h => h
  | _, _, _, _, .cons h1 h2, h => .cons h1 (HReps.append h2 h)
theorem HReps.take : ∀ {vs : List V} {ds : List D} (n : Nat), HReps K S H vs ds → HReps K S H (vs.take n) (ds.take n)
  | _, _, 0, _ => .nil
  | _, _, _ + 1, .nil => .nil
  | _, _, n + 1, .cons h1 h2 => .cons h1 (HReps.take n h2)
theorem HReps.drop : ∀ {vs : List V} {ds : List D} (n : Nat), HReps K S H vs ds → HReps K S H (vs.drop n) (ds.drop n)
  | _, _, 0, h => h
  | _, _, _ + 1, .nil => .nil
  | _, _, n + 1, .cons h1 h2 => HReps.drop n h2
theorem MReps.length {vs : List V} {ds : List D} {f : List Addr} : MReps K F H vs ds f → vs.length = ds.length
  | .nil => rfl
  | .cons _ h => by rw [List.length_cons, List.length_cons, MReps.length h]
theorem MReps.append : ∀ {vs ws : List V} {ds es : List D} {f g : List Addr}, MReps K F H vs ds f → MReps K F H ws es g → MReps K F H (vs ++ ws) (ds ++ es) (f ++ g)
  | _, _, _, _, _, _, .nil, h => h
  | _, _, _, _, _, _, .cons h1 h2, h => by
    rw [List.append_assoc]
    exact .cons h1 (MReps.append h2 h)
theorem HRep.lstR {v : V} {o : Bool} {ds : List D} (h : HRep K S H v (.lst o ds)) : ∃ a xs, v = .ref a ∧ SqL K H a xs ∧ HReps K S H xs ds := by
  cases h with
  | lst h0 h1 h2 => exact ⟨_, _, rfl, .inl h1, h2⟩
  | lstK h1 h2 => exact ⟨_, _, rfl, h1.sq, h2⟩
theorem HRep.lstL {v : V} {o : Bool} {ds : List D} (h : HRep K S H v (.lst o ds)) : ∃ a xs, v = .ref a ∧ Ls K H a xs ∧ HReps K S H xs ds := by
  cases h with
  | lst h0 h1 h2 => exact ⟨_, _, rfl, .inl h1, h2⟩
  | lstK h1 h2 => exact ⟨_, _, rfl, .inr h1, h2⟩
theorem HRep.tupR {v : V} {ds : List D} (h : HRep K S H v (.tup ds)) : ∃ a xs, v = .ref a ∧ SqT K H a xs ∧ HReps K S H xs ds := by
  cases h with
  | tup h1 h2 => exact ⟨_, _, rfl, h1, h2⟩
theorem HRep.intR {v : V} {i : Int} (h : HRep K S H v (.int i)) : v = .int i := by cases h; rfl
theorem HRep.blR {v : V} {i : Bool} (h : HRep K S H v (.bl i)) : v = .bl i := by cases h; rfl
theorem HRep.strR {v : V} {i : Str} (h : HRep K S H v (.str i)) : v = .str i := by cases h; rfl
theorem HRep.nonR {v : V} (h : HRep K S H v .non) : v = .non := by cases h; rfl
theorem HReps.strs : ∀ {vs : List V} {ns : List Str}, HReps K S H vs (ns.map .str) → vs = ns.map .str
  | _, [], .nil => rfl
  | _, n :: ns, .cons h1 h2 => by rw [h1.strR, HReps.strs h2]; rfl
theorem HReps.bls : ∀ {vs : List V} {ns : List Bool}, HReps K S H vs (ns.map .bl) → vs = ns.map .bl
  | _, [], .nil => rfl
  | _, n :: ns, .cons h1 h2 => by rw [h1.blR, HReps.bls h2]; rfl
theorem HReps.ofInts : ∀ (ns : List Int), HReps K S H (ns.map .int) (ns.map .int)
  | [] => .nil
  | n :: ns => .cons (.int n) (HReps.ofInts ns)
end
theorem Same.upd {H : Hp} {a : Addr} {o : HO} (h : H a = none) : Same H (upd H a o) := fun b u e => by
  rw [upd_ne (ne_of_none e h)]
  exact e
end L2
namespace L2
open PySem PySem.Spec PyProof.Rows
inductive BOp where
  | add | sub | mul | fdiv | mod | pow
  deriving DecidableEq
inductive COp where
  | eq | ne | lt | le | gt | ge | in_ | nin | is_ | isn
  deriving DecidableEq
inductive Kd where
  | str | int | bool | list | tuple
  deriving DecidableEq
inductive Bi where
  | len | sum | min2 | max2 | sorted | list | tuple | ord | int | all | any | str | set | abs
  deriving DecidableEq
inductive Mt where
  | join | split | starts
  deriving DecidableEq
inductive Tg where
  | nm (i : Nat) | tp (ts : List Tg)
structure Gm where
  N : List Str
  kd : List NameKind
  gl : List Nat
  df : Bool
mutual
inductive IR where
  | c (d : D)
  | g (n : Nat) (d : D)
  | v (i : Nat)
  | bin (op : BOp) (a b : IR)
  | neg (a : IR)
  | cmp (op : COp) (a b : IR)
  | chain (op op' : COp) (a b c : IR)
  | and_ (a b : IR)
  | or_ (a b : IR)
  | not_ (a : IR)
  | ite (t a b : IR)
  | tup (es : List IR)
  | lst (es : List IR)
  | idx (a i : IR)
  | sl (a : IR) (lo hi : Option IR)
  | call (f : Nat) (es : List IR)
  | bi (f : Bi) (es : List IR)
  | isi (a : IR) (k : Kd)
  | ftx (x : Str) (a : IR)
  | mth (m : Mt) (o : IR) (es : List IR)
  | comp (G : Gm) (fr : List Nat) (tg : Tg) (src : Sr) (ifs : List IR) (elt : IR)
inductive Sr where
  | rng1 (n : IR) | rng2 (a b : IR) | val (e : IR) | rev (e : IR)
end
inductive IS where
  | asg (tg : Tg) (e : IR)
  | app (i : Nat) (e : IR)
  | exp (e : IR)
  | ret (e : IR)
  | retN
  | if_ (t : IR) (a b : List IS)
  | for_ (tg : Tg) (src : Sr) (body : List IS)
  | tryn (body : List IS)
  | brk | cnt | pass
  | never
noncomputable abbrev Ev := List (Option D)
inductive Fl where
  | nx (τ : Ev) | rt (d : D) | bk (τ : Ev) | ct (τ : Ev)
noncomputable def cutG {α : Type} (xs : List α) (lo hi : Option Int) : List α := (xs.drop (HT.sIx xs.length 0 lo)).take (HT.sIx xs.length xs.length hi - HT.sIx xs.length 0 lo)
noncomputable def szOk (n : Nat) : Bool := decide (n ≤ sizeLine)
noncomputable def szLt (n : Nat) : Bool := decide (n < sizeLine)
noncomputable def opB : BOp → D → D → Res D
  | .add, .int a, .int b => .ok (.int (a + b))
  | .add, .str a, .str b => grd (szOk (a.length + b.length)) (.ok (.str (a ++ b)))
  | .add, .lst _ a, .lst _ b => grd (szOk (a.length + b.length)) (.ok (.lst true (a ++ b)))
  | .sub, .int a, .int b => .ok (.int (a - b))
  | .mul, .int a, .int b => grd (decide (-(2 ^ 64) < a ∧ a < 2 ^ 64) || decide (-(2 ^ 64) < b ∧ b < 2 ^ 64)) (.ok (.int (a * b)))
  | .fdiv, .int a, .int b => grd (decide (0 < b ∧ b < 1073741824)) (.ok (.int (a / b)))
  | .mod, .int a, .int b => grd (decide (0 < b)) (.ok (.int (a % b)))
  | _, _, _ => stk
noncomputable def opIx : D → D → Res D
  | .lst _ ds, .int i => match atI ds i with
    | some d => .ok d
    | none => stk
  | .tup ds, .int i => match atI ds i with
    | some d => .ok d
    | none => stk
  | .str z, .int i => grd (szOk z.length) (match atI z.cps.toList i with
    | some c => .ok (.str ⟨#[c]⟩)
    | none => stk)
  | _, _ => stk
noncomputable def prop (i j n : Nat) : Bool := !(i == 0 && j == n)
noncomputable def opSl : D → Option Int → Option Int → Res D
  | .lst _ ds, lo, hi => .ok (.lst true (cutG ds lo hi))
  | .tup ds, lo, hi => grd (prop (HT.sIx ds.length 0 lo) (HT.sIx ds.length ds.length hi) ds.length) (.ok (.tup (cutG ds lo hi)))
  | .str z, lo, hi => grd (szOk z.length) (.ok (.str (Txt.slice z lo hi)))
  | _, _, _ => stk
noncomputable def truD : D → Res Bool
  | .non => .ok false
  | .bl b => .ok b
  | .int i => .ok (i != 0)
  | .str x => grd (szOk x.length) (.ok ((x.length : Int) != 0))
  | .tup ds => .ok (!ds.isEmpty)
  | .lst _ ds => .ok (!ds.isEmpty)
noncomputable def eqsG (f : D → D → Res Bool) : List D → List D → Res Bool
  | [], [] => .ok true
  | a :: r, b :: t => bnd (f a b) fun x => bnd (eqsG f r t) fun y => .ok (x && y)
  | _, _ => .ok false
noncomputable def eqN : Nat → D → D → Res Bool
  | 0, _, _ => stk
  | _ + 1, .non, .non => .ok true
  | _ + 1, .non, _ => .ok false
  | _ + 1, .bl a, .bl b => .ok (a == b)
  | _ + 1, .bl a, .int b => .ok ((if a then 1 else 0) == b)
  | _ + 1, .bl _, _ => .ok false
  | _ + 1, .int a, .bl b => .ok (a == (if b then 1 else 0))
  | _ + 1, .int a, .int b => .ok (a == b)
  | _ + 1, .int _, _ => .ok false
  | _ + 1, .str a, .str b => .ok (a == b)
  | _ + 1, .str _, _ => .ok false
  | n + 1, .tup a, .tup b => eqsG (eqN n) a b
  | _ + 1, .tup _, _ => .ok false
  | n + 1, .lst _ a, .lst _ b => eqsG (eqN n) a b
  | _ + 1, .lst _ _, _ => .ok false
noncomputable def anyN (d : D) : List D → Res Bool
  | [] => .ok false
  | e :: r => bnd (eqN 40 e d) fun x => bnd (anyN d r) fun y => .ok (x || y)
noncomputable def inStr (x y : Str) : Bool := !(Builtin.Str.occurrences x y 0 x.length 1).isEmpty
noncomputable def isNon : D → Bool
  | .non => true
  | _ => false
noncomputable def opC : COp → D → D → Res Bool
  | .eq, a, b => eqN 40 a b
  | .ne, a, b => bnd (eqN 40 a b) fun r => .ok !r
  | .lt, .int a, .int b => .ok (decide (a < b))
  | .le, .int a, .int b => .ok (decide (a ≤ b))
  | .gt, .int a, .int b => .ok (decide (b < a))
  | .ge, .int a, .int b => .ok (decide (b ≤ a))
  | .in_, .str y, .str x => .ok (inStr x y)
  | .nin, .str y, .str x => .ok (!inStr x y)
  | .in_, a, .lst _ ds => anyN a ds
  | .nin, a, .lst _ ds => bnd (anyN a ds) fun r => .ok !r
  | .in_, a, .tup ds => anyN a ds
  | .nin, a, .tup ds => bnd (anyN a ds) fun r => .ok !r
  | .is_, a, .non => .ok (isNon a)
  | .isn, a, .non => .ok (!isNon a)
  | _, _, _ => stk
noncomputable def asStrs : List D → Option (List Str)
  | [] => some []
  | .str i :: r => (asStrs r).map (i :: ·)
  | _ :: _ => none
noncomputable def asBls : List D → Option (List Bool)
  | [] => some []
  | .bl i :: r => (asBls r).map (i :: ·)
  | _ :: _ => none
noncomputable def isiD : Kd → D → Bool
  | .str, .str _ => true
  | .int, .int _ => true
  | .int, .bl _ => true
  | .bool, .bl _ => true
  | .list, .lst _ _ => true
  | .tuple, .tup _ => true
  | _, _ => false
noncomputable def charsD (x : Str) : List D := x.cps.toList.map fun c => .str ⟨#[c]⟩
noncomputable def opBi : Bi → List D → Res D
  | .len, [.str x] => grd (szOk x.length) (.ok (.int x.length))
  | .len, [.tup ds] => .ok (.int ds.length)
  | .len, [.lst _ ds] => .ok (.int ds.length)
  | .min2, [.int a, .int b] => .ok (.int (if b < a then b else a))
  | .max2, [.int a, .int b] => .ok (.int (if b > a then b else a))
  | .int, [.int i] => .ok (.int i)
  | .int, [.bl b] => .ok (.int (if b then 1 else 0))
  | .int, [.str x] => match intText? x with
    | some n => grd (decide (x.length ≤ 640)) (.ok (.int n))
    | none => stk
  | .str, [.int i] => grd (decide (i.natAbs.log2 < 1920)) (.ok (.str (toString i)))
  | .list, [.lst _ ds] => .ok (.lst true ds)
  | .list, [.tup ds] => .ok (.lst true ds)
  | .list, [.str x] => grd (szOk x.length) (.ok (.lst true (charsD x)))
  | .all, [.lst _ ds] => match asBls ds with
    | some bs => .ok (.bl (bs.all id))
    | none => stk
  | .any, [.lst _ ds] => match asBls ds with
    | some bs => .ok (.bl (bs.any id))
    | none => stk
  | .abs, [.int i] => .ok (.int (if i < 0 then -i else i))
  | _, _ => stk
noncomputable def isStrD : D → Bool
  | .str _ => true
  | _ => false
noncomputable def opMt : Mt → D → List D → Res D
  | .join, .str x, [.lst _ ds] => match asStrs ds with
    | some ys => grd (decide ((ys.map (·.length)).sum + ys.length * x.length ≤ 16777216)) (.ok (.str (Txt.join x ys)))
    | none => stk
  | .split, .str x, [.str y] => grd (decide (y.length ≠ 0 ∧ x.length + 2 ≤ sizeLine)) (.ok (.lst true ((Txt.split x y).map .str)))
  | .starts, .str x, [.str y] => .ok (.bl (Txt.startswith x y))
  | _, _, _ => stk
noncomputable def itemsD : D → Res (List D)
  | .lst _ ds => .ok ds
  | .tup ds => .ok ds
  | .str x => grd (szOk x.length) (.ok (charsD x))
  | _ => stk
noncomputable def rngD (a b : Int) : List D := (List.range (b - a).toNat).map fun k => .int (a + (k : Nat))
noncomputable def ftxD (x : Str) : D → Res D
  | .str y => grd (szOk (x.length + y.length)) (.ok (.str (x ++ y)))
  | _ => stk
noncomputable def rngOk (i : Int) : Bool := decide (-(2 ^ 62) ≤ i ∧ i < 2 ^ 62)
noncomputable def fmapM {α β : Type} (f : α → Res (Option β)) : List α → Res (List β)
  | [] => .ok []
  | x :: xs => bnd (f x) fun
    | some d => bnd (fmapM f xs) fun r => .ok (d :: r)
    | none => fmapM f xs
noncomputable def noX {α : Type} : Res α → Res α
  | .error _ => stk
  | .ok a => .ok a
mutual
noncomputable def setT : Tg → D → Ev → Res Ev
  | .nm i, d, τ => .ok (τ.set i (some d))
  | .tp ts, .tup ds, τ => grd (decide (ds.length = ts.length)) (setTs ts ds τ)
  | .tp ts, .lst _ ds, τ => grd (decide (ds.length = ts.length)) (setTs ts ds τ)
  | .tp _, _, _ => stk
noncomputable def setTs : List Tg → List D → Ev → Res Ev
  | t :: ts, d :: ds, τ => bnd (setT t d τ) fun τ' => setTs ts ds τ'
  | [], [], τ => .ok τ
  | _, _, _ => stk
end
noncomputable def slotD (τ : Ev) (i : Nat) : Option D := (τ[i]?).join
mutual
noncomputable def vars : IR → List Nat
  | .c _ => []
  | .g _ _ => []
  | .v i => [i]
  | .bin _ a b => vars a ++ vars b
  | .neg a => vars a
  | .cmp _ a b => vars a ++ vars b
  | .chain _ _ a b c => vars a ++ vars b ++ vars c
  | .and_ a b => vars a ++ vars b
  | .or_ a b => vars a ++ vars b
  | .not_ a => vars a
  | .ite t a b => vars t ++ vars a ++ vars b
  | .tup es => varss es
  | .lst es => varss es
  | .idx a i => vars a ++ vars i
  | .sl a lo hi => vars a ++ varsO lo ++ varsO hi
  | .call _ es => varss es
  | .bi _ es => varss es
  | .isi a _ => vars a
  | .ftx _ a => vars a
  | .mth _ o es => vars o ++ varss es
  | .comp _ fr _ src _ _ => fr ++ varsS src
noncomputable def varss : List IR → List Nat
  | [] => []
  | e :: es => vars e ++ varss es
noncomputable def varsO : Option IR → List Nat
  | none => []
  | some e => vars e
noncomputable def varsS : Sr → List Nat
  | .rng1 n => vars n
  | .rng2 a b => vars a ++ vars b
  | .val e => vars e
  | .rev e => vars e
end
mutual
noncomputable def evR (cl : Nat → List D → Res D) : IR → Ev → Res D
  | .c d, _ => .ok d
  | .g _ d, _ => .ok d
  | .v i, τ => match slotD τ i with
    | some d => .ok d
    | none => stk
  | .bin op a b, τ => bnd (evR cl a τ) fun x => bnd (evR cl b τ) fun y => opB op x y
  | .neg a, τ => bnd (evR cl a τ) fun
    | .int i => .ok (.int (-i))
    | _ => stk
  | .cmp op a b, τ => bnd (evR cl a τ) fun x => bnd (evR cl b τ) fun y => bnd (opC op x y) fun r => .ok (.bl r)
  | .chain op op' a b c, τ => bnd (evR cl a τ) fun x => bnd (evR cl b τ) fun y => bnd (opC op x y) fun r =>
    if r = true then bnd (evR cl c τ) fun z => bnd (opC op' y z) fun r' => .ok (.bl r') else .ok (.bl false)
  | .and_ a b, τ => bnd (evR cl a τ) fun x => bnd (truD x) fun r => if r = true then evR cl b τ else .ok x
  | .or_ a b, τ => bnd (evR cl a τ) fun x => bnd (truD x) fun r => if r = true then .ok x else evR cl b τ
  | .not_ a, τ => bnd (evR cl a τ) fun x => bnd (truD x) fun r => .ok (.bl !r)
  | .ite t a b, τ => bnd (evR cl t τ) fun x => bnd (truD x) fun r => if r = true then evR cl a τ else evR cl b τ
  | .tup es, τ => bnd (evRs cl es τ) fun ds => grd (szOk ds.length) (.ok (.tup ds))
  | .lst es, τ => bnd (evRs cl es τ) fun ds => grd (szOk ds.length) (.ok (.lst true ds))
  | .idx a i, τ => bnd (evR cl a τ) fun x => bnd (evR cl i τ) fun y => opIx x y
  | .sl a lo hi, τ => bnd (evR cl a τ) fun x => bnd (evRO cl lo τ) fun l => bnd (evRO cl hi τ) fun h => opSl x l h
  | .call f es, τ => bnd (evRs cl es τ) fun ds => cl f (ers ds)
  | .bi f es, τ => bnd (evRs cl es τ) fun ds => opBi f ds
  | .isi a k, τ => bnd (evR cl a τ) fun x => .ok (.bl (isiD k x))
  | .ftx x a, τ => bnd (evR cl a τ) (ftxD x)
  | .mth m o es, τ => bnd (evR cl o τ) fun x => grd (isStrD x) (bnd (evRs cl es τ) fun ds => opMt m x ds)
  | .comp G fr tg src ifs elt, τ => bnd (evSr cl src τ) fun its => grd (szLt its.length) (bnd (noX (fmapM (fun x => bnd (setT tg x (fr.map (slotD τ) ++ List.replicate (G.N.length - fr.length) none)) fun τ1 =>
      bnd (evTs cl ifs τ1) fun r => if r = true then bnd (evR cl elt τ1) fun d => .ok (some d) else .ok none) its)) fun ds => .ok (.lst true ds))
noncomputable def evRs (cl : Nat → List D → Res D) : List IR → Ev → Res (List D)
  | [], _ => .ok []
  | e :: es, τ => bnd (evR cl e τ) fun d => bnd (evRs cl es τ) fun ds => .ok (d :: ds)
noncomputable def evRO (cl : Nat → List D → Res D) : Option IR → Ev → Res (Option Int)
  | none, _ => .ok none
  | some e, τ => bnd (evR cl e τ) fun
    | .int i => .ok (some i)
    | _ => stk
noncomputable def evTs (cl : Nat → List D → Res D) : List IR → Ev → Res Bool
  | [], _ => .ok true
  | e :: es, τ => bnd (bnd (evR cl e τ) truD) fun r => if r = true then evTs cl es τ else .ok false
noncomputable def evSr (cl : Nat → List D → Res D) : Sr → Ev → Res (List D)
  | .rng1 n, τ => bnd (evR cl n τ) fun
    | .int i => grd (rngOk i) (.ok (rngD 0 i))
    | _ => stk
  | .rng2 a b, τ => bnd (evR cl a τ) fun x => bnd (evR cl b τ) fun y => match x, y with
    | .int i, .int j => grd (rngOk i && rngOk j) (.ok (rngD i j))
    | _, _ => stk
  | .val e, τ => bnd (evR cl e τ) itemsD
  | .rev e, τ => bnd (evR cl e τ) fun
    | .lst _ ds => .ok ds.reverse
    | _ => stk
end
noncomputable def evT (cl : Nat → List D → Res D) (t : IR) (τ : Ev) : Res Bool := bnd (evR cl t τ) truD
noncomputable def frzA (is : List Nat) : Nat → Ev → Ev
  | _, [] => []
  | k, o :: τ => (if is.contains k then o.map er else o) :: frzA is (k + 1) τ
noncomputable abbrev frz (is : List Nat) (τ : Ev) : Ev := frzA is 0 τ
noncomputable def newList? : IR → Bool
  | .bin .add _ _ => true
  | .sl _ _ _ => true
  | .bi .list _ => true
  | .comp _ _ _ _ _ _ => true
  | _ => false
noncomputable def keepD (e : IR) (d : D) (τ : Ev) : D × Ev :=
  if lfree d = true then (d, τ)
  else match newList? e, d with
    | true, .lst _ ds => if lfrees ds = true then (.lst true ds, τ) else (.lst true (ers ds), frz (vars e) τ)
    | _, _ => (er d, frz (vars e) τ)
mutual
noncomputable def evO (cl : Nat → List D → Res D) (mv : Bool) : IR → Ev → Res (D × Ev)
  | .v i, τ => match slotD τ i with
    | some d => if mv = true then .ok (d, τ.set i none) else .ok (er d, τ.set i (some (er d)))
    | none => stk
  | .tup es, τ => bnd (evOs cl mv es τ) fun p => grd (szOk p.1.length) (.ok (.tup p.1, p.2))
  | .lst es, τ => bnd (evOs cl mv es τ) fun p => grd (szOk p.1.length) (.ok (.lst true p.1, p.2))
  | .ite t a b, τ => bnd (evT cl t τ) fun r => if r = true then evO cl mv a τ else evO cl mv b τ
  | .call f es, τ => bnd (evRs cl es τ) fun ds => bnd (cl f (ers ds)) fun d => if lfree d = true then .ok (d, τ) else .ok (d, frz (varss es) τ)
  | e, τ => bnd (evR cl e τ) fun d => .ok (keepD e d τ)
noncomputable def evOs (cl : Nat → List D → Res D) (mv : Bool) : List IR → Ev → Res (List D × Ev)
  | [], τ => .ok ([], τ)
  | e :: es, τ => bnd (evO cl mv e τ) fun p => bnd (evOs cl mv es p.2) fun q => .ok (p.1 :: q.1, q.2)
end
noncomputable def forM (body : D → Ev → Res Fl) : List D → Ev → Res Fl
  | [], τ => .ok (.nx τ)
  | x :: xs, τ => bnd (body x τ) fun
    | .nx τ' => forM body xs τ'
    | .ct τ' => forM body xs τ'
    | .bk τ' => .ok (.nx τ')
    | .rt d => .ok (.rt d)
noncomputable def srcO (cl : Nat → List D → Res D) (s : Sr) (τ : Ev) : Res (List D × Ev) := bnd (evSr cl s τ) fun its => match s with
  | .rng1 _ => .ok (its, τ)
  | .rng2 _ _ => .ok (its, τ)
  | s => .ok (ers its, frz (varsS s) τ)
mutual
noncomputable def evS (cl : Nat → List D → Res D) : IS → Ev → Res Fl
  | .asg tg e, τ => bnd (evO cl false e τ) fun p => bnd (setT tg p.1 p.2) fun τ' => .ok (.nx τ')
  | .app i e, τ => match slotD τ i with
    | some (.lst _ _) => bnd (evO cl false e τ) fun p => (match slotD p.2 i with
      | some (.lst true ds) => grd (szLt ds.length) (.ok (.nx (p.2.set i (some (.lst true (ds ++ [p.1]))))))
      | _ => stk)
    | _ => stk
  | .exp e, τ => bnd (evR cl e τ) fun _ => .ok (.nx τ)
  | .ret e, τ => bnd (evO cl true e τ) fun p => .ok (.rt p.1)
  | .retN, _ => .ok (.rt .non)
  | .if_ t a b, τ => bnd (evT cl t τ) fun r => if r = true then evSs cl a τ else evSs cl b τ
  | .for_ tg s body, τ => bnd (srcO cl s τ) fun p => forM (fun x τ => bnd (setT tg x τ) fun τ' => evSs cl body τ') p.1 p.2
  | .tryn body, τ => bnd (noX (evSs cl body τ)) fun
    | .nx τ' => .ok (.nx τ')
    | _ => stk
  | .brk, τ => .ok (.bk τ)
  | .cnt, τ => .ok (.ct τ)
  | .pass, τ => .ok (.nx τ)
  | .never, _ => stk
noncomputable def evSs (cl : Nat → List D → Res D) : List IS → Ev → Res Fl
  | [], τ => .ok (.nx τ)
  | s :: r, τ => bnd (evS cl s τ) fun
    | .nx τ' => evSs cl r τ'
    | .ct τ' => .ok (.ct τ')
    | .bk τ' => .ok (.bk τ')
    | .rt d => .ok (.rt d)
end
structure Fn where
  np : Nat
  G : Gm
  body : List IS
noncomputable def runF (cl : Nat → List D → Res D) (fn : Fn) (ds : List D) : Res D :=
  grd (decide (ds.length = fn.np)) (bnd (evSs cl fn.body (ds.map some ++ List.replicate (fn.G.N.length - fn.np) none)) fun
    | .nx _ => .ok .non
    | .rt d => .ok d
    | _ => stk)
noncomputable abbrev Tb := Nat → Option Fn
noncomputable def callF (T : Tb) : Nat → Nat → List D → Res D
  | 0, _, _ => stk
  | n + 1, f, ds => match T f with
    | some fn => runF (callF T n) fn ds
    | none => stk
theorem evR_v {cl : Nat → List D → Res D} {i : Nat} {τ : Ev} : evR cl (.v i) τ = (match slotD τ i with | some d => .ok d | none => stk) := rfl
theorem evO_v {cl : Nat → List D → Res D} {i : Nat} {τ : Ev} {mv : Bool} : evO cl mv (.v i) τ = (match slotD τ i with | some d => if mv = true then .ok (d, τ.set i none) else .ok (er d, τ.set i (some (er d))) | none => stk) := rfl
end L2
namespace L2
open PySem PySem.Spec PyProof.Rows PySem.SeqAt
section
variable {X : Cx} {pins : List (Addr × Obj)} {σ : St} {H : Hp} {S : Addr → Prop} {s : Shared}
theorem Inv.not_both (I : Inv X pins σ H s) {a : Addr} {xs ys : List V} (h1 : SqL X.K H a xs) (h2 : SqT X.K H a ys) : False := by
  obtain ⟨its, _, ⟨o, n, e, c, _⟩, _⟩ := I.list h1
  obtain ⟨its', _, ⟨o', e', c', _⟩, _⟩ := I.tuple h2
  rw [e] at e'; cases e'
  rw [c] at c'
  injection c' with c'
  exact absurd c' (by decide)
mutual
theorem HRep.one (I : Inv X pins σ H s) : ∀ {v : V} {d e : D}, HRep X.K S H v d → HRep X.K S H v e → er d = er e
  | _, _, _, .non, h => by cases h; rfl
  | _, _, _, .bl b, h => by cases h; rfl
  | _, _, _, .int i, h => by cases h; rfl
  | _, _, _, .str x, h => by cases h; rfl
  | _, _, _, .tup h1 h2, h => by
    cases h with
    | tup k1 k2 =>
      have e := I.tuple_inj h1 k1
      subst e
      rw [er, er, HReps.one I h2 k2]
    | lst k0 k1 k2 => exact (I.not_both (.inl k1) h1).elim
    | lstK k1 k2 => exact (I.not_both k1.sq h1).elim
  | _, _, _, .lst h0 h1 h2, h => by
    cases h with
    | tup k1 k2 => exact (I.not_both (.inl h1) k1).elim
    | lst k0 k1 k2 =>
      have e := I.list_inj (.inl h1) (.inl k1)
      subst e
      rw [er, er, HReps.one I h2 k2]
    | lstK k1 k2 =>
      have e := I.list_inj (.inl h1) k1.sq
      subst e
      rw [er, er, HReps.one I h2 k2]
  | _, _, _, .lstK h1 h2, h => by
    cases h with
    | tup k1 k2 => exact (I.not_both h1.sq k1).elim
    | lst k0 k1 k2 =>
      have e := I.list_inj h1.sq (.inl k1)
      subst e
      rw [er, er, HReps.one I h2 k2]
    | lstK k1 k2 =>
      have e := I.list_inj h1.sq k1.sq
      subst e
      rw [er, er, HReps.one I h2 k2]
theorem HReps.one (I : Inv X pins σ H s) : ∀ {vs : List V} {ds es : List D}, HReps X.K S H vs ds → HReps X.K S H vs es → ers ds = ers es
  | _, _, _, .nil, h => by cases h; rfl
  | _, _, _, .cons h1 h2, h => by
    cases h with
    | cons k1 k2 => rw [ers, ers, HRep.one I h1 k1, HReps.one I h2 k2]
end
end
theorem bnd_ok {α β : Type} {x : Res α} {f : α → Res β} {b : β} (h : bnd x f = .ok b) : ∃ a, x = .ok a ∧ f a = .ok b := by
  cases x with
  | error e => cases h
  | ok a => exact ⟨a, rfl, h⟩
theorem grd_ok {α : Type} {c : Bool} {x : Res α} {b : α} (h : grd c x = .ok b) : c = true ∧ x = .ok b := by
  unfold grd at h
  cases c with
  | true => exact ⟨rfl, h⟩
  | false => cases h
theorem eqsG_refl {f : D → D → Res Bool} (hf : ∀ d e r, f d e = .ok r → er d = er e → r = true) : ∀ {ds es : List D} {r : Bool}, eqsG f ds es = .ok r → ers ds = ers es → r = true
  | [], [], r, h, _ => by cases h; rfl
  | [], _ :: _, _, _, h => by rw [ers, ers] at h; cases h
  | _ :: _, [], _, _, h => by rw [ers, ers] at h; cases h
  | a :: ds, b :: es, r, h, h' => by
    rw [ers, ers] at h'
    injection h' with e1 e2
    obtain ⟨x, hx, h⟩ := bnd_ok (show bnd (f a b) (fun x => bnd (eqsG f ds es) fun y => .ok (x && y)) = .ok r from h)
    obtain ⟨y, hy, h⟩ := bnd_ok h
    cases h
    rw [hf a b x hx e1, eqsG_refl hf hy e2]
    rfl
theorem eqN_refl : ∀ (n : Nat) (d e : D) (r : Bool), eqN n d e = .ok r → er d = er e → r = true
  | 0, _, _, _, h, _ => by cases h
  | n + 1, d, e, r, h, h' => by
    cases d with
    | tup ds =>
      cases e with
      | tup es =>
        rw [er, er] at h'
        injection h' with e1
        exact eqsG_refl (eqN_refl n) h e1
      | non => rw [er, er] at h'; cases h'
      | bl _ => rw [er, er] at h'; cases h'
      | int _ => rw [er, er] at h'; cases h'
      | str _ => rw [er, er] at h'; cases h'
      | lst _ _ => rw [er, er] at h'; cases h'
    | lst o ds =>
      cases e with
      | lst o' es =>
        rw [er, er] at h'
        injection h' with _ e1
        exact eqsG_refl (eqN_refl n) h e1
      | non => rw [er, er] at h'; cases h'
      | bl _ => rw [er, er] at h'; cases h'
      | int _ => rw [er, er] at h'; cases h'
      | str _ => rw [er, er] at h'; cases h'
      | tup _ => rw [er, er] at h'; cases h'
    | non => cases e <;> first | (cases h; rfl) | (exfalso; simp [er] at h')
    | bl b => cases e <;> first | (simp only [er, D.bl.injEq] at h'; subst h'; cases h; simp) | (exfalso; simp [er] at h')
    | int b => cases e <;> first | (simp only [er, D.int.injEq] at h'; subst h'; cases h; simp) | (exfalso; simp [er] at h')
    | str b => cases e <;> first | (simp only [er, D.str.injEq] at h'; subst h'; cases h; simp) | (exfalso; simp [er] at h')
theorem eqsG_len {f : D → D → Res Bool} : ∀ {ds es : List D} {r : Bool}, eqsG f ds es = .ok r → ds.length ≠ es.length → r = false
  | [], [], _, _, h => absurd rfl h
  | [], _ :: _, _, h, _ => by cases h; rfl
  | _ :: _, [], _, h, _ => by cases h; rfl
  | a :: ds, b :: es, r, h, n => by
    obtain ⟨x, hx, h⟩ := bnd_ok (show bnd (f a b) (fun x => bnd (eqsG f ds es) fun y => .ok (x && y)) = .ok r from h)
    obtain ⟨y, hy, h⟩ := bnd_ok h
    cases h
    rw [eqsG_len hy (fun z => n (by rw [List.length_cons, List.length_cons, z]))]
    simp
theorem eqsG_at {f : D → D → Res Bool} : ∀ {ds es : List D} {r : Bool}, eqsG f ds es = .ok r → ds.length = es.length →
    ∃ e : Nat → Bool, (∀ j a b, ds[j]? = some a → es[j]? = some b → f a b = .ok (e j)) ∧ r = (List.range ds.length).all e
  | [], [], r, h, _ => by cases h; exact ⟨fun _ => true, fun j a b h => by simp at h, rfl⟩
  | [], _ :: _, _, _, h => by cases h
  | _ :: _, [], _, _, h => by cases h
  | a :: ds, b :: es, r, h, n => by
    obtain ⟨x, hx, h⟩ := bnd_ok (show bnd (f a b) (fun x => bnd (eqsG f ds es) fun y => .ok (x && y)) = .ok r from h)
    obtain ⟨y, hy, h⟩ := bnd_ok h
    cases h
    obtain ⟨e, h1, h2⟩ := eqsG_at hy (by simpa using n)
    refine ⟨fun j => match j with | 0 => x | k + 1 => e k, fun j a' b' e1 e2 => ?_, ?_⟩
    · cases j with
      | zero => simp at e1 e2; subst e1 e2; exact hx
      | succ k => exact h1 k a' b' (by simpa using e1) (by simpa using e2)
    · rw [h2, List.length_cons, List.range_succ_eq_map, List.all_cons, List.all_map]
      rfl
section
variable {X : Cx} {pins : List (Addr × Obj)} {σ : St} {H : Hp} {S : Addr → Prop} {s : Shared}
structure EqAll (A : Around) (s : Shared) (v u : Value) (r : Bool) : Prop where
  eq : EqAt A s v u r
  rc : RcAt A s v u r
  ne : RcNeAt A s v u (!r)
theorem items_eq (n : Nat) (A : Around) (ih : ∀ (x y : V) (v u : Value) (d e : D) (r : Bool), HRep X.K S H x d → HRep X.K S H y e → RelV x v → RelV y u → eqN n d e = .ok r → EqAt A.in1 s v u r)
    {xs ys : List V} {ds es : List D} {its its' : List Value} {r : Bool} (rv : Vals xs its) (rv' : Vals ys its') (h2 : HReps X.K S H xs ds) (k2 : HReps X.K S H ys es) (hr : eqsG (eqN n) ds es = .ok r) :
    ∃ e : Nat → Bool, (∀ j (q1 : j < its.toArray.size) (q2 : j < its'.toArray.size), EqAt A.in1 s its.toArray[j] its'.toArray[j] (e j)) ∧ r = ((List.range (min its.toArray.size its'.toArray.size)).all e && its.toArray.size == its'.toArray.size) := by
  have l1 := h2.length
  have l2 := k2.length
  have l3 := rv.length
  have l4 := rv'.length
  have pair : ∀ j (j1 : j < its.toArray.size) (j2 : j < its'.toArray.size) (b : Bool) (d1 : j < ds.length) (d2 : j < es.length), eqN n ds[j] es[j] = .ok b → EqAt A.in1 s its.toArray[j] its'.toArray[j] b := by
    intro j j1 j2 b d1 d2 hb
    obtain ⟨x', e1, m1⟩ := h2.get (i := j) (d := ds[j]) (by simp)
    obtain ⟨y', e2, m2⟩ := k2.get (i := j) (d := es[j]) (by simp)
    obtain ⟨v', ev, rv1⟩ := rv.get e1
    obtain ⟨u', eu, ru1⟩ := rv'.get e2
    have hv : its.toArray[j] = v' := by
      have := (List.getElem?_eq_some_iff.mp ev).2
      simpa using this
    have hu' : its'.toArray[j] = u' := by
      have := (List.getElem?_eq_some_iff.mp eu).2
      simpa using this
    rw [hv, hu']
    exact ih x' y' v' u' _ _ _ m1 m2 rv1 ru1 hb
  have z1 : its.toArray.size = ds.length := by simp; omega
  have z2 : its'.toArray.size = es.length := by simp; omega
  by_cases hl : ds.length = es.length
  · obtain ⟨e, q1, q2⟩ := eqsG_at hr hl
    refine ⟨e, fun j j1 j2 => pair j j1 j2 _ (by omega) (by omega) (q1 j _ _ (by simp) (by simp)), ?_⟩
    rw [q2, z1, z2, hl]
    simp
  · have hr' := eqsG_len hr hl
    have each : ∀ (ds es : List D) (r : Bool), eqsG (eqN n) ds es = .ok r → ∀ j (q1 : j < ds.length) (q2 : j < es.length), ∃ b, eqN n ds[j] es[j] = .ok b := by
      intro ds
      induction ds with
      | nil => intro es r _ j q1; simp at q1
      | cons a ds ih =>
        intro es r h j q1 q2
        cases es with
        | nil => simp at q2
        | cons b es =>
          obtain ⟨x, hx, h⟩ := bnd_ok (show bnd (eqN n a b) (fun x => bnd (eqsG (eqN n) ds es) fun y => .ok (x && y)) = .ok r from h)
          obtain ⟨y, hy, h⟩ := bnd_ok h
          cases j with
          | zero => exact ⟨x, hx⟩
          | succ k => exact ih es y hy k (by simpa using q1) (by simpa using q2)
    refine ⟨fun j => if q : j < ds.length ∧ j < es.length then ((match eqN n (ds[j]'q.1) (es[j]'q.2) with | .ok b => b | .error _ => false)) else false, fun j j1 j2 => ?_, ?_⟩
    · have d1 : j < ds.length := by omega
      have d2 : j < es.length := by omega
      obtain ⟨b, hb⟩ := each ds es r hr j d1 d2
      have q := pair j j1 j2 b d1 d2 hb
      show EqAt A.in1 s its.toArray[j] its'.toArray[j] (dite _ _ _)
      rw [dif_pos (show j < ds.length ∧ j < es.length from ⟨d1, d2⟩), hb]
      exact q
    · rw [hr']
      have : (its.toArray.size == its'.toArray.size) = false := by
        rw [beq_eq_false_iff_ne, z1, z2]
        exact hl
      rw [this, Bool.and_false]
theorem lists_eq (I : Inv X pins σ H s) (n : Nat) (A : Around) (ih : ∀ (x y : V) (v u : Value) (d e : D) (r : Bool), HRep X.K S H x d → HRep X.K S H y e → RelV x v → RelV y u → eqN n d e = .ok r → EqAt A.in1 s v u r)
    {a b : Addr} {o o' : Bool} {xs ys : List V} {ds es : List D} {r : Bool} (ha : SqL X.K H a xs) (hb : SqL X.K H b ys) (h2 : HReps X.K S H xs ds) (k2 : HReps X.K S H ys es)
    (m1 : HRep X.K S H (.ref a) (.lst o ds)) (m2 : HRep X.K S H (.ref b) (.lst o' es)) (hr : eqsG (eqN n) ds es = .ok r) (hu0 : A.units < cLine) : EqAll A s (.ref a) (.ref b) r := by
  obtain ⟨its, rv, p, _⟩ := I.list ha
  obtain ⟨its', rv', p', _⟩ := I.list hb
  obtain ⟨e, he, hre⟩ := items_eq n A ih rv rv' h2 k2 hr
  have both : RcAt A s (.ref a) (.ref b) r ∧ RcNeAt A s (.ref a) (.ref b) (!r) := by
    by_cases hl : its.toArray.size = its'.toArray.size
    · have hre' : r = (List.range its.toArray.size).all e := by
        rw [hre, ← hl, Nat.min_self]
        simp
      rw [hre']
      exact ⟨.lists p.isList p'.isList hl hu0 he, .lists p.isList p'.isList hl hu0 he⟩
    · have hne : (its.toArray.size != its'.toArray.size) = true := by simpa using hl
      have hre' : r = false := by
        rw [hre]
        have : (its.toArray.size == its'.toArray.size) = false := by rw [beq_eq_false_iff_ne]; exact hl
        rw [this, Bool.and_false]
      rw [hre']
      exact ⟨.lists_lengths p.isList p'.isList hne hu0, .lists_lengths p.isList p'.isList hne hu0⟩
  refine ⟨?_, both.1, both.2⟩
  by_cases hab : a = b
  · subst hab
    have hd := HRep.one I m1 m2
    rw [er, er] at hd
    injection hd with _ hd
    rw [eqsG_refl (eqN_refl n) hr hd]
    exact .same _
  · exact .of_refs hab both.1
set_option maxHeartbeats 4000000 in
theorem eqN_ok (I : Inv X pins σ H s) : ∀ (n : Nat) (A : Around) (x y : V) (v u : Value) (d e : D) (r : Bool), HRep X.K S H x d → HRep X.K S H y e → RelV x v → RelV y u → eqN n d e = .ok r →
    A.units + n < cLine → EqAll A s v u r
  | 0, _, _, _, _, _, _, _, _, _, _, _, _, h, _ => by cases h
  | n + 1, A, x, y, v, u, d, e, r, hx, hy, rx, ry, h, hu => by
    have hu0 : A.units < cLine := by omega
    have hu1 : A.in1.units + n < cLine := by show A.units + 1 + n < cLine; omega
    have ih : ∀ (x y : V) (v u : Value) (d e : D) (r : Bool), HRep X.K S H x d → HRep X.K S H y e → RelV x v → RelV y u → eqN n d e = .ok r → EqAt A.in1 s v u r :=
      fun x y v u d e r a1 a2 a3 a4 a5 => (eqN_ok I n A.in1 x y v u d e r a1 a2 a3 a4 a5 hu1).eq
    cases d with
    | non =>
      cases hx.nonR; cases rx
      cases e with
      | non => cases hy.nonR; cases ry; cases h; exact ⟨.same _, .none_none, .none_none⟩
      | bl b' => cases hy.blR; cases ry; cases h; exact ⟨.none_bool _, .none_bool _, .none_bool _⟩
      | int i' => cases hy.intR; obtain ⟨t2, rfl⟩ := ry; cases h; exact ⟨.none_int _ _, .none_int _ _, .none_int _ _⟩
      | str z' => cases hy.strR; obtain ⟨t2, rfl⟩ := ry; cases h; exact ⟨.none_str _ _, .none_str _ _, .none_str _ _⟩
      | tup es => obtain ⟨a2, xs2, rfl, q2, m2⟩ := hy.tupR; cases ry; obtain ⟨its2, rv2, p2, _⟩ := I.tuple q2; cases h; exact ⟨.none_tuple p2 hu0, .none_tuple p2 hu0, .none_tuple p2 hu0⟩
      | lst o' es => obtain ⟨a2, xs2, rfl, q2, m2⟩ := hy.lstR; cases ry; obtain ⟨its2, rv2, p2, _⟩ := I.list q2; cases h; exact ⟨.none_list p2.isList hu0, .none_list p2.isList hu0, .none_list p2.isList hu0⟩
    | bl b =>
      cases hx.blR; cases rx
      cases e with
      | non => cases hy.nonR; cases ry; cases h; exact ⟨.bool_none _, .bool_none _, .bool_none _⟩
      | bl b' => cases hy.blR; cases ry; cases h; exact ⟨.bool_bool _ _, .bool_bool _ _, .bool_bool _ _⟩
      | int i' => cases hy.intR; obtain ⟨t2, rfl⟩ := ry; cases h; exact ⟨.bool_int _ _ _, .bool_int _ _ _, .bool_int _ _ _⟩
      | str z' => cases hy.strR; obtain ⟨t2, rfl⟩ := ry; cases h; exact ⟨.bool_str _ _ _, .bool_str _ _ _, .bool_str _ _ _⟩
      | tup es => obtain ⟨a2, xs2, rfl, q2, m2⟩ := hy.tupR; cases ry; obtain ⟨its2, rv2, p2, _⟩ := I.tuple q2; cases h; exact ⟨.bool_tuple _ p2 hu0, .bool_tuple _ p2 hu0, .bool_tuple _ p2 hu0⟩
      | lst o' es => obtain ⟨a2, xs2, rfl, q2, m2⟩ := hy.lstR; cases ry; obtain ⟨its2, rv2, p2, _⟩ := I.list q2; cases h; exact ⟨.bool_list _ p2.isList hu0, .bool_list _ p2.isList hu0, .bool_list _ p2.isList hu0⟩
    | int i =>
      cases hx.intR; obtain ⟨t1, rfl⟩ := rx
      cases e with
      | non => cases hy.nonR; cases ry; cases h; exact ⟨.int_none _ _, .int_none _ _, .int_none _ _⟩
      | bl b' => cases hy.blR; cases ry; cases h; exact ⟨.int_bool _ _ _, .int_bool _ _ _, .int_bool _ _ _⟩
      | int i' => cases hy.intR; obtain ⟨t2, rfl⟩ := ry; cases h; exact ⟨.int_int _ _ _ _, .int_int _ _ _ _, .int_int _ _ _ _⟩
      | str z' => cases hy.strR; obtain ⟨t2, rfl⟩ := ry; cases h; exact ⟨.int_str _ _ _ _, .int_str _ _ _ _, .int_str _ _ _ _⟩
      | tup es => obtain ⟨a2, xs2, rfl, q2, m2⟩ := hy.tupR; cases ry; obtain ⟨its2, rv2, p2, _⟩ := I.tuple q2; cases h; exact ⟨.int_tuple _ _ p2 hu0, .int_tuple _ _ p2 hu0, .int_tuple _ _ p2 hu0⟩
      | lst o' es => obtain ⟨a2, xs2, rfl, q2, m2⟩ := hy.lstR; cases ry; obtain ⟨its2, rv2, p2, _⟩ := I.list q2; cases h; exact ⟨.int_list _ _ p2.isList hu0, .int_list _ _ p2.isList hu0, .int_list _ _ p2.isList hu0⟩
    | str z =>
      cases hx.strR; obtain ⟨t1, rfl⟩ := rx
      cases e with
      | non => cases hy.nonR; cases ry; cases h; exact ⟨.str_none _ _, .str_none _ _, .str_none _ _⟩
      | bl b' => cases hy.blR; cases ry; cases h; exact ⟨.str_bool _ _ _, .str_bool _ _ _, .str_bool _ _ _⟩
      | int i' => cases hy.intR; obtain ⟨t2, rfl⟩ := ry; cases h; exact ⟨.str_int _ _ _ _, .str_int _ _ _ _, .str_int _ _ _ _⟩
      | str z' => cases hy.strR; obtain ⟨t2, rfl⟩ := ry; cases h; exact ⟨.str_str _ _ _ _, .str_str _ _ _ _, .str_str _ _ _ _⟩
      | tup es => obtain ⟨a2, xs2, rfl, q2, m2⟩ := hy.tupR; cases ry; obtain ⟨its2, rv2, p2, _⟩ := I.tuple q2; cases h; exact ⟨.str_tuple _ _ p2 hu0, .str_tuple _ _ p2 hu0, .str_tuple _ _ p2 hu0⟩
      | lst o' es => obtain ⟨a2, xs2, rfl, q2, m2⟩ := hy.lstR; cases ry; obtain ⟨its2, rv2, p2, _⟩ := I.list q2; cases h; exact ⟨.str_list _ _ p2.isList hu0, .str_list _ _ p2.isList hu0, .str_list _ _ p2.isList hu0⟩
    | tup ds =>
      obtain ⟨a1, xs1, rfl, q1, m1⟩ := hx.tupR; cases rx; obtain ⟨its1, rv1, p1, _⟩ := I.tuple q1
      cases e with
      | non => cases hy.nonR; cases ry; cases h; exact ⟨.tuple_none p1 hu0, .tuple_none p1 hu0, .tuple_none p1 hu0⟩
      | bl b' => cases hy.blR; cases ry; cases h; exact ⟨.tuple_bool _ p1 hu0, .tuple_bool _ p1 hu0, .tuple_bool _ p1 hu0⟩
      | int i' => cases hy.intR; obtain ⟨t2, rfl⟩ := ry; cases h; exact ⟨.tuple_int _ _ p1 hu0, .tuple_int _ _ p1 hu0, .tuple_int _ _ p1 hu0⟩
      | str z' => cases hy.strR; obtain ⟨t2, rfl⟩ := ry; cases h; exact ⟨.tuple_str _ _ p1 hu0, .tuple_str _ _ p1 hu0, .tuple_str _ _ p1 hu0⟩
      | tup es =>
        have hx' := hx
        have hy' := hy
        obtain ⟨a2, xs2, rfl, q2, m2⟩ := hy.tupR; cases ry; obtain ⟨its2, rv2, p2, _⟩ := I.tuple q2
        have hr : eqsG (eqN n) ds es = .ok r := h
        obtain ⟨e, he, hre⟩ := items_eq n A ih rv1 rv2 m1 m2 hr
        refine ⟨?_, ?_, ?_⟩
        · by_cases hab : a1 = a2
          · subst hab
            have hd := HRep.one I hx' hy'
            rw [er, er] at hd
            injection hd with hd
            rw [eqsG_refl (eqN_refl n) hr hd]
            exact .same _
          · rw [hre]
            exact .of_refs hab (.tuples p1 p2 hu0 he)
        · rw [hre]
          exact .tuples p1 p2 hu0 he
        · rw [hre]
          exact .tuples p1 p2 hu0 he
      | lst o' es => obtain ⟨a2, xs2, rfl, q2, m2⟩ := hy.lstR; cases ry; obtain ⟨its2, rv2, p2, _⟩ := I.list q2; cases h; exact ⟨.tuple_list p1 p2.isList hu0, .tuple_list p1 p2.isList hu0, .tuple_list p1 p2.isList hu0⟩
    | lst o ds =>
      obtain ⟨a1, xs1, rfl, q1, m1⟩ := hx.lstR; cases rx; obtain ⟨its1, rv1, p1, _⟩ := I.list q1
      cases e with
      | non => cases hy.nonR; cases ry; cases h; exact ⟨.list_none p1.isList hu0, .list_none p1.isList hu0, .list_none p1.isList hu0⟩
      | bl b' => cases hy.blR; cases ry; cases h; exact ⟨.list_bool _ p1.isList hu0, .list_bool _ p1.isList hu0, .list_bool _ p1.isList hu0⟩
      | int i' => cases hy.intR; obtain ⟨t2, rfl⟩ := ry; cases h; exact ⟨.list_int _ _ p1.isList hu0, .list_int _ _ p1.isList hu0, .list_int _ _ p1.isList hu0⟩
      | str z' => cases hy.strR; obtain ⟨t2, rfl⟩ := ry; cases h; exact ⟨.list_str _ _ p1.isList hu0, .list_str _ _ p1.isList hu0, .list_str _ _ p1.isList hu0⟩
      | tup es => obtain ⟨a2, xs2, rfl, q2, m2⟩ := hy.tupR; cases ry; obtain ⟨its2, rv2, p2, _⟩ := I.tuple q2; cases h; exact ⟨.list_tuple p1.isList p2 hu0, .list_tuple p1.isList p2 hu0, .list_tuple p1.isList p2 hu0⟩
      | lst o' es =>
        have hx' := hx
        have hy' := hy
        obtain ⟨a2, xs2, rfl, q2, m2⟩ := hy.lstR; cases ry; obtain ⟨its2, rv2, p2, _⟩ := I.list q2
        exact lists_eq I n A ih q1 q2 m1 m2 hx' hy' h hu0
end
end L2
namespace L2
open PySem PySem.Spec PyProof.Rows PySem.SeqAt
noncomputable abbrev nw (S : Addr → Prop) (H : Hp) : Addr → Prop := fun a => S a ∨ H a = none
noncomputable abbrev Kk (K : PySem.W.Frag) (S : Addr → Prop) (H : Hp) (Q : VK) : D → Prop := fun d => ∀ w H', Same H H' → HRep K (nw S H) H' w d → Q w H'
theorem HRep.nw {K : PySem.W.Frag} {S : Addr → Prop} {H : Hp} {v : V} {d : D} (h : HRep K S H v d) : HRep K (nw S H) H v d := h.mono (fun _ => .inl) (.refl _)
theorem HReps.nw {K : PySem.W.Frag} {S : Addr → Prop} {H : Hp} {v : List V} {d : List D} (h : HReps K S H v d) : HReps K (L2.nw S H) H v d := h.mono (fun _ => .inl) (.refl _)
theorem newT {K : PySem.W.Frag} {S : Addr → Prop} {H : Hp} {p : Addr} {vs : List V} {ds : List D} (hp : H p = none) (h : HReps K S H vs ds) : HRep K (nw S H) (upd H p (.tup vs)) (.ref p) (.tup ds) :=
  .tup (.inl (.inl upd_same)) (h.mono (fun _ => .inl) (.upd hp))
theorem newL {K : PySem.W.Frag} {S : Addr → Prop} {H : Hp} {p : Addr} {vs : List V} {ds : List D} {o : Bool} (hp : H p = none) (h : HReps K S H vs ds) : HRep K (nw S H) (upd H p (.lst vs)) (.ref p) (.lst o ds) :=
  .lst (.inr hp) (.inl upd_same) (h.mono (fun _ => .inl) (.upd hp))
noncomputable def bop : BOp → Operator
  | .add => .Add | .sub => .Sub | .mul => .Mult | .fdiv => .FloorDiv | .mod => .Mod | .pow => .Pow
noncomputable def cop : COp → CmpOp
  | .eq => .Eq | .ne => .NotEq | .lt => .Lt | .le => .LtE | .gt => .Gt | .ge => .GtE | .in_ => .In | .nin => .NotIn | .is_ => .Is | .isn => .IsNot
noncomputable def rBin (K : PySem.W.Frag) (ex : Str → Prop) (op : BOp) : R2 := fun x y H Q => ∃ S d e, HRep K S H x d ∧ HRep K S H y e ∧ PO' ex (opB op d e) (Kk K S H Q)
noncomputable def rCmp (K : PySem.W.Frag) (ex : Str → Prop) (op : COp) : R2 := fun x y H Q => ∃ S d e, HRep K S H x d ∧ HRep K S H y e ∧ PO' ex (opC op d e) fun r => Q (.bl r) H
section
variable {X : Cx} {ex : Str → Prop}
theorem szOk_le {n : Nat} (h : szOk n = true) : n ≤ sizeLine := of_decide_eq_true h
theorem szLt_lt {n : Nat} (h : szLt n = true) : n < sizeLine := of_decide_eq_true h
theorem op_catL : OpR X (binaryOp .Add) (fun x y H Q => ∃ l b xs zs, x = .ref l ∧ y = .ref b ∧ Ls X.K H l xs ∧ Ls X.K H b zs ∧ xs.length + zs.length ≤ sizeLine ∧ ∀ p, H p = none → Q (.ref p) (upd H p (.lst (xs ++ zs)))) := by
  intro pins s σ H x y v u Q I rx ry h
  obtain ⟨l, b, xs, zs, rfl, rfl, hH, hB, hz, q⟩ := h
  cases rx
  cases ry
  obtain ⟨hl, its, n, r, e⟩ := I.ls hH
  obtain ⟨hl2, its2, n2, r2, e'⟩ := I.ls hB
  have e1 := r.length
  have e2 := r2.length
  refine PySem.P.add_list e e' ?_ (by rw [List.size_toArray, List.size_toArray]; omega)
  have ea : its.toArray ++ its2.toArray = (its ++ its2).toArray := by simp
  rw [ea]
  exact ⟨.ref _, _, I.lnew (t' := s.toks) (r.append r2) (by rw [List.length_append]; omega), rfl, q _ I.fresh⟩
theorem opB_ok (op : BOp) : OpR X (binaryOp (bop op)) (rBin X.K ex op) := by
  intro pins s σ H x y v u Q I rx ry h
  obtain ⟨S, d, e, hx, hy, h⟩ := h
  have stuck : ∀ {P : Prop}, opB op d e = stk → P := fun z => by rw [z] at h; exact h.no.elim
  cases op with
  | add =>
    cases d with
    | int a =>
      cases e with
      | int b => cases hx.intR; cases hy.intR; exact op_add pins s σ H _ _ v u Q I rx ry ⟨a, b, rfl, rfl, h.ok _ _ (.refl _) (.int _)⟩
      | _ => exact stuck rfl
    | str a =>
      cases e with
      | str b =>
        cases hx.strR; cases hy.strR
        obtain ⟨g, h⟩ := PO'.grd h
        exact op_add_str pins s σ H _ _ v u Q I rx ry ⟨a, b, rfl, rfl, szOk_le g, h.ok _ _ (.refl _) (.str _)⟩
      | _ => exact stuck rfl
    | lst o a =>
      cases e with
      | lst o' b =>
        obtain ⟨p, xs, rfl, q1, m1⟩ := hx.lstL
        obtain ⟨p', ys, rfl, q2, m2⟩ := hy.lstL
        obtain ⟨g, h⟩ := PO'.grd h
        have g' := szOk_le g
        have l1 := m1.length
        have l2 := m2.length
        exact op_catL pins s σ H _ _ v u Q I rx ry ⟨p, p', xs, ys, rfl, rfl, q1, q2, by omega, fun z hz => h.ok _ _ (.upd hz) (newL hz (m1.append m2))⟩
      | _ => exact stuck rfl
    | _ => exact stuck rfl
  | sub =>
    cases d with
    | int a =>
      cases e with
      | int b => cases hx.intR; cases hy.intR; exact op_sub pins s σ H _ _ v u Q I rx ry ⟨a, b, rfl, rfl, h.ok _ _ (.refl _) (.int _)⟩
      | _ => exact stuck rfl
    | _ => exact stuck rfl
  | mul =>
    cases d with
    | int a =>
      cases e with
      | int b =>
        cases hx.intR; cases hy.intR
        obtain ⟨g, h⟩ := PO'.grd h
        rw [Bool.or_eq_true] at g
        exact op_mul pins s σ H _ _ v u Q I rx ry ⟨a, b, rfl, rfl, g.elim (fun z => .inl (of_decide_eq_true z)) (fun z => .inr (of_decide_eq_true z)), h.ok _ _ (.refl _) (.int _)⟩
      | _ => exact stuck rfl
    | str a =>
      cases e with
      | _ => exact stuck rfl
    | _ => exact stuck rfl
  | fdiv =>
    cases d with
    | int a =>
      cases e with
      | int b =>
        cases hx.intR; cases hy.intR
        obtain ⟨g, h⟩ := PO'.grd h
        exact op_fdiv pins s σ H _ _ v u Q I rx ry ⟨a, b, rfl, rfl, show 0 < b ∧ b < 1073741824 from of_decide_eq_true g, h.ok _ _ (.refl _) (.int _)⟩
      | _ => exact stuck rfl
    | _ => exact stuck rfl
  | mod =>
    cases d with
    | int a =>
      cases e with
      | int b =>
        cases hx.intR; cases hy.intR
        obtain ⟨g, h⟩ := PO'.grd h
        exact op_mod pins s σ H _ _ v u Q I rx ry ⟨a, b, rfl, rfl, of_decide_eq_true g, h.ok _ _ (.refl _) (.int _)⟩
      | _ => exact stuck rfl
    | _ => exact stuck rfl
  | pow => exact stuck (by cases d <;> cases e <;> rfl)
theorem PO'.eqN {ex : Str → Prop} : ∀ {n : Nat} {d e : D} {k : Bool → Prop}, PO' ex (L2.eqN n d e) k → ∃ r, L2.eqN n d e = .ok r ∧ k r := by
  have no : ∀ (n : Nat) (d e : D) (c : Str), L2.eqN n d e ≠ .error (.exc c) := by
    intro n
    have seqs : ∀ (f : D → D → Res Bool), (∀ d e c, f d e ≠ .error (.exc c)) → ∀ (ds es : List D) (c : Str), eqsG f ds es ≠ .error (.exc c) := by
      intro f hf ds
      induction ds with
      | nil => intro es c h; cases es <;> cases h
      | cons a ds ih =>
        intro es c h
        cases es with
        | nil => cases h
        | cons b es =>
          have h' : L2.bnd (f a b) (fun x => L2.bnd (eqsG f ds es) fun y => .ok (x && y)) = .error (.exc c) := h
          cases q : f a b with
          | error z => rw [q] at h'; exact hf a b c (by rw [q]; exact h')
          | ok x =>
            rw [q] at h'
            have h2 : L2.bnd (eqsG f ds es) (fun y => .ok (x && y)) = .error (.exc c) := h'
            cases q2 : eqsG f ds es with
            | error z => rw [q2] at h2; exact ih es c (by rw [q2]; exact h2)
            | ok y => rw [q2] at h2; cases h2
    induction n with
    | zero => intro d e c h; cases h
    | succ n ih =>
      intro d e c h
      cases d <;> cases e <;> first | cases h | exact seqs _ ih _ _ _ h
  intro n d e k h
  cases q : L2.eqN n d e with
  | ok r => rw [q] at h; exact ⟨r, rfl, h⟩
  | error z =>
    rw [q] at h
    cases z with
    | stuck => exact h.no.elim
    | exc c => exact absurd q (no n d e c)
theorem PO'.anyN {ex : Str → Prop} {d : D} : ∀ {ds : List D} {k : Bool → Prop}, PO' ex (L2.anyN d ds) k → ∃ f : Nat → Bool, (∀ i e, ds[i]? = some e → L2.eqN 40 e d = .ok (f i)) ∧ k ((List.range ds.length).any f)
  | [], k, h => ⟨fun _ => false, fun i e z => by simp at z, h⟩
  | e :: r, k, h => by
    obtain ⟨x, ex', h1⟩ := PO'.eqN (PO'.bnd h)
    obtain ⟨f, h2, h3⟩ := PO'.anyN (PO'.bnd h1)
    refine ⟨fun i => match i with | 0 => x | j + 1 => f j, fun i e' z => ?_, ?_⟩
    · cases i with
      | zero => simp at z; subst z; exact ex'
      | succ j => exact h2 j e' (by simpa using z)
    · rw [List.length_cons, List.range_succ_eq_map, List.any_cons, List.any_map]
      exact h3
theorem any_choose {A : Around} {s : Shared} {v : Value} (its : List Value) (f : Nat → Bool) (h : ∀ i u, its[i]? = some u → EqAt A s u v (f i)) :
    ∃ e : Value → Bool, (∀ y, y ∈ its.toArray → EqAt A s y v (e y)) ∧ its.toArray.any e = (List.range its.length).any f := by
  classical
  refine ⟨fun y => decide (∃ i, its[i]? = some y ∧ f i = true), fun y hy => ?_, ?_⟩
  · have hy' : y ∈ its := by simpa using hy
    obtain ⟨j, hj⟩ := List.getElem?_of_mem hy'
    show EqAt A s y v (decide (∃ i, its[i]? = some y ∧ f i = true))
    by_cases q : ∃ i, its[i]? = some y ∧ f i = true
    · rw [decide_eq_true q]
      obtain ⟨i, hi, fi⟩ := q
      have := h i y hi
      rw [fi] at this
      exact this
    · rw [decide_eq_false q]
      have := h j y hj
      have fj : f j = false := by
        cases z : f j with
        | false => rfl
        | true => exact absurd ⟨j, hj, z⟩ q
      rw [fj] at this
      exact this
  · rw [Bool.eq_iff_iff]
    simp only [List.any_toArray, List.any_eq_true, List.mem_range, decide_eq_true_eq]
    constructor
    · rintro ⟨y, hy, i, hi, fi⟩
      exact ⟨i, (List.getElem?_eq_some_iff.mp hi).1, fi⟩
    · rintro ⟨i, hi, fi⟩
      exact ⟨its[i], List.getElem_mem hi, i, by simp [hi], fi⟩
theorem in_seq_ok (hu : X.A.units + 42 < cLine) {pins : List (Addr × Obj)} {s : Shared} {σ : St} {H : Hp} {S : Addr → Prop} {x : V} {v : Value} {d : D} {k : Bool → Prop} (I : Inv X pins σ H s) (rx : RelV x v) (hx : HRep X.K S H x d)
    {xs : List V} {its : List Value} {ds : List D} (rv : Vals xs its) (m : HReps X.K S H xs ds) (h : PO' ex (anyN d ds) k) :
    ∃ e : Value → Bool, (∀ y, y ∈ its.toArray → EqAt X.A.in1 s y v (e y)) ∧ k (its.toArray.any e) := by
  obtain ⟨f, h1, h2⟩ := PO'.anyN h
  have l1 := rv.length
  have l2 := m.length
  obtain ⟨e, h3, h4⟩ := any_choose (A := X.A.in1) (s := s) (v := v) its f fun i u hi => by
    have hlt : i < its.length := (List.getElem?_eq_some_iff.mp hi).1
    obtain ⟨y, hy, my⟩ := m.get (i := i) (d := ds[i]'(by omega)) (by simp)
    obtain ⟨u', hu', ru⟩ := rv.get hy
    rw [hi] at hu'; cases hu'
    exact (eqN_ok I 40 X.A.in1 y x u v _ d _ my hx ru rx (h1 i _ (by simp)) (by show X.A.units + 1 + 40 < cLine; omega)).eq
  refine ⟨e, h3, ?_⟩
  rw [h4, show its.length = ds.length by omega]
  exact h2
theorem opC_ok (hu : X.A.units + 42 < cLine) (op : COp) : OpR X (compareOp (cop op)) (rCmp X.K ex op) := by
  intro pins s σ H x y v u Q I rx ry h
  obtain ⟨S, d, e, hx, hy, h⟩ := h
  have stuck : ∀ {P : Prop}, opC op d e = stk → P := fun z => by rw [z] at h; exact h.no.elim
  have fin : ∀ {b : Bool}, Q (.bl b) H → EP X pins σ Q (.bool b) s := fun q => ⟨.bl _, H, I, rfl, q⟩
  cases op with
  | eq =>
    obtain ⟨r, h1, h2⟩ := PO'.eqN h
    exact (eqN_ok I 40 X.A x y v u d e r hx hy rx ry h1 (by omega)).rc _ _ _ _ (fin h2)
  | ne =>
    obtain ⟨r, h1, h2⟩ := PO'.eqN (PO'.bnd h)
    exact (eqN_ok I 40 X.A x y v u d e r hx hy rx ry h1 (by omega)).ne _ _ _ _ (fin h2.ok)
  | lt =>
    cases d with
    | int a =>
      cases e with
      | int b => cases hx.intR; cases hy.intR; obtain ⟨t, rfl⟩ := rx; obtain ⟨t', rfl⟩ := ry; exact lt_int (fin h.ok)
      | _ => exact stuck rfl
    | _ => exact stuck rfl
  | le =>
    cases d with
    | int a =>
      cases e with
      | int b => cases hx.intR; cases hy.intR; obtain ⟨t, rfl⟩ := rx; obtain ⟨t', rfl⟩ := ry; exact le_int (fin h.ok)
      | _ => exact stuck rfl
    | _ => exact stuck rfl
  | gt =>
    cases d with
    | int a =>
      cases e with
      | int b => cases hx.intR; cases hy.intR; obtain ⟨t, rfl⟩ := rx; obtain ⟨t', rfl⟩ := ry; exact gt_int (fin h.ok)
      | _ => exact stuck rfl
    | _ => exact stuck rfl
  | ge =>
    cases d with
    | int a =>
      cases e with
      | int b => cases hx.intR; cases hy.intR; obtain ⟨t, rfl⟩ := rx; obtain ⟨t', rfl⟩ := ry; exact ge_int (fin h.ok)
      | _ => exact stuck rfl
    | _ => exact stuck rfl
  | in_ =>
    cases e with
    | str b =>
      cases d with
      | str a => cases hx.strR; cases hy.strR; obtain ⟨t, rfl⟩ := rx; obtain ⟨t', rfl⟩ := ry; exact in_str (fin h.ok)
      | _ => exact stuck rfl
    | lst o ds =>
      obtain ⟨a, xs, rfl, q1, m1⟩ := hy.lstR
      cases ry
      obtain ⟨its, rv, pl, _⟩ := I.list q1
      obtain ⟨e, h1, h2⟩ := in_seq_ok (ex := ex) hu I rx hx rv m1 (by cases d <;> exact h)
      exact in_listAt e pl.isList h1 (fin h2)
    | tup ds =>
      obtain ⟨a, xs, rfl, q1, m1⟩ := hy.tupR
      cases ry
      obtain ⟨its, rv, pl, _⟩ := I.tuple q1
      obtain ⟨e, h1, h2⟩ := in_seq_ok (ex := ex) hu I rx hx rv m1 (by cases d <;> exact h)
      exact in_tupleAt e pl h1 (fin h2)
    | non => cases d <;> exact stuck rfl
    | bl _ => cases d <;> exact stuck rfl
    | int _ => cases d <;> exact stuck rfl
  | nin =>
    cases e with
    | str b =>
      cases d with
      | str a => cases hx.strR; cases hy.strR; obtain ⟨t, rfl⟩ := rx; obtain ⟨t', rfl⟩ := ry; exact notIn_str (fin h.ok)
      | _ => exact stuck rfl
    | lst o ds =>
      obtain ⟨a, xs, rfl, q1, m1⟩ := hy.lstR
      cases ry
      obtain ⟨its, rv, pl, _⟩ := I.list q1
      obtain ⟨e, h1, h2⟩ := in_seq_ok (ex := ex) (k := fun r => Q (.bl !r) H) hu I rx hx rv m1 ((PO'.bnd (show PO' ex (bnd (anyN d ds) fun r => .ok !r) (fun r => Q (.bl r) H) by cases d <;> exact h)).mono fun _ z => z)
      exact notIn_listAt e pl.isList h1 (fin h2)
    | tup ds =>
      obtain ⟨a, xs, rfl, q1, m1⟩ := hy.tupR
      cases ry
      obtain ⟨its, rv, pl, _⟩ := I.tuple q1
      obtain ⟨e, h1, h2⟩ := in_seq_ok (ex := ex) (k := fun r => Q (.bl !r) H) hu I rx hx rv m1 ((PO'.bnd (show PO' ex (bnd (anyN d ds) fun r => .ok !r) (fun r => Q (.bl r) H) by cases d <;> exact h)).mono fun _ z => z)
      exact notIn_tupleAt e pl h1 (fin h2)
    | non => cases d <;> exact stuck rfl
    | bl _ => cases d <;> exact stuck rfl
    | int _ => cases d <;> exact stuck rfl
  | is_ =>
    cases e with
    | non =>
      cases hy.nonR; cases ry
      have ev : isNon d = (v == Value.none) := by
        cases hx with
        | non => cases rx; rfl
        | bl b => cases rx; rfl
        | int i => obtain ⟨t, rfl⟩ := rx; rfl
        | str z => obtain ⟨t, rfl⟩ := rx; rfl
        | tup _ _ => cases rx; rfl
        | lst _ _ _ => cases rx; rfl
        | lstK _ _ => cases rx; rfl
      have h' : Q (.bl (isNon d)) H := by cases d <;> exact h
      rw [ev] at h'
      exact is_none_gen (fin h')
    | _ => cases d <;> exact stuck rfl
  | isn =>
    cases e with
    | non =>
      cases hy.nonR; cases ry
      have ev : isNon d = (v == Value.none) := by
        cases hx with
        | non => cases rx; rfl
        | bl b => cases rx; rfl
        | int i => obtain ⟨t, rfl⟩ := rx; rfl
        | str z => obtain ⟨t, rfl⟩ := rx; rfl
        | tup _ _ => cases rx; rfl
        | lst _ _ _ => cases rx; rfl
        | lstK _ _ => cases rx; rfl
      have h' : Q (.bl (!isNon d)) H := by cases d <;> exact h
      rw [ev] at h'
      exact isnot_none_gen (fin h')
    | _ => cases d <;> exact stuck rfl
theorem truD_ok {pins : List (Addr × Obj)} {s : Shared} {σ : St} {H : Hp} {S : Addr → Prop} {x : V} {v : Value} {d : D} {Q : Bool → Hp → Prop} (I : Inv X pins σ H s) (rx : RelV x v) (hx : HRep X.K S H x d) (h : PO' ex (truD d) fun b => Q b H) :
    wpAny (model X.prog X.w) X.A (truthy v) (TP X pins σ Q) X.xe s := by
  refine tru_ok pins s σ H x v Q I rx ?_
  cases d with
  | non => cases hx.nonR; exact ⟨false, rfl, h⟩
  | bl b => cases hx.blR; exact ⟨b, rfl, h⟩
  | int i => cases hx.intR; exact ⟨_, rfl, h⟩
  | str z =>
    cases hx.strR
    obtain ⟨g, h⟩ := PO'.grd h
    exact ⟨_, ⟨szOk_le g, rfl⟩, h⟩
  | tup ds =>
    obtain ⟨a, xs, rfl, q, m⟩ := hx.tupR
    refine ⟨!ds.isEmpty, .inr (.inl ⟨xs, q, ?_⟩), h⟩
    have := m.length
    cases xs <;> cases ds <;> simp_all
  | lst o ds =>
    obtain ⟨a, xs, rfl, q, m⟩ := hx.lstR
    refine ⟨!ds.isEmpty, .inl ⟨xs, q, ?_⟩, h⟩
    have := m.length
    cases xs <;> cases ds <;> simp_all
theorem atI_rep {K : PySem.W.Frag} {S : Addr → Prop} {H : Hp} {vs : List V} {ds : List D} {i : Int} {d : D} (m : HReps K S H vs ds) (h : atI ds i = some d) : ∃ v, atI vs i = some v ∧ HRep K S H v d := by
  unfold atI at h ⊢
  rw [m.length]
  cases q : ixN ds.length i with
  | none => rw [q] at h; cases h
  | some j => rw [q] at h; exact m.get h
noncomputable def rIdx (K : PySem.W.Frag) (ex : Str → Prop) : R2 := fun x y H Q => ∃ S d e, HRep K S H x d ∧ HRep K S H y e ∧ PO' ex (opIx d e) (Kk K S H Q)
theorem opIx_ok : IxR X (rIdx X.K ex) := by
  intro value slice pins s σ H x y v u Q I rx ry h hs
  obtain ⟨S, d, e, hx, hy, h⟩ := h
  refine ix_seq value slice pins s σ H x y v u Q I rx ry ?_ hs
  have stuck : ∀ {P : Prop}, opIx d e = stk → P := fun z => by rw [z] at h; exact h.no.elim
  cases e with
  | int i =>
    cases hy.intR
    cases d with
    | lst o ds =>
      obtain ⟨a, xs, rfl, q, m⟩ := hx.lstR
      have h' : PO' ex (match atI ds i with | some d => .ok d | none => stk) (Kk X.K S H Q) := h
      cases z : atI ds i with
      | none => rw [z] at h'; exact h'.no.elim
      | some d =>
        rw [z] at h'
        obtain ⟨w, ew, mw⟩ := atI_rep m z
        exact .inl ⟨a, xs, i, w, rfl, rfl, q, ew, h'.ok _ _ (.refl _) mw.nw⟩
    | tup ds =>
      obtain ⟨a, xs, rfl, q, m⟩ := hx.tupR
      have h' : PO' ex (match atI ds i with | some d => .ok d | none => stk) (Kk X.K S H Q) := h
      cases z : atI ds i with
      | none => rw [z] at h'; exact h'.no.elim
      | some d =>
        rw [z] at h'
        obtain ⟨w, ew, mw⟩ := atI_rep m z
        exact .inr (.inl ⟨a, xs, i, w, rfl, rfl, q, ew, h'.ok _ _ (.refl _) mw.nw⟩)
    | str z =>
      cases hx.strR
      obtain ⟨g, h⟩ := PO'.grd h
      cases q : atI z.cps.toList i with
      | none => rw [q] at h; exact h.no.elim
      | some c =>
        rw [q] at h
        exact .inr (.inr ⟨z, i, c, rfl, rfl, szOk_le g, q, h.ok _ _ (.refl _) (.str _)⟩)
    | _ => exact stuck rfl
  | _ => cases d <;> exact stuck rfl
noncomputable def rSli (K : PySem.W.Frag) (ex : Str → Prop) : V → Option Int → Option Int → Hp → VK → Prop := fun x lo hi H Q => ∃ S d, HRep K S H x d ∧ PO' ex (opSl d lo hi) (Kk K S H Q)
theorem sl_str : SlR X (fun x lo hi H Q => ∃ z, x = .str z ∧ z.length ≤ sizeLine ∧ Q (.str (Txt.slice z lo hi)) H) := by
  intro pins s σ H x v vl vu lo hi sl Q I rx hs pl pu h
  obtain ⟨z, rfl, hz, q⟩ := h
  obtain ⟨t, rfl⟩ := rx
  refine ⟨"str", _, F.slot_str_getitem.lookup, typeIs_str s z t, ?_⟩
  have fin : ∀ (l u : Option (Int × Tok)), vl = partValue l → vu = partValue u → l.map (·.1) = lo → u.map (·.1) = hi → wpAny (model X.prog X.w) X.A (getItem (.str z t) (.ref sl)) (EP X pins σ Q) X.xe s := by
    intro l u e1 e2 e3 e4
    subst e1 e2 e3 e4
    refine wpAny_getItem_str_slice (l := l) (u := u) (st := none) hs rfl ?_
    exact post_val_or_str ⟨Nat.le_trans (Txt.slice_le z _ _) hz, fun t' k => ⟨.str _, H, I.tok _, ⟨_, rfl⟩, q⟩⟩
  cases pl with
  | none =>
    cases pu with
    | none => exact fin none none rfl rfl rfl rfl
    | int j t' => exact fin none (some (j, t')) rfl rfl rfl rfl
  | int i t' =>
    cases pu with
    | none => exact fin (some (i, t')) none rfl rfl rfl rfl
    | int j t'' => exact fin (some (i, t')) (some (j, t'')) rfl rfl rfl rfl
end
end L2
namespace L2
open PySem PySem.Spec PyProof.Rows PySem.SeqAt
section
variable {X : Cx} {ex : Str → Prop}
theorem cut_rep {K : PySem.W.Frag} {S : Addr → Prop} {H : Hp} {vs : List V} {ds : List D} (lo hi : Option Int) (m : HReps K S H vs ds) : HReps K S H (cutV vs lo hi) (cutG ds lo hi) := by
  unfold cutV cutG
  rw [m.length]
  exact (m.drop _).take _
theorem opSl_ok : SlR X (rSli X.K ex) := by
  intro pins s σ H x v vl vu lo hi sl Q I rx hs pl pu h
  obtain ⟨S, d, hx, h⟩ := h
  cases d with
  | lst o ds =>
    obtain ⟨a, xs, rfl, q, m⟩ := hx.lstR
    exact sl_list pins s σ H _ v vl vu lo hi sl Q I rx hs pl pu ⟨a, xs, rfl, q, fun p hp => h.ok _ _ (.upd hp) (newL hp (cut_rep lo hi m))⟩
  | tup ds =>
    obtain ⟨a, xs, rfl, q, m⟩ := hx.tupR
    obtain ⟨g, h⟩ := PO'.grd h
    unfold prop at g
    rw [← m.length] at g
    exact sl_tup pins s σ H _ v vl vu lo hi sl Q I rx hs pl pu ⟨a, xs, rfl, q, fun z => by rw [z.1, z.2] at g; simp at g, fun p hp => h.ok _ _ (.upd hp) (newT hp (cut_rep lo hi m))⟩
  | str z =>
    cases hx.strR
    obtain ⟨g, h⟩ := PO'.grd h
    exact sl_str pins s σ H _ v vl vu lo hi sl Q I rx hs pl pu ⟨z, rfl, szOk_le g, h.ok _ _ (.refl _) (.str _)⟩
  | _ => exact h.no.elim
theorem strsAre_ofV {ns : List Str} : ∀ {us : List Value}, Vals (ns.map V.str) us → StrsAre us ns := by
  induction ns with
  | nil => intro us r; rw [List.map_nil] at r; cases r; exact .nil
  | cons n ns ih =>
    intro us r
    rw [List.map_cons] at r
    cases r with
    | cons r1 r2 =>
      obtain ⟨t, e⟩ := r1
      subst e
      exact .cons n t (ih r2)
theorem asStrs_map : ∀ {ds : List D} {ns : List Str}, asStrs ds = some ns → ds = ns.map .str
  | [], ns, h => by cases h; rfl
  | .str i :: r, ns, h => by
    have h' : (asStrs r).map (i :: ·) = some ns := h
    cases q : asStrs r with
    | none => rw [q] at h'; cases h'
    | some ms =>
      rw [q] at h'
      cases h'
      rw [asStrs_map q]
      rfl
  | .non :: _, _, h => by cases h
  | .bl _ :: _, _, h => by cases h
  | .int _ :: _, _, h => by cases h
  | .tup _ :: _, _, h => by cases h
  | .lst _ _ :: _, _, h => by cases h
theorem asBls_map : ∀ {ds : List D} {ns : List Bool}, asBls ds = some ns → ds = ns.map .bl
  | [], ns, h => by cases h; rfl
  | .bl i :: r, ns, h => by
    have h' : (asBls r).map (i :: ·) = some ns := h
    cases q : asBls r with
    | none => rw [q] at h'; cases h'
    | some ms =>
      rw [q] at h'
      cases h'
      rw [asBls_map q]
      rfl
  | .non :: _, _, h => by cases h
  | .str _ :: _, _, h => by cases h
  | .int _ :: _, _, h => by cases h
  | .tup _ :: _, _, h => by cases h
  | .lst _ _ :: _, _, h => by cases h
theorem call_allL (hc : X.calm = true) : CallR X (.builtin "all") (fun xs H Q => ∃ (p : Addr) (bs : List Bool), xs = [.ref p] ∧ SqL X.K H p (bs.map V.bl) ∧ Q (.bl (bs.all id)) H) := by
  intro pins s σ H xs us Q I r h
  obtain ⟨p, bs, rfl, hq, q⟩ := h
  obtain ⟨u, rfl, rx⟩ := vals1 r
  cases rx
  obtain ⟨its, rv, pl, hz⟩ := I.list hq
  have hl := rv.length
  rw [List.length_map] at hl
  have hlt : p < s.heap.objs.size := by
    obtain ⟨o, e, _⟩ := pl.isList
    exact Heap.lt_size e
  refine call_all_walk (wpAny_pyIter_list pl.isList ?_)
  refine ⟨s.heap.objs.size, _, _, _, _, _, fun i => bs.getD i true, rfl, Walks.list (A := X.A.in1) (show X.A.in1.handled = none from I.ok.hd hc) s.heap.objs.size p (Nat.ne_of_lt hlt) its.toArray, ⟨⟨_, Heap.get?_push_size _ rfl, rfl, rfl⟩, ?_⟩, ?_, ?_⟩
  · obtain ⟨o, e, c, n, d⟩ := pl.isList
    exact ⟨o, Heap.get?_push_of_some _ e, c, n, d⟩
  · intro i v s' Q' E' hv hq'
    have hv' : its[i]? = some v := by simpa using hv
    have hlt' : i < bs.length := by
      have := (List.getElem?_eq_some_iff.mp hv').1
      omega
    obtain ⟨u, hu, ru⟩ := rv.get (i := i) (x := .bl bs[i]) (by rw [List.getElem?_map, List.getElem?_eq_getElem hlt']; rfl)
    rw [hv'] at hu
    cases hu
    cases ru
    refine wpAny_truthy_bool ?_
    have e : bs.getD i true = bs[i] := by simp [List.getD, hlt']
    rw [← e]
    exact hq'
  · intro h' tk kp
    have hall : (List.range its.toArray.size).all (fun i => bs.getD i true) = bs.all id := by
      rw [show its.toArray.size = bs.length by simp [hl]]
      rw [Bool.eq_iff_iff, List.all_eq_true, List.all_eq_true]
      constructor
      · intro z b hb
        obtain ⟨i, hi, rfl⟩ := List.getElem_of_mem hb
        have := z i (List.mem_range.mpr hi)
        simpa [List.getD, hi] using this
      · intro z i hi
        have hi' := List.mem_range.mp hi
        have := z bs[i] (List.getElem_mem hi')
        simpa [List.getD, hi'] using this
    rw [hall]
    refine ⟨.bl (bs.all id), H, I.kept (t' := tk) fun b o e => kp b o ?_ (Heap.get?_push_of_some _ e), rfl, q⟩
    intro hm
    have hb : b = s.heap.objs.size := by simpa using hm
    subst hb
    exact absurd (Heap.lt_size e) (Nat.lt_irrefl _)
theorem call_anyL (hc : X.calm = true) : CallR X (.builtin "any") (fun xs H Q => ∃ (p : Addr) (bs : List Bool), xs = [.ref p] ∧ SqL X.K H p (bs.map V.bl) ∧ Q (.bl (bs.any id)) H) := by
  intro pins s σ H xs us Q I r h
  obtain ⟨p, bs, rfl, hq, q⟩ := h
  obtain ⟨u, rfl, rx⟩ := vals1 r
  cases rx
  obtain ⟨its, rv, pl, hz⟩ := I.list hq
  have hl := rv.length
  rw [List.length_map] at hl
  have hlt : p < s.heap.objs.size := by
    obtain ⟨o, e, _⟩ := pl.isList
    exact Heap.lt_size e
  refine call_any_walk (wpAny_pyIter_list pl.isList ?_)
  refine ⟨s.heap.objs.size, _, _, _, _, _, fun i => bs.getD i false, rfl, Walks.list (A := X.A.in1) (show X.A.in1.handled = none from I.ok.hd hc) s.heap.objs.size p (Nat.ne_of_lt hlt) its.toArray, ⟨⟨_, Heap.get?_push_size _ rfl, rfl, rfl⟩, ?_⟩, ?_, ?_⟩
  · obtain ⟨o, e, c, n, d⟩ := pl.isList
    exact ⟨o, Heap.get?_push_of_some _ e, c, n, d⟩
  · intro i v s' Q' E' hv hq'
    have hv' : its[i]? = some v := by simpa using hv
    have hlt' : i < bs.length := by
      have := (List.getElem?_eq_some_iff.mp hv').1
      omega
    obtain ⟨u, hu, ru⟩ := rv.get (i := i) (x := .bl bs[i]) (by rw [List.getElem?_map, List.getElem?_eq_getElem hlt']; rfl)
    rw [hv'] at hu
    cases hu
    cases ru
    refine wpAny_truthy_bool ?_
    have e : bs.getD i false = bs[i] := by simp [List.getD, hlt']
    rw [← e]
    exact hq'
  · intro h' tk kp
    have hall : (List.range its.toArray.size).any (fun i => bs.getD i false) = bs.any id := by
      rw [show its.toArray.size = bs.length by simp [hl]]
      rw [Bool.eq_iff_iff, List.any_eq_true, List.any_eq_true]
      constructor
      · rintro ⟨i, hi, z⟩
        have hi' := List.mem_range.mp hi
        exact ⟨bs[i], List.getElem_mem hi', by simpa [List.getD, hi'] using z⟩
      · rintro ⟨b, hb, z⟩
        obtain ⟨i, hi, rfl⟩ := List.getElem_of_mem hb
        exact ⟨i, List.mem_range.mpr hi, by simpa [List.getD, hi] using z⟩
    rw [hall]
    refine ⟨.bl (bs.any id), H, I.kept (t' := tk) fun b o e => kp b o ?_ (Heap.get?_push_of_some _ e), rfl, q⟩
    intro hm
    have hb : b = s.heap.objs.size := by simpa using hm
    subst hb
    exact absurd (Heap.lt_size e) (Nat.lt_irrefl _)
noncomputable def biName : Bi → Str
  | .len => "len" | .sum => "sum" | .min2 => "min" | .max2 => "max" | .sorted => "sorted" | .list => "list" | .tuple => "tuple" | .ord => "ord" | .int => "int" | .all => "all" | .any => "any" | .str => "str" | .set => "set" | .abs => "abs"
noncomputable def biTy : Bi → Bool
  | .list => true | .tuple => true | .int => true | .str => true | .set => true
  | _ => false
noncomputable def biId : Bi → String
  | .len => "len" | .sum => "sum" | .min2 => "min" | .max2 => "max" | .sorted => "sorted" | .list => "list" | .tuple => "tuple" | .ord => "ord" | .int => "int" | .all => "all" | .any => "any" | .str => "str" | .set => "set" | .abs => "abs"
noncomputable def biVal (f : Bi) : Value := if biTy f = true then .type (biId f) else .builtin (biId f)
theorem bi_boot (f : Bi) : bootBuiltins (biName f) = some (biVal f) := by cases f <;> decide +kernel
noncomputable def rBi (K : PySem.W.Frag) (ex : Str → Prop) (f : Bi) : List V → Hp → VK → Prop := fun xs H Q => ∃ S ds, HReps K S H xs ds ∧ PO' ex (opBi f ds) (Kk K S H Q)
theorem HReps.one1 {K : PySem.W.Frag} {S : Addr → Prop} {H : Hp} {xs : List V} {d : D} (h : HReps K S H xs [d]) : ∃ x, xs = [x] ∧ HRep K S H x d := by
  cases h with
  | cons h1 h2 => cases h2; exact ⟨_, rfl, h1⟩
theorem HReps.two2 {K : PySem.W.Frag} {S : Addr → Prop} {H : Hp} {xs : List V} {d e : D} (h : HReps K S H xs [d, e]) : ∃ x y, xs = [x, y] ∧ HRep K S H x d ∧ HRep K S H y e := by
  cases h with
  | cons h1 h2 =>
    cases h2 with
    | cons h3 h4 => cases h4; exact ⟨_, _, rfl, h1, h3⟩
theorem strs_rep {K : PySem.W.Frag} {S : Addr → Prop} {H : Hp} (ns : List Str) : HReps K S H (ns.map V.str) (ns.map D.str) := by
  induction ns with
  | nil => exact .nil
  | cons c cs ih => exact .cons (.str _) ih
theorem chars_rep {K : PySem.W.Frag} {S : Addr → Prop} {H : Hp} (z : Str) : HReps K S H (charsV z) (charsD z) := by
  unfold charsV charsD
  induction z.cps.toList with
  | nil => exact .nil
  | cons c cs ih => exact .cons (.str _) ih
theorem opBi_ok (hc : X.calm = true) (f : Bi) : CallR X (biVal f) (rBi X.K ex f) := by
  intro pins s σ H xs us Q I r h
  obtain ⟨S, ds, hx, h⟩ := h
  have stuck : ∀ {P : Prop}, opBi f ds = stk → P := fun z => by rw [z] at h; exact h.no.elim
  have one : ∀ {d e : D} {r' : List D}, ds = d :: e :: r' → ¬ (f = .min2 ∨ f = .max2) → opBi f ds = stk := by
    intro d e r' z nf
    subst z
    cases f <;> first | rfl | (exfalso; exact nf (.inl rfl)) | (exfalso; exact nf (.inr rfl)) | (cases d <;> rfl)
  have two : ∀ {d e g : D} {r' : List D}, ds = d :: e :: g :: r' → opBi f ds = stk := by
    intro d e g r' z
    subst z
    cases f <;> first | rfl | (cases d <;> rfl) | (cases d <;> cases e <;> rfl)
  have nil : ds = [] → opBi f ds = stk := by
    intro z
    subst z
    cases f <;> rfl
  match ds, hx with
  | [], hx => exact stuck (nil rfl)
  | d :: e :: g :: r', hx => exact stuck (two rfl)
  | [d, e], hx =>
    by_cases nf : f = .min2 ∨ f = .max2
    · obtain ⟨x, y, rfl, hd, he⟩ := hx.two2
      rcases nf with rfl | rfl
      · cases d with
        | int a =>
          cases e with
          | int b => cases hd.intR; cases he.intR; exact call_min2 hc pins s σ H _ us Q I r ⟨a, b, rfl, h.ok _ _ (.refl _) (.int _)⟩
          | _ => exact stuck rfl
        | _ => exact stuck rfl
      · cases d with
        | int a =>
          cases e with
          | int b => cases hd.intR; cases he.intR; exact call_max2 hc pins s σ H _ us Q I r ⟨a, b, rfl, h.ok _ _ (.refl _) (.int _)⟩
          | _ => exact stuck rfl
        | _ => exact stuck rfl
    · exact stuck (one rfl nf)
  | [d], hx =>
    obtain ⟨x, rfl, hd⟩ := hx.one1
    cases f with
    | len =>
      cases d with
      | str z => cases hd.strR; obtain ⟨g, h⟩ := PO'.grd h; exact call_len pins s σ H _ us Q I r ⟨_, _, rfl, ⟨szOk_le g, rfl⟩, h.ok _ _ (.refl _) (.int _)⟩
      | tup ds =>
        obtain ⟨a, ys, rfl, q, m⟩ := hd.tupR
        exact call_len pins s σ H _ us Q I r ⟨_, ds.length, rfl, .inr ⟨ys, q, m.length.symm⟩, h.ok _ _ (.refl _) (.int _)⟩
      | lst o ds =>
        obtain ⟨a, ys, rfl, q, m⟩ := hd.lstR
        exact call_len pins s σ H _ us Q I r ⟨_, ds.length, rfl, .inl ⟨ys, q, m.length.symm⟩, h.ok _ _ (.refl _) (.int _)⟩
      | _ => exact stuck rfl
    | sum => cases d <;> exact stuck rfl
    | all =>
      cases d with
      | lst o ds =>
        obtain ⟨a, ys, rfl, q, m⟩ := hd.lstR
        have h' : PO' ex (match asBls ds with | some bs => .ok (.bl (bs.all id)) | none => stk) (Kk X.K S H Q) := h
        cases z : asBls ds with
        | none => rw [z] at h'; exact h'.no.elim
        | some ns =>
          rw [z] at h'
          rw [asBls_map z] at m
          rw [m.bls] at q
          exact call_allL hc pins s σ H _ us Q I r ⟨a, ns, rfl, q, h'.ok _ _ (.refl _) (.bl _)⟩
      | _ => exact stuck rfl
    | any =>
      cases d with
      | lst o ds =>
        obtain ⟨a, ys, rfl, q, m⟩ := hd.lstR
        have h' : PO' ex (match asBls ds with | some bs => .ok (.bl (bs.any id)) | none => stk) (Kk X.K S H Q) := h
        cases z : asBls ds with
        | none => rw [z] at h'; exact h'.no.elim
        | some ns =>
          rw [z] at h'
          rw [asBls_map z] at m
          rw [m.bls] at q
          exact call_anyL hc pins s σ H _ us Q I r ⟨a, ns, rfl, q, h'.ok _ _ (.refl _) (.bl _)⟩
      | _ => exact stuck rfl
    | ord => cases d <;> exact stuck rfl
    | int =>
      cases d with
      | str z =>
        cases hd.strR
        have h' : PO' ex (match intText? z with | some n => grd (decide (z.length ≤ 640)) (.ok (.int n)) | none => stk) (Kk X.K S H Q) := h
        cases w : intText? z with
        | none => rw [w] at h'; exact h'.no.elim
        | some n =>
          rw [w] at h'
          obtain ⟨g, h'⟩ := PO'.grd h'
          exact call_int_txt pins s σ H _ us Q I r ⟨z, n, rfl, of_decide_eq_true g, w, h'.ok _ _ (.refl _) (.int _)⟩
      | int i => cases hd.intR; exact call_int1 pins s σ H _ us Q I r (.inl ⟨i, rfl, h.ok _ _ (.refl _) (.int _)⟩)
      | bl i => cases hd.blR; exact call_int1 pins s σ H _ us Q I r (.inr ⟨i, rfl, h.ok _ _ (.refl _) (.int _)⟩)
      | _ => exact stuck rfl
    | list =>
      cases d with
      | tup ds =>
        obtain ⟨a, ys, rfl, q, m⟩ := hd.tupR
        exact call_list_of pins s σ H _ us Q I r ⟨a, ys, rfl, .inr q, fun p hp => h.ok _ _ (.upd hp) (newL hp m)⟩
      | lst o ds =>
        obtain ⟨a, ys, rfl, q, m⟩ := hd.lstR
        exact call_list_of pins s σ H _ us Q I r ⟨a, ys, rfl, .inl q, fun p hp => h.ok _ _ (.upd hp) (newL hp m)⟩
      | str z =>
        cases hd.strR
        obtain ⟨g, h⟩ := PO'.grd h
        exact call_list_txt hc pins s σ H _ us Q I r ⟨z, rfl, szOk_le g, fun p hp => h.ok _ _ (.upd hp) (newL hp (chars_rep z))⟩
      | _ => exact stuck rfl
    | abs =>
      cases d with
      | int i => cases hd.intR; exact call_abs pins s σ H _ us Q I r ⟨i, rfl, h.ok _ _ (.refl _) (.int _)⟩
      | _ => exact stuck rfl
    | min2 => cases d <;> exact stuck rfl
    | max2 => cases d <;> exact stuck rfl
    | sorted => cases d <;> exact stuck rfl
    | tuple => exact stuck rfl
    | str =>
      cases d with
      | int i => cases hd.intR; obtain ⟨g, h⟩ := PO'.grd h; exact call_str_int pins s σ H _ us Q I r ⟨i, rfl, of_decide_eq_true g, h.ok _ _ (.refl _) (.str _)⟩
      | _ => exact stuck rfl
    | set => exact stuck rfl
noncomputable def kdName : Kd → Str
  | .str => "str" | .int => "int" | .bool => "bool" | .list => "list" | .tuple => "tuple"
noncomputable def kdTy : Kd → Value
  | .str => .type "str" | .int => .type "int" | .bool => .type "bool" | .list => .type "list" | .tuple => .type "tuple"
theorem kd_boot (k : Kd) : bootBuiltins (kdName k) = some (kdTy k) := by cases k <;> decide +kernel
noncomputable def dTy : D → Value
  | .non => .type "NoneType" | .bl _ => .type "bool" | .int _ => .type "int" | .str _ => .type "str" | .tup _ => .type "tuple" | .lst _ _ => .type "list"
theorem kit_dTy (K : PySem.W.Frag) (k : Kd) (d : D) : PySem.W.kitOne K (dTy d) (kdTy k) = some (isiD k d) := by
  cases k <;> cases d <;> rfl
theorem isiD_ok {pins : List (Addr × Obj)} {s : Shared} {σ : St} {H : Hp} {S : Addr → Prop} {x : V} {v : Value} {d : D} {Q : VK} (I : Inv X pins σ H s) (rx : RelV x v) (hx : HRep X.K S H x d) (k : Kd) (h : Q (.bl (isiD k d)) H) :
    wpAny (model X.prog X.w) X.A (call (.builtin "isinstance") [v, kdTy k]) (EP X pins σ Q) X.xe s := by
  have e := kit_dTy X.K k d
  have fin : ∀ tk, EP X pins σ Q (.bool (isiD k d)) { s with toks := tk } := fun tk => ⟨.bl _, H, I.tok _, rfl, h⟩
  cases d with
  | non => cases hx.nonR; cases rx; exact PySem.W.kia_one PySem.W.kitx_none I.kIn True.intro e (fun z => nomatch z) fin
  | bl b => cases hx.blR; cases rx; exact PySem.W.kia_one PySem.W.kitx_bool I.kIn True.intro e (fun z => nomatch z) fin
  | int b => cases hx.intR; obtain ⟨t, rfl⟩ := rx; exact PySem.W.kia_one PySem.W.kitx_int I.kIn True.intro e (fun z => nomatch z) fin
  | str b => cases hx.strR; obtain ⟨t, rfl⟩ := rx; exact PySem.W.kia_one PySem.W.kitx_str I.kIn True.intro e (fun z => nomatch z) fin
  | tup ds =>
    obtain ⟨a, ys, rfl, q, m⟩ := hx.tupR
    cases rx
    obtain ⟨its, _, ⟨o, h1, h2, _⟩, _⟩ := I.tuple q
    exact PySem.W.kia_one PySem.W.kitx_tuple I.kIn ⟨o, h1, h2⟩ e (fun z => nomatch z) fin
  | lst o ds =>
    obtain ⟨a, ys, rfl, q, m⟩ := hx.lstR
    cases rx
    obtain ⟨its, _, pl, _⟩ := I.list q
    obtain ⟨o, h1, h2, _⟩ := pl.isList
    exact PySem.W.kia_one PySem.W.kitx_list I.kIn ⟨o, h1, h2⟩ e (fun z => nomatch z) fin
noncomputable def mtName : Mt → Str
  | .join => "join" | .split => "split" | .starts => "startswith"
noncomputable def mtId : Mt → String
  | .join => "str.join" | .split => "str.split" | .starts => "str.startswith"
noncomputable def rMt (K : PySem.W.Frag) (ex : Str → Prop) (m : Mt) : V → List V → Hp → VK → Prop := fun x xs H Q => ∃ S d ds, HRep K S H x d ∧ HReps K S H xs ds ∧ PO' ex (opMt m d ds) (Kk K S H Q)
theorem opMt_str {m : Mt} {d : D} {ds : List D} {k : D → Prop} (h : PO' ex (opMt m d ds) k) : ∃ x, d = .str x := by
  cases m <;> cases d <;> first | exact ⟨_, rfl⟩ | exact h.no.elim
theorem opMt_ok (hc : X.calm = true) (m : Mt) : MtR X (mtId m) (rMt X.K ex m) := by
  intro pins s σ H x xs v us Q I rx rs h
  obtain ⟨S, d, ds, hx, hs, h⟩ := h
  obtain ⟨z, rfl⟩ := opMt_str h
  cases hx.strR
  obtain ⟨t, rfl⟩ := rx
  have stuck : ∀ {P : Prop}, opMt m (.str z) ds = stk → P := fun z => by rw [z] at h; exact h.no.elim
  match ds, hs with
  | [], _ => cases m <;> exact stuck rfl
  | d :: e :: r, _ => cases m <;> cases d <;> exact stuck rfl
  | [d], hs =>
    obtain ⟨y, rfl, hd⟩ := hs.one1
    obtain ⟨u, rfl, ru⟩ := vals1 rs
    cases m with
    | join =>
      cases d with
      | lst o ds =>
        obtain ⟨a, ys, rfl, q, m⟩ := hd.lstR
        cases ru
        have h' : PO' ex (match asStrs ds with | some ys => grd (decide ((ys.map (·.length)).sum + ys.length * z.length ≤ 16777216)) (.ok (.str (Txt.join z ys))) | none => stk) (Kk X.K S H Q) := h
        cases w : asStrs ds with
        | none => rw [w] at h'; exact h'.no.elim
        | some ns =>
          rw [w] at h'
          obtain ⟨g, h'⟩ := PO'.grd h'
          rw [asStrs_map w] at m
          rw [m.strs] at q
          obtain ⟨its, rv, pl, _⟩ := I.list q
          exact join_list pl.isList (by simpa using strsAre_ofV rv) (of_decide_eq_true g) fun t' k => ⟨.str _, H, I.tok _, ⟨_, rfl⟩, h'.ok _ _ (.refl _) (.str _)⟩
      | _ => exact stuck rfl
    | split =>
      cases d with
      | str y =>
        cases hd.strR
        obtain ⟨t', rfl⟩ := ru
        obtain ⟨g, h⟩ := PO'.grd h
        have g' : y.length ≠ 0 ∧ z.length + 2 ≤ sizeLine := of_decide_eq_true g
        exact split_ok I g'.1 g'.2 fun p hp => h.ok _ _ (.upd hp) (newL hp (strs_rep _))
      | _ => exact stuck rfl
    | starts =>
      cases d with
      | str y =>
        cases hd.strR
        obtain ⟨t', rfl⟩ := ru
        exact SC.startswith ⟨.bl _, H, I, rfl, PO'.ok h _ _ (.refl _) (.bl _)⟩
      | _ => exact stuck rfl
noncomputable def Its (x : Str) : It := ⟨fun i _ => i < x.cps.size, fun i H v H' => H' = H ∧ ∃ c, x.cps[i]? = some c ∧ v = .str ⟨#[c]⟩, fun i _ => x.cps.size ≤ i⟩
theorem turn_str {P : Program} {w : World} {K : PySem.W.Frag} {tg : Expr} {it : Addr} {x : Str} {t : Tok} {ty : String} (hty : ty = "str_ascii_iterator" ∨ ty = "str_iterator")
    (W : ∀ A' : Around, A'.handled = none → Walks P w A' it [it] [it] x.cps.size (SignAt x) (fun i h => h.IsStrIter it ty x t i)) : Turn P w K tg (Its x) [it] it (fun i h => i ≤ x.cps.size ∧ h.IsStrIter it ty x t i) where
  mem := by simp
  obj := fun i h st b hb => by
    have e : b = it := by simpa using hb
    subst e
    obtain ⟨_, o, e, c, d⟩ := st
    exact ⟨o, e, fun v z => by rw [d] at z; cases z⟩
  keep := fun i h h' st k => by
    obtain ⟨l, o, e, c, d⟩ := st
    exact ⟨l, o, k it (by simp) o e, c, d⟩
  item := by
    intro X hP hw hK hc i pins s σ H E I hf st hg
    subst hP hw hK
    obtain ⟨f0, f1, f2, f3, f4, f5⟩ := hf it (by simp)
    refine (W X.A (I.ok.hd hc)).item i s _ _ hg st.2 fun v h' tk hv st' kk => ?_
    obtain ⟨c, u, hcx, rfl⟩ := hv
    have I1 : Inv X pins σ H { s with heap := h', toks := tk } := I.turned (fun b o hb e => kk b o (by simpa using hb) e) f0 f1 f3 f4 f5
    obtain ⟨o, e, cc, d⟩ := id st'
    refine ⟨_, rfl, go_of (s := { s with heap := h', toks := tk }) (n := ty) e cc d (by rcases hty with rfl | rfl <;> decide) ⟨.str ⟨#[c]⟩, H, I1, ⟨u, rfl⟩, ⟨rfl, c, hcx, rfl⟩, ⟨hg, st'⟩, fun b hb => (hf b hb).1⟩⟩
  done := by
    intro X hP hw hK hc i pins s σ H E I hf st hg
    subst hP hw hK
    obtain ⟨f0, f1, f2, f3, f4, f5⟩ := hf it (by simp)
    have e : i = x.cps.size := Nat.le_antisymm st.1 hg
    refine (W X.A (I.ok.hd hc)).done s _ _ (by rw [← e]; exact st.2) fun h' tk kk => ⟨rfl, I.turned (fun b o hb e => kk b o (by simpa using hb) e) f0 f1 f3 f4 f5⟩
  self := fun A i s Q E st h => by
    obtain ⟨_, st⟩ := st
    rcases hty with rfl | rfl
    · exact wpAny_pyIter_striter_ascii st h
    · exact wpAny_pyIter_striter_wide st h
theorem it_str {tg : Expr} {pins : List (Addr × Obj)} {s : Shared} {σ : St} {H : Hp} {x : Str} {t : Tok} {R : It → Hp → Prop} (I : Inv X pins σ H s) (q : R (Its x) H) : wpAny (model X.prog X.w) X.A (pyIter (.str x t)) (PIE X pins σ tg R) X.xe s := by
  have fin : ∀ ty, (ty = "str_ascii_iterator" ∨ ty = "str_iterator") → (∀ A' : Around, A'.handled = none → Walks X.prog X.w A' s.heap.objs.size [s.heap.objs.size] [s.heap.objs.size] x.cps.size (SignAt x) (fun i h => h.IsStrIter s.heap.objs.size ty x t i)) →
      PIE X pins σ tg R (.ref s.heap.objs.size) { s with heap := s.heap.push { cls := .type ty, data := .fields #[.str x t, .int 0 0] } } := fun ty hty W => by
    refine ⟨s.heap.objs.size, [s.heap.objs.size], _, _, H, rfl, I.kept (t' := s.toks) fun b o e => Heap.get?_push_of_some _ e, turn_str hty W, ⟨Nat.zero_le _, _, Heap.get?_push_size _ rfl, rfl, rfl⟩, fun b hb => ?_, q⟩
    have e : b = s.heap.objs.size := by simpa using hb
    subst e
    exact I.fpOk (Nat.le_refl _) (I.hok.fresh (Nat.le_refl _))
  cases ha : x.cps.all (· < 128)
  · exact wpAny_pyIter_wide ha (fin _ (.inr rfl) fun A' hA => Walks.strWide hA _ x t)
  · exact wpAny_pyIter_ascii ha (fin _ (.inl rfl) fun A' hA => Walks.strAscii hA _ x t)
end
end L2
namespace L2
open PySem PySem.Spec PyProof.Rows PySem.SeqAt
noncomputable def bnames : List Str := ["len", "sum", "min", "max", "sorted", "list", "tuple", "ord", "int", "all", "any", "str", "set", "abs", "isinstance", "range", "bool", "reversed"]
noncomputable def biNum : Bi → Nat
  | .len => 0 | .sum => 1 | .min2 => 2 | .max2 => 3 | .sorted => 4 | .list => 5 | .tuple => 6 | .ord => 7 | .int => 8 | .all => 9 | .any => 10 | .str => 11 | .set => 12 | .abs => 13
noncomputable def kdNum : Kd → Nat
  | .str => 11 | .int => 8 | .bool => 16 | .list => 5 | .tuple => 6
theorem bi_num (f : Bi) : bnames[biNum f]? = some (biName f) := by cases f <;> rfl
theorem kd_num (f : Kd) : bnames[kdNum f]? = some (kdName f) := by cases f <;> rfl
mutual
noncomputable def dbeq : D → D → Bool
  | .non, .non => true
  | .bl a, .bl b => a == b
  | .int a, .int b => a == b
  | .str a, .str b => a == b
  | .tup a, .tup b => dbeqs a b
  | .lst o a, .lst o' b => o == o' && dbeqs a b
  | _, _ => false
noncomputable def dbeqs : List D → List D → Bool
  | [], [] => true
  | a :: r, b :: s => dbeq a b && dbeqs r s
  | _, _ => false
end
mutual
theorem dbeq_eq : ∀ {a b : D}, dbeq a b = true → a = b
  | .non, b, h => by cases b <;> first | rfl | cases h
  | .bl a, b, h => by cases b <;> first | (rw [eq_of_beq (show (a == _) = true from h)]) | cases h
  | .int a, b, h => by cases b <;> first | (rw [eq_of_beq (show (a == _) = true from h)]) | cases h
  | .str a, b, h => by cases b <;> first | (rw [eq_of_beq (show (a == _) = true from h)]) | cases h
  | .tup a, b, h => by
    cases b with
    | tup b => rw [dbeqs_eq (show dbeqs a b = true from h)]
    | _ => cases h
  | .lst o a, b, h => by
    cases b with
    | lst o' b =>
      have h' : (o == o' && dbeqs a b) = true := h
      rw [Bool.and_eq_true] at h'
      rw [eq_of_beq h'.1, dbeqs_eq h'.2]
    | _ => cases h
theorem dbeqs_eq : ∀ {a b : List D}, dbeqs a b = true → a = b
  | [], b, h => by cases b <;> first | rfl | cases h
  | a :: r, b, h => by
    cases b with
    | nil => cases h
    | cons b s =>
      have h' : (dbeq a b && dbeqs r s) = true := h
      rw [Bool.and_eq_true] at h'
      rw [dbeq_eq h'.1, dbeqs_eq h'.2]
end
structure Sg where
  nm : List Str
  kst : List (Nat × D)
  fns : List Nat
noncomputable def Sg.name (Z : Sg) (n : Nat) : Option Str := (bnames ++ Z.nm)[n]?
noncomputable def notStar : Expr → Bool
  | .Starred .. => false
  | _ => true
noncomputable def notSlice : Expr → Bool
  | .Slice .. => false
  | _ => true
noncomputable def notCall0 : Expr → Bool
  | .Call _ [] [] _ => false
  | _ => true
noncomputable def chkV (G : Gm) (i : Nat) (x : Str) : Bool := G.N[i]? == some x && (G.kd[i]? == some .local || G.kd[i]? == some .cell || G.kd[i]? == some .free)
noncomputable def chkG (Z : Sg) (G : Gm) (n : Nat) (x : Str) : Bool := Z.name n == some x && G.gl.contains n
noncomputable def chkC : D → Const → Bool
  | .int i, .int j => i == j
  | .str x, .str y => x == y
  | .bl a, .bool b => a == b
  | .non, .none => true
  | _, _ => false
mutual
noncomputable def chkT (G : Gm) : Tg → Expr → Bool
  | .nm i, .Name x _ => G.N[i]? == some x && (G.kd[i]? == some .local || (G.df && G.kd[i]? == some .cell))
  | .tp ts, .Tuple es _ _ => chkTs G ts es
  | _, _ => false
noncomputable def chkTs (G : Gm) : List Tg → List Expr → Bool
  | [], [] => true
  | t :: ts, e :: es => notStar e && chkT G t e && chkTs G ts es
  | _, _ => false
end
mutual
noncomputable def tgs : Tg → List Nat
  | .nm i => [i]
  | .tp ts => tgss ts
noncomputable def tgss : List Tg → List Nat
  | [] => []
  | t :: ts => tgs t ++ tgss ts
end
noncomputable def chkScope (Z : Sg) (G : Gm) (scope : Scope) (G' : Gm) (fr : List Nat) : Bool :=
  scope.kind == .function && !G'.df && G'.kd.length == G'.N.length
  && scope.names.all (fun y => y.2 != .cell) && scope.names.all (fun y => y.2 != .local || scope.names.lookup y.1 == some .local)
  && scope.names.all (fun y => y.2 != .free || (List.range G.N.length).any fun i => G.N[i]? == some y.1 && (G.kd[i]? == some .cell || G.kd[i]? == some .free))
  && (List.range fr.length).all (fun j => G'.N[j]? == (fr[j]?).bind (G.N[·]?) && ((G'.N[j]?).bind (scope.names.lookup ·) == some .free) && ((fr[j]?).bind (G.kd[·]?) == some .cell || (fr[j]?).bind (G.kd[·]?) == some .free)
      && (G'.kd[j]? == some (if ((fr[j]?).bind (G.kd[·]?) == some .cell) then .cell else .free)))
  && decide (fr.length ≤ G'.N.length)
  && ((List.range G'.N.length).drop fr.length).all (fun j => (G'.N[j]?).bind (scope.names.lookup ·) == some .local && G'.kd[j]? == some .local)
  && G'.N.all (fun x => !(x == "__debug__") && !(x == "__classdict__"))
  && decide (G'.N.Nodup)
  && G'.gl.all (fun n => match Z.name n with | some x => scope.names.lookup x == some .globalImplicit | none => false)
theorem no_h {P : Prop} (h : false = true) : P := by cases h
noncomputable def gen1 : List Comprehension → (Expr → Expr → List Expr → Bool) → Bool
  | [⟨t, it, fs, 0⟩], k => k t it fs
  | _, _ => false
theorem gen1_ok {gens : List Comprehension} {k : Expr → Expr → List Expr → Bool} (h : gen1 gens k = true) : ∃ t it fs, gens = [⟨t, it, fs, 0⟩] ∧ k t it fs = true := by
  unfold gen1 at h
  split at h
  · exact ⟨_, _, _, rfl, h⟩
  · cases h
noncomputable def jnt : Expr → (Const → Expr → Bool) → Bool
  | .JoinedStr [.Constant c _ _, .FormattedValue e (-1) none _] _, k => k c e
  | _, _ => false
theorem jnt_ok {e : Expr} {k : Const → Expr → Bool} (h : jnt e k = true) : ∃ c j p e' q pos, e = .JoinedStr [.Constant c j p, .FormattedValue e' (-1) none q] pos ∧ k c e' = true := by
  unfold jnt at h
  split at h
  · exact ⟨_, _, _, _, _, _, rfl, h⟩
  · cases h
mutual
noncomputable def chk (Z : Sg) (G : Gm) : IR → Expr → Bool
  | .c d, .Constant k _ _ => chkC d k
  | .g n d, .Name x _ => chkG Z G n x && Z.kst.any fun p => p.1 == n && dbeq p.2 d
  | .v i, .Name x _ => chkV G i x
  | .bin op a b, .BinOp l o r _ => o == bop op && chk Z G a l && chk Z G b r
  | .neg a, .UnaryOp .USub e _ => chk Z G a e
  | .cmp op a b, .Compare l [o] [r] _ => o == cop op && chk Z G a l && chk Z G b r && !behindInMarks o r
  | .chain op op' a b c, .Compare l [o, o'] [m, r] _ => o == cop op && o' == cop op' && chk Z G a l && chk Z G b m && chk Z G c r && !lastMarks [o, o'] [m, r]
  | .and_ a b, .BoolOp .And [e, e'] _ => chk Z G a e && chk Z G b e'
  | .and_ a b, .BoolOp .And (e :: e' :: e'' :: rest) p => chk Z G a e && chk Z G b (.BoolOp .And (e' :: e'' :: rest) p)
  | .or_ a b, .BoolOp .Or [e, e'] _ => chk Z G a e && chk Z G b e'
  | .or_ a b, .BoolOp .Or (e :: e' :: e'' :: rest) p => chk Z G a e && chk Z G b (.BoolOp .Or (e' :: e'' :: rest) p)
  | .not_ a, .UnaryOp .Not e _ => chk Z G a e
  | .ite t a b, .IfExp c x y _ => chk Z G t c && chk Z G a x && chk Z G b y
  | .tup es, .Tuple l _ _ => chks Z G es l
  | .lst es, .List l _ => chks Z G es l
  | .sl a lo hi, .Subscript e (.Slice l h none _) _ => chk Z G a e && chkO Z G lo l && chkO Z G hi h
  | .idx a i, .Subscript e s _ => notSlice s && chk Z G a e && chk Z G i s
  | .call f es, .Call (.Name x _) args [] _ => chkG Z G f x && Z.fns.contains f && chks Z G es args
  | .bi f es, .Call (.Name x _) (a :: args) [] _ => x == biName f && G.gl.contains (biNum f) && chks Z G es (a :: args)
  | .isi a k, .Call (.Name x _) [e, .Name y _] [] _ => x == "isinstance" && G.gl.contains 14 && y == kdName k && G.gl.contains (kdNum k) && notStar e && chk Z G a e
  | .ftx x a, e => jnt e fun c e' => chkC (.str x) c && decide (x.length ≤ 1000) && chk Z G a e'
  | .mth m o es, .Call (.Attribute oe name apos) (a :: args) [] cpos => name == mtName m && notCall0 oe && apos.endLine == cpos.line && decide ((a :: args).length < 29) && chk Z G o oe && chks Z G es (a :: args)
  | .comp G' fr tg src ifs elt, .ListComp e gens scope _ => gen1 gens fun t it fs => chkScope Z G scope G' fr && chkT G' tg t && (tgs tg).all (fun i => decide (fr.length ≤ i)) && chkSr Z G src it && chks Z G' ifs fs && chk Z G' elt e
  | _, _ => false
noncomputable def chks (Z : Sg) (G : Gm) : List IR → List Expr → Bool
  | [], [] => true
  | a :: es, e :: l => notStar e && chk Z G a e && chks Z G es l
  | _, _ => false
noncomputable def chkO (Z : Sg) (G : Gm) : Option IR → Option Expr → Bool
  | none, none => true
  | some a, some e => chk Z G a e
  | _, _ => false
noncomputable def chkSr (Z : Sg) (G : Gm) : Sr → Expr → Bool
  | .rng1 n, .Call (.Name x _) [e] [] _ => x == "range" && G.gl.contains 15 && notStar e && chk Z G n e
  | .rng2 a b, .Call (.Name x _) [e, e'] [] _ => x == "range" && G.gl.contains 15 && notStar e && notStar e' && chk Z G a e && chk Z G b e'
  | .val a, e => chk Z G a e
  | _, _ => false
end
noncomputable def FOk (F : Addr → Prop) (H : Hp) : Prop := ∀ a, F a → H a ≠ none
structure Out (K : PySem.W.Frag) (F : Addr → Prop) (H : Hp) (F' : Addr → Prop) (H' : Hp) (v : V) (d : D) (fv : List Addr) : Prop where
  fok : FOk F' H'
  same : Same H H'
  rep : MRep K F' H' v d fv
  nod : fv.Nodup
  new : ∀ a ∈ fv, H a = none
  inn : ∀ a, F a → F' a
  out : ∀ a, F' a → F a ∨ H a = none
noncomputable def spF (K : PySem.W.Frag) (cl : Nat → List D → Res D) (xp : XK → Hp → Str → Prop) (f : Nat) (ps : List Str) : Sp := fun vs H Q E => vs.length = ps.length ∧ ∃ F ds, FOk F H ∧ HReps K F H vs ds ∧
  PO' (xp E H) (cl f (ers ds)) fun d => ∀ v H' F' fv, Out K F H F' H' v d fv → Q v H'
structure FnC (P : Program) (w : World) (K : PySem.W.Frag) (mg : Str → Option Value) (base : Heap) (CX : CXT) (A : Around) (cl : Nat → List D → Res D) (xp : XK → Hp → Str → Prop) (f : Nat) (x : Str) : Prop where
  ex : ∃ (k : Nat) (fa : Addr) (fd : FuncData) (ps : List Str), mg x = some (.ref fa) ∧ PySem.W.keepIn K (.ref fa) = true ∧ Binds K fd ps [] ∧ FnOk P w K mg base CX k fa fd ps (spF K cl xp f ps) ∧ Room k A ∧
    ∀ (ex : Str → Prop) ds (k : D → Prop), PO' ex (cl f ds) k → ds.length = ps.length
structure GOk (Z : Sg) (CX : CXT) (cl : Nat → List D → Res D) (xp : XK → Hp → Str → Prop) (X : Cx) (ex : Str → Prop) (G : Gm) : Prop where
  N : X.N = G.N
  nod : G.N.Nodup
  calm : X.calm = true
  fk : X.env.scope.kind = .function
  un : X.A.units + 42 < cLine
  own : PassesOwn (model X.prog X.w) X.A X.env X.xe
  kd : ∀ (i : Nat) (x : Str), G.N[i]? = some x → X.env.kindOf x = G.kd[i]?
  noD : ∀ (i : Nat) (x : Str), G.N[i]? = some x → (x == ("__debug__" : Str)) = false ∧ (x == ("__classdict__" : Str)) = false
  gl : ∀ n ∈ G.gl, ∀ x, Z.name n = some x → Gl X x
  nam : ∀ n x, Z.name n = some x → x ≠ "__name__" ∧ (x == ("__debug__" : Str)) = false
  df : G.df = true → ∀ x, X.fn x = true
  blt : ∀ (n : Nat) (x : Str), bnames[n]? = some x → X.mg x = none
  cst : ∀ n d x, (n, d) ∈ Z.kst → Z.name n = some x → ∃ u v, X.mg x = some u ∧ RelV v u ∧ ∀ S H, HRep X.K S H v d
  fns : ∀ f ∈ Z.fns, ∀ x, Z.name f = some x → FnC X.prog X.w X.K X.mg X.base CX X.A cl xp f x
  exs : ∃ E : XK, Passes CX X E ∧ ∀ c H, ex c → xp E H c
  exn : ∀ (H : Hp) (outer : List Env) (s : Shared) (e : Value) (s' : Shared), ¬ CX outer H s (fun _ _ _ => False) e s'
end L2
namespace L2
open PySem PySem.Spec PyProof.Rows PySem.SeqAt
noncomputable def Slots (K : PySem.W.Frag) (S : Addr → Prop) (H : Hp) (σ : St) (τ : Ev) (is : List Nat) : Prop := ∀ i ∈ is, ∀ d, slotD τ i = some d → ∃ v, σ[i]? = some (some v) ∧ HRep K S H v d
theorem Slots.sub {K : PySem.W.Frag} {S : Addr → Prop} {H : Hp} {σ : St} {τ : Ev} {is js : List Nat} (h : Slots K S H σ τ is) (s : ∀ i ∈ js, i ∈ is) : Slots K S H σ τ js := fun i hi d e => h i (s i hi) d e
theorem Slots.left {K : PySem.W.Frag} {S : Addr → Prop} {H : Hp} {σ : St} {τ : Ev} {is js : List Nat} (h : Slots K S H σ τ (is ++ js)) : Slots K S H σ τ is := h.sub fun _ hi => List.mem_append_left _ hi
theorem Slots.right {K : PySem.W.Frag} {S : Addr → Prop} {H : Hp} {σ : St} {τ : Ev} {is js : List Nat} (h : Slots K S H σ τ (is ++ js)) : Slots K S H σ τ js := h.sub fun _ hi => List.mem_append_right _ hi
theorem Slots.go {K : PySem.W.Frag} {S : Addr → Prop} {H H' : Hp} {σ : St} {τ : Ev} {is : List Nat} (h : Slots K S H σ τ is) (e : Same H H') : Slots K (nw S H) H' σ τ is := fun i hi d z => by
  obtain ⟨v, h1, h2⟩ := h i hi d z
  exact ⟨v, h1, h2.mono (fun _ => .inl) e⟩
noncomputable def RD (K : PySem.W.Frag) (ex : Str → Prop) (is : List Nat) (f : Ev → Res D) : TE := fun σ H Q => ∃ S τ, Slots K S H σ τ is ∧ PO' ex (f τ) (Kk K S H Q)
noncomputable def RT (K : PySem.W.Frag) (ex : Str → Prop) (is : List Nat) (f : Ev → Res Bool) : TT := fun σ H Q => ∃ S τ, Slots K S H σ τ is ∧ PO' ex (f τ) fun b => ∀ H', Same H H' → Q b H'
noncomputable def RA (K : PySem.W.Frag) (ex : Str → Prop) (is : List Nat) (f : Ev → Res (List D)) : TA := fun σ H Q => ∃ S τ, Slots K S H σ τ is ∧ PO' ex (f τ) fun ds => ∀ vs H', Same H H' → HReps K (nw S H) H' vs ds → Q vs H'
noncomputable def ROp (K : PySem.W.Frag) (ex : Str → Prop) (is : List Nat) (f : Ev → Res (Option Int)) : TO := fun σ H Q => ∃ S τ, Slots K S H σ τ is ∧ PO' ex (f τ) fun o => ∀ H', Same H H' → Q o H'
inductive Wlk (K : PySem.W.Frag) (S : Addr → Prop) (H : Hp) : It → List D → Prop where
  | lst {a : Addr} {xs : List V} {ds : List D} : S a → Rd H a (.lst xs) → HReps K S H xs ds → Wlk K S H (Itl K a) ds
  | lstK {a : Addr} {xs : List V} {ds : List D} : KL K a xs → HReps K S H xs ds → Wlk K S H (Itl K a) ds
  | tup {a : Addr} {xs : List V} {ds : List D} : SqT K H a xs → HReps K S H xs ds → Wlk K S H (Itt K a) ds
  | rng (lo hi : Int) : Wlk K S H (Itr lo (hi - lo).toNat) (rngD lo hi)
  | str (x : Str) : Wlk K S H (Its x) (charsD x)
noncomputable def RI (K : PySem.W.Frag) (ex : Str → Prop) (is : List Nat) (f : Ev → Res (List D)) : TI := fun σ H R => ∃ S τ, Slots K S H σ τ is ∧ PO' ex (f τ) fun ds => ∀ J H', Same H H' → Wlk K (nw S H) H' J ds → R J H'
theorem nw_nw {S : Addr → Prop} {H H1 : Hp} (e : Same H H1) : ∀ a, nw (nw S H) H1 a → nw S H a := fun a h => by
  rcases h with h | h
  · exact h
  · exact .inr (e.free h)
section
variable {Z : Sg} {CX : CXT} {cl : Nat → List D → Res D} {xp : XK → Hp → Str → Prop} {X : Cx} {ex : Str → Prop} {G : Gm}
theorem Kk.fit {K : PySem.W.Frag} {S : Addr → Prop} {H H1 : Hp} {Q : VK} {d : D} (e : Same H H1) (h : Kk K S H Q d) : Kk K (nw S H) H1 Q d := fun w H' e' m => h w H' (e.trans e') (m.mono (nw_nw e) (.refl _))
theorem gl_of (g : GOk Z CX cl xp X ex G) {n : Nat} {x : Str} (h : chkG Z G n x = true) : Gl X x ∧ Z.name n = some x ∧ x ≠ "__name__" ∧ (x == ("__debug__" : Str)) = false := by
  unfold chkG at h
  rw [Bool.and_eq_true] at h
  have e : Z.name n = some x := eq_of_beq h.1
  exact ⟨g.gl n (by simpa using h.2) x e, e, g.nam n x e⟩
theorem bname (Z : Sg) {n : Nat} {x : Str} (h : bnames[n]? = some x) : Z.name n = some x := by
  unfold Sg.name
  rw [List.getElem?_append_left (List.getElem?_eq_some_iff.mp h).1]
  exact h
theorem gb_of (g : GOk Z CX cl xp X ex G) {n : Nat} {x : Str} (h : bnames[n]? = some x) (hc : G.gl.contains n = true) : Gl X x ∧ X.mg x = none ∧ x ≠ "__name__" ∧ (x == ("__debug__" : Str)) = false :=
  ⟨g.gl n (by simpa using hc) x (bname Z h), g.blt n x h, g.nam n x (bname Z h)⟩
theorem star_cons {e : Expr} (h : notStar e = true) (es : List Expr) (env : Env) : starEach (e :: es) env = (false, eval e env) :: starEach es env := by
  cases e <;> first | rfl | cases h
theorem star_none (Z : Sg) (G : Gm) : ∀ {es : List IR} {l : List Expr} (p : Pos) (env : Env), chks Z G es l = true → (backTo p (starEach l env)).any (·.1) = false
  | [], [], _, _, _ => rfl
  | a :: es, e :: l, p, env, h => by
    have h' : (notStar e && chk Z G a e && chks Z G es l) = true := h
    simp only [Bool.and_eq_true] at h'
    rw [star_cons h'.1.1]
    have ih := star_none Z G (es := es) (l := l) p env h'.2
    show (false || (backTo p (starEach l env)).any (·.1)) = false
    rw [ih]
    rfl
  | [], _ :: _, _, _, h => by cases h
  | _ :: _, [], _, _, h => by cases h
theorem rd_c {d : D} {v : V} (h : ∀ S H, HRep X.K S H v d) {σ : St} {H : Hp} {Q : VK} {is : List Nat} (q : RD X.K ex is (fun _ => .ok d) σ H Q) : Q v H := by
  obtain ⟨S, τ, _, q⟩ := q
  exact q.ok _ _ (.refl _) (h _ _)
theorem pt_of {e : Expr} {is : List Nat} {f : Ev → Res D} (h : PE X e (RD X.K ex is f)) (he : ∀ whole, isTrue e X.env whole = (do let v ← whole; standAt e.pos; holding [v] (truthy v))) : PT X e (RT X.K ex is fun τ => bnd (f τ) truD) := by
  intro pins s σ H Q I hw
  obtain ⟨S, τ, hs, hw⟩ := hw
  refine isTrue_plain (thn (h pins s σ H (fun v H' => ∃ d, Same H H' ∧ HRep X.K (nw S H) H' v d ∧ PO' ex (truD d) fun b => ∀ H', Same H H' → Q b H') I ⟨S, τ, hs, (PO'.bnd hw).mono fun d hd v H' e m => ⟨d, e, m, hd⟩⟩) fun v s1 ⟨x, H1, I1, r1, d, e, m, hd⟩ => ?_) (he _)
  exact truD_ok I1 r1 m (hd.mono fun b z => z H1 e)
end
end L2
namespace L2
open PySem PySem.Spec PyProof.Rows PySem.SeqAt
section
variable {Z : Sg} {CX : CXT} {cl : Nat → List D → Res D} {xp : XK → Hp → Str → Prop} {X : Cx} {ex : Str → Prop} {G : Gm} {K : PySem.W.Frag} {S : Addr → Prop} {H H1 : Hp} {σ : St} {τ : Ev}
theorem rdAt {is : List Nat} {f : Ev → Res D} {Kt : D → Prop} {Q : VK} (e : Same H H1) (hs : Slots K S H σ τ is) (h : PO' ex (f τ) Kt) (k : ∀ x v H2, Same H H2 → Same H1 H2 → HRep K (nw S H) H2 v x → Kt x → Q v H2) : RD K ex is f σ H1 Q :=
  ⟨nw S H, τ, hs.go e, h.mono fun x hx v H2 e2 m => k x v H2 (e.trans e2) e2 (m.mono (nw_nw e) (.refl _)) hx⟩
theorem rtAt {is : List Nat} {f : Ev → Res Bool} {Kt : Bool → Prop} {Q : Bool → Hp → Prop} (e : Same H H1) (hs : Slots K S H σ τ is) (h : PO' ex (f τ) Kt) (k : ∀ x H2, Same H H2 → Same H1 H2 → Kt x → Q x H2) : RT K ex is f σ H1 Q :=
  ⟨nw S H, τ, hs.go e, h.mono fun x hx H2 e2 => k x H2 (e.trans e2) e2 hx⟩
theorem raAt {is : List Nat} {f : Ev → Res (List D)} {Kt : List D → Prop} {Q : List V → Hp → Prop} (e : Same H H1) (hs : Slots K S H σ τ is) (h : PO' ex (f τ) Kt) (k : ∀ x v H2, Same H H2 → Same H1 H2 → HReps K (nw S H) H2 v x → Kt x → Q v H2) : RA K ex is f σ H1 Q :=
  ⟨nw S H, τ, hs.go e, h.mono fun x hx v H2 e2 m => k x v H2 (e.trans e2) e2 (m.mono (nw_nw e) (.refl _)) hx⟩
theorem roAt {is : List Nat} {f : Ev → Res (Option Int)} {Kt : Option Int → Prop} {Q : Option Int → Hp → Prop} (e : Same H H1) (hs : Slots K S H σ τ is) (h : PO' ex (f τ) Kt) (k : ∀ x H2, Same H H2 → Same H1 H2 → Kt x → Q x H2) : ROp K ex is f σ H1 Q :=
  ⟨nw S H, τ, hs.go e, h.mono fun x hx H2 e2 => k x H2 (e.trans e2) e2 hx⟩
theorem HRep.later {v : V} {d : D} {H2 : Hp} (h : HRep K (L2.nw S H) H1 v d) (e : Same H1 H2) : HRep K (L2.nw S H) H2 v d := h.mono (fun _ z => z) e
theorem HReps.later {v : List V} {d : List D} {H2 : Hp} (h : HReps K (L2.nw S H) H1 v d) (e : Same H1 H2) : HReps K (L2.nw S H) H2 v d := h.mono (fun _ z => z) e
theorem Kk.at {Q : VK} {d : D} {v : V} (h : Kk K S H Q d) (e : Same H H1) (m : HRep K (nw S H) H1 v d) : Q v H1 := h v H1 e m
theorem s_v (g : GOk Z CX cl xp X ex G) {i : Nat} {x : Str} {pos : Pos} (h : chkV G i x = true) : PE X (.Name x pos) (RD X.K ex [i] (evR cl (.v i))) := by
  unfold chkV at h
  rw [Bool.and_eq_true] at h
  have hx : G.N[i]? = some x := eq_of_beq h.1
  have hk := g.kd i x hx
  have hv : Vis X.env.scope x := by
    have h2 := h.2
    rw [Bool.or_eq_true, Bool.or_eq_true] at h2
    rcases h2 with (h2 | h2) | h2
    · exact .inl (hk.trans (eq_of_beq h2))
    · exact .inr (.inl (hk.trans (eq_of_beq h2)))
    · exact .inr (.inr (hk.trans (eq_of_beq h2)))
  refine peMono (pe_var (i := i) (by rw [g.N]; exact hx) hv (g.noD i x hx).1 (g.noD i x hx).2) fun σ H Q q => ?_
  obtain ⟨S, τ, hs, q⟩ := q
  rw [evR_v] at q
  cases z : slotD τ i with
  | none => rw [z] at q; exact q.no.elim
  | some d =>
    rw [z] at q
    obtain ⟨v, h1, h2⟩ := hs i (by simp) d z
    exact ⟨v, h1, q.ok _ _ (.refl _) h2.nw⟩
theorem s_c {d : D} {k : Const} {j : Nat} {pos : Pos} (h : chkC d k = true) : PE X (.Constant k j pos) (RD X.K ex [] (evR cl (.c d))) := by
  cases d with
  | non =>
    cases k with
    | none => exact peMono pe_non fun σ H Q q => rd_c (fun _ _ => .non) q
    | _ => cases h
  | bl b =>
    cases k with
    | bool b' =>
      have e : b = b' := eq_of_beq h
      subst e
      exact peMono pe_bl fun σ H Q q => rd_c (fun _ _ => .bl _) q
    | _ => cases h
  | int b =>
    cases k with
    | int b' =>
      have e : b = b' := eq_of_beq h
      subst e
      exact peMono pe_int fun σ H Q q => rd_c (fun _ _ => .int _) q
    | _ => cases h
  | str b =>
    cases k with
    | str b' =>
      have e : b = b' := eq_of_beq h
      subst e
      exact peMono pe_str fun σ H Q q => rd_c (fun _ _ => .str _) q
    | _ => cases h
  | tup _ => cases k <;> cases h
  | lst _ _ => cases k <;> cases h
theorem s_g (g : GOk Z CX cl xp X ex G) {n : Nat} {d : D} {x : Str} {pos : Pos} (h : chkG Z G n x = true) (hk : Z.kst.any (fun p => p.1 == n && dbeq p.2 d) = true) : PE X (.Name x pos) (RD X.K ex [] (evR cl (.g n d))) := by
  obtain ⟨h1, h2, h3, h4⟩ := gl_of g h
  rw [List.any_eq_true] at hk
  obtain ⟨⟨m, d'⟩, hm, hk⟩ := hk
  rw [Bool.and_eq_true] at hk
  have e1 : m = n := eq_of_beq hk.1
  have e2 : d' = d := dbeq_eq hk.2
  subst e1 e2
  obtain ⟨u, v, hu, r, hr⟩ := g.cst m d' x hm h2
  exact peMono (pe_glob h1 hu r h4) fun σ H Q q => rd_c hr q
theorem s_bin {op : BOp} {a b : Expr} {pos : Pos} {va vb : List Nat} {fa fb : Ev → Res D} (ha : PE X a (RD X.K ex va fa)) (hb : PE X b (RD X.K ex vb fb)) :
    PE X (.BinOp a (bop op) b pos) (RD X.K ex (va ++ vb) fun τ => bnd (fa τ) fun x => bnd (fb τ) fun y => opB op x y) := by
  refine peMono (pe_op (opB_ok (ex := ex) op) ha hb) fun σ H Q ⟨S, τ, hs, q⟩ => ?_
  refine rdAt (.refl _) hs.left (PO'.bnd q) fun x v H1 e1 _ m1 q1 => ?_
  refine rdAt e1 hs.right (PO'.bnd q1) fun y w H2 e2 e2' m2 q2 => ?_
  exact ⟨nw S H, x, y, m1.later e2', m2, q2.mono fun d hd => hd.fit e2⟩
theorem s_neg {a : Expr} {pos : Pos} {va : List Nat} {fa : Ev → Res D} (ha : PE X a (RD X.K ex va fa)) :
    PE X (.UnaryOp .USub a pos) (RD X.K ex va fun τ => bnd (fa τ) fun | .int i => .ok (.int (-i)) | _ => stk) := by
  refine peMono (pe_un un_neg ha) fun σ H Q ⟨S, τ, hs, q⟩ => ?_
  refine rdAt (.refl _) hs (PO'.bnd q) fun x v H1 e1 _ m1 q1 => ?_
  cases x with
  | int i => cases m1.intR; exact ⟨i, rfl, q1.ok _ _ e1 (.int _)⟩
  | _ => exact q1.no.elim
theorem s_cmp (g : GOk Z CX cl xp X ex G) {op : COp} {a b : Expr} {pos : Pos} {va vb : List Nat} {fa fb : Ev → Res D} (ha : PE X a (RD X.K ex va fa)) (hb : PE X b (RD X.K ex vb fb)) (hm : behindInMarks (cop op) b = false) :
    PE X (.Compare a [cop op] [b] pos) (RD X.K ex (va ++ vb) fun τ => bnd (fa τ) fun x => bnd (fb τ) fun y => bnd (opC op x y) fun r => .ok (.bl r)) ∧
    PT X (.Compare a [cop op] [b] pos) (RT X.K ex (va ++ vb) fun τ => bnd (bnd (fa τ) fun x => bnd (fb τ) fun y => bnd (opC op x y) fun r => .ok (.bl r)) truD) := by
  refine ⟨peMono (pe_cmpR (opC_ok (ex := ex) g.un op) ha hb hm) fun σ H Q ⟨S, τ, hs, q⟩ => ?_, ptMono (pt_cmpR (opC_ok (ex := ex) g.un op) ha hb hm) fun σ H Q ⟨S, τ, hs, q⟩ => ?_⟩
  · refine rdAt (.refl _) hs.left (PO'.bnd q) fun x v H1 e1 _ m1 q1 => ?_
    refine rdAt e1 hs.right (PO'.bnd q1) fun y w H2 e2 e2' m2 q2 => ?_
    exact ⟨nw S H, x, y, m1.later e2', m2, (PO'.bnd q2).mono fun d hd => hd.ok _ _ e2 (.bl _)⟩
  · refine rdAt (.refl _) hs.left (PO'.bnd (PO'.bnd q)) fun x v H1 e1 _ m1 q1 => ?_
    refine rdAt e1 hs.right (PO'.bnd q1) fun y w H2 e2 e2' m2 q2 => ?_
    exact ⟨nw S H, x, y, m1.later e2', m2, (PO'.bnd q2).mono fun d hd => ⟨d, rfl, hd.ok.ok H2 e2⟩⟩
theorem s_chain (g : GOk Z CX cl xp X ex G) {op op' : COp} {a b c : Expr} {pos : Pos} {va vb vc : List Nat} {fa fb fc : Ev → Res D} (ha : PE X a (RD X.K ex va fa)) (hb : PE X b (RD X.K ex vb fb)) (hc : PE X c (RD X.K ex vc fc))
    (hm : lastMarks [cop op, cop op'] [b, c] = false) :
    PE X (.Compare a [cop op, cop op'] [b, c] pos) (RD X.K ex (va ++ vb ++ vc) fun τ => bnd (fa τ) fun x => bnd (fb τ) fun y => bnd (opC op x y) fun r => if r = true then bnd (fc τ) fun z => bnd (opC op' y z) fun r' => .ok (.bl r') else .ok (.bl false)) ∧
    PT X (.Compare a [cop op, cop op'] [b, c] pos) (RT X.K ex (va ++ vb ++ vc) fun τ => bnd (bnd (fa τ) fun x => bnd (fb τ) fun y => bnd (opC op x y) fun r => if r = true then bnd (fc τ) fun z => bnd (opC op' y z) fun r' => .ok (.bl r') else .ok (.bl false)) truD) := by
  refine ⟨peMono (pe_chain (opC_ok (ex := ex) g.un op) (opC_ok (ex := ex) g.un op') ha hb hc hm) fun σ H Q ⟨S, τ, hs, q⟩ => ?_, ptMono (pt_chain (opC_ok (ex := ex) g.un op) (opC_ok (ex := ex) g.un op') ha hb hc hm) fun σ H Q ⟨S, τ, hs, q⟩ => ?_⟩
  · refine rdAt (.refl _) hs.left.left (PO'.bnd q) fun x v H1 e1 _ m1 q1 => ?_
    refine rdAt e1 hs.left.right (PO'.bnd q1) fun y w H2 e2 e2' m2 q2 => ?_
    refine ⟨nw S H, x, y, m1.later e2', m2, (PO'.bnd q2).mono fun d hd => ⟨d, rfl, ?_⟩⟩
    cases d with
    | false => rw [if_neg Bool.false_ne_true] at hd ⊢; exact hd.ok _ _ e2 (.bl _)
    | true =>
      rw [if_pos rfl] at hd ⊢
      refine rdAt e2 hs.right (PO'.bnd hd) fun z w' H3 e3 e3' m3 q3 => ?_
      exact ⟨nw S H, y, z, m2.later e3', m3, (PO'.bnd q3).mono fun d hd => hd.ok _ _ e3 (.bl _)⟩
  · refine rdAt (.refl _) hs.left.left (PO'.bnd (PO'.bnd q)) fun x v H1 e1 _ m1 q1 => ?_
    refine rdAt e1 hs.left.right (PO'.bnd q1) fun y w H2 e2 e2' m2 q2 => ?_
    refine ⟨nw S H, x, y, m1.later e2', m2, (PO'.bnd q2).mono fun d hd => ⟨d, rfl, ?_⟩⟩
    cases d with
    | false => rw [if_neg Bool.false_ne_true] at hd ⊢; exact ⟨false, rfl, hd.ok.ok _ e2⟩
    | true =>
      rw [if_pos rfl] at hd ⊢
      refine rdAt e2 hs.right (PO'.bnd hd) fun z w' H3 e3 e3' m3 q3 => ?_
      exact ⟨nw S H, y, z, m2.later e3', m3, (PO'.bnd q3).mono fun d hd => ⟨d, rfl, hd.ok.ok _ e3⟩⟩
theorem s_and {a b : Expr} {rest : List Expr} {pos : Pos} {va vb : List Nat} {fa fb : Ev → Res D} (ha : PE X a (RD X.K ex va fa)) (hb : PE X (.BoolOp .And (b :: rest) pos) (RD X.K ex vb fb)) :
    PE X (.BoolOp .And (a :: b :: rest) pos) (RD X.K ex (va ++ vb) fun τ => bnd (fa τ) fun x => bnd (truD x) fun r => if r = true then fb τ else .ok x) := by
  intro pins s σ H Q I h
  obtain ⟨S, τ, hs, q⟩ := h
  refine BoolOp_and (thn (ha pins s σ H (fun v H' => ∃ d, Same H H' ∧ HRep X.K (nw S H) H' v d ∧ _) I (rdAt (.refl _) hs.left (PO'.bnd q) fun x v H1 e1 _ m1 q1 => ⟨x, e1, m1, q1⟩)) fun v s1 ⟨x, H1, I1, r1, d, e1, m1, q1⟩ => ?_)
  refine thn (truD_ok (Q := fun b H' => H' = H1 ∧ PO' ex (if b = true then fb τ else .ok d) (Kk X.K S H Q)) I1 r1 m1 ((PO'.bnd q1).mono fun b z => ⟨rfl, z⟩)) fun c s2 ⟨H2, I2, e2, q2⟩ => ?_
  subst e2
  cases c with
  | true =>
    rw [if_pos rfl] at q2 ⊢
    exact hb pins s2 σ _ Q I2 (rdAt e1 hs.right q2 fun y w H3 e3 _ m3 q3 => q3 _ _ e3 m3)
  | false =>
    rw [if_neg Bool.false_ne_true] at q2 ⊢
    exact ⟨x, _, I2, r1, q2.ok _ _ e1 m1⟩
theorem s_or {a b : Expr} {rest : List Expr} {pos : Pos} {va vb : List Nat} {fa fb : Ev → Res D} (ha : PE X a (RD X.K ex va fa)) (hb : PE X (.BoolOp .Or (b :: rest) pos) (RD X.K ex vb fb)) :
    PE X (.BoolOp .Or (a :: b :: rest) pos) (RD X.K ex (va ++ vb) fun τ => bnd (fa τ) fun x => bnd (truD x) fun r => if r = true then .ok x else fb τ) := by
  intro pins s σ H Q I h
  obtain ⟨S, τ, hs, q⟩ := h
  refine BoolOp_or (thn (ha pins s σ H (fun v H' => ∃ d, Same H H' ∧ HRep X.K (nw S H) H' v d ∧ _) I (rdAt (.refl _) hs.left (PO'.bnd q) fun x v H1 e1 _ m1 q1 => ⟨x, e1, m1, q1⟩)) fun v s1 ⟨x, H1, I1, r1, d, e1, m1, q1⟩ => ?_)
  refine thn (truD_ok (Q := fun b H' => H' = H1 ∧ PO' ex (if b = true then .ok d else fb τ) (Kk X.K S H Q)) I1 r1 m1 ((PO'.bnd q1).mono fun b z => ⟨rfl, z⟩)) fun c s2 ⟨H2, I2, e2, q2⟩ => ?_
  subst e2
  cases c with
  | false =>
    rw [if_neg Bool.false_ne_true] at q2 ⊢
    exact hb pins s2 σ _ Q I2 (rdAt e1 hs.right q2 fun y w H3 e3 _ m3 q3 => q3 _ _ e3 m3)
  | true =>
    rw [if_pos rfl] at q2 ⊢
    exact ⟨x, _, I2, r1, q2.ok _ _ e1 m1⟩
theorem s_not {a : Expr} {pos : Pos} {va : List Nat} {fa : Ev → Res D} (ha : PE X a (RD X.K ex va fa)) (ht : PT X a (RT X.K ex va fun τ => bnd (fa τ) truD)) :
    PE X (.UnaryOp .Not a pos) (RD X.K ex va fun τ => bnd (fa τ) fun x => bnd (truD x) fun r => .ok (.bl !r)) ∧ PT X (.UnaryOp .Not a pos) (RT X.K ex va fun τ => bnd (bnd (fa τ) fun x => bnd (truD x) fun r => .ok (.bl !r)) truD) := by
  constructor
  · intro pins s σ H Q I h
    obtain ⟨S, τ, hs, q⟩ := h
    refine UnaryOp_ (thn (ha pins s σ H (fun v H' => ∃ d, Same H H' ∧ HRep X.K (nw S H) H' v d ∧ _) I (rdAt (.refl _) hs (PO'.bnd q) fun x v H1 e1 _ m1 q1 => ⟨x, e1, m1, q1⟩)) fun v s1 ⟨x, H1, I1, r1, d, e1, m1, q1⟩ => ?_)
    refine not_of (thn (truD_ok (Q := fun b H' => Q (.bl !b) H') I1 r1 m1 ((PO'.bnd q1).mono fun b z => z.ok _ _ e1 (.bl _))) fun c s2 ⟨H2, I2, q2⟩ => ⟨.bl !c, H2, I2, rfl, q2⟩)
  · refine ptMono (pt_not ht) fun σ H Q ⟨S, τ, hs, q⟩ => ?_
    exact rtAt (.refl _) hs (PO'.mk ((PO'.bnd (PO'.bnd q)).mono fun x hx => (PO'.bnd hx).mono fun r hr => hr.ok.ok)) fun x H2 e2 _ k => k H2 e2
theorem pt_any {e : Expr} {pos : Pos} {op : BoolOp} {es : List Expr} {t : TT} (h : PT X (.BoolOp op es pos) t) : PW X (.BoolOp op es pos) t := fun _ pins s σ H Q I q => h pins s σ H Q I q
theorem t_and {a b : Expr} {rest : List Expr} {pos : Pos} {va vb : List Nat} {fa fb : Ev → Res D} (ha : PT X a (RT X.K ex va fun τ => bnd (fa τ) truD)) (hb : PW X (.BoolOp .And (b :: rest) pos) (RT X.K ex vb fun τ => bnd (fb τ) truD)) :
    PT X (.BoolOp .And (a :: b :: rest) pos) (RT X.K ex (va ++ vb) fun τ => bnd (bnd (fa τ) fun x => bnd (truD x) fun r => if r = true then fb τ else .ok x) truD) := by
  refine ptMono (pw_and ha hb).pt fun σ H Q ⟨S, τ, hs, q⟩ => ?_
  refine rtAt (.refl _) hs.left (Kt := fun r => PO' ex (if r = true then bnd (fb τ) truD else .ok false) fun b => ∀ H', Same H H' → Q b H') (PO'.mk ((PO'.bnd (PO'.bnd q)).mono fun x hx => (PO'.bnd hx).eq.mono fun r hr => ?_)) fun r H2 e2 _ k => ?_
  · obtain ⟨er, hr⟩ := hr
    cases r with
    | true => rw [if_pos rfl] at hr ⊢; exact PO'.mk hr
    | false =>
      rw [if_neg Bool.false_ne_true] at hr ⊢
      have hr' : PO' ex (truD x) _ := hr
      rw [er] at hr'
      exact hr'
  · cases r with
    | true => rw [if_pos rfl] at k ⊢; exact rtAt e2 hs.right k fun b H3 e3 _ z => z H3 e3
    | false => rw [if_neg Bool.false_ne_true] at k ⊢; exact k.ok H2 e2
theorem t_or {a b : Expr} {rest : List Expr} {pos : Pos} {va vb : List Nat} {fa fb : Ev → Res D} (ha : PT X a (RT X.K ex va fun τ => bnd (fa τ) truD)) (hb : PW X (.BoolOp .Or (b :: rest) pos) (RT X.K ex vb fun τ => bnd (fb τ) truD)) :
    PT X (.BoolOp .Or (a :: b :: rest) pos) (RT X.K ex (va ++ vb) fun τ => bnd (bnd (fa τ) fun x => bnd (truD x) fun r => if r = true then .ok x else fb τ) truD) := by
  refine ptMono (pw_or ha hb).pt fun σ H Q ⟨S, τ, hs, q⟩ => ?_
  refine rtAt (.refl _) hs.left (Kt := fun r => PO' ex (if r = true then .ok true else bnd (fb τ) truD) fun b => ∀ H', Same H H' → Q b H') (PO'.mk ((PO'.bnd (PO'.bnd q)).mono fun x hx => (PO'.bnd hx).eq.mono fun r hr => ?_)) fun r H2 e2 _ k => ?_
  · obtain ⟨er, hr⟩ := hr
    cases r with
    | false => rw [if_neg Bool.false_ne_true] at hr ⊢; exact PO'.mk hr
    | true =>
      rw [if_pos rfl] at hr ⊢
      have hr' : PO' ex (truD x) _ := hr
      rw [er] at hr'
      exact hr'
  · cases r with
    | false => rw [if_neg Bool.false_ne_true] at k ⊢; exact rtAt e2 hs.right k fun b H3 e3 _ z => z H3 e3
    | true => rw [if_pos rfl] at k ⊢; exact k.ok H2 e2
theorem s_ite {c a b : Expr} {pos : Pos} {vc va vb : List Nat} {fc fa fb : Ev → Res D} (hc : PT X c (RT X.K ex vc fun τ => bnd (fc τ) truD)) (ha : PE X a (RD X.K ex va fa)) (hb : PE X b (RD X.K ex vb fb))
    (ta : PT X a (RT X.K ex va fun τ => bnd (fa τ) truD)) (tb : PT X b (RT X.K ex vb fun τ => bnd (fb τ) truD)) :
    PE X (.IfExp c a b pos) (RD X.K ex (vc ++ va ++ vb) fun τ => bnd (fc τ) fun x => bnd (truD x) fun r => if r = true then fa τ else fb τ) ∧
    PT X (.IfExp c a b pos) (RT X.K ex (vc ++ va ++ vb) fun τ => bnd (bnd (fc τ) fun x => bnd (truD x) fun r => if r = true then fa τ else fb τ) truD) := by
  constructor
  · refine peMono (pe_ifExp hc ha hb) fun σ H Q ⟨S, τ, hs, q⟩ => ?_
    refine rtAt (.refl _) hs.left.left (PO'.mk ((PO'.bnd q).mono fun x hx => PO'.bnd hx)) fun r H2 e2 _ k => ?_
    cases r with
    | true => rw [if_pos rfl] at k ⊢; exact rdAt e2 hs.left.right k fun y w H3 e3 _ m3 q3 => q3 _ _ e3 m3
    | false => rw [if_neg Bool.false_ne_true] at k ⊢; exact rdAt e2 hs.right k fun y w H3 e3 _ m3 q3 => q3 _ _ e3 m3
  · intro pins s σ H Q I h
    obtain ⟨S, τ, hs, q⟩ := h
    refine isTrue_IfExp (thn (hc pins s σ H (fun r H2 => Same H H2 ∧ PO' ex (if r = true then fa τ else fb τ) fun d => PO' ex (truD d) fun b => ∀ H', Same H H' → Q b H') I
      (rtAt (.refl _) hs.left.left (PO'.mk ((PO'.bnd (PO'.bnd q)).mono fun x hx => PO'.bnd hx)) fun r H2 e2 _ k => ⟨e2, k⟩)) fun d s1 ⟨H1, I1, e1, q1⟩ => ?_)
    cases d with
    | true => rw [if_pos rfl] at q1; exact ta pins s1 σ H1 Q I1 (rtAt e1 hs.left.right (PO'.mk q1) fun b H3 e3 _ z => z H3 e3)
    | false => rw [if_neg Bool.false_ne_true] at q1; exact tb pins s1 σ H1 Q I1 (rtAt e1 hs.right (PO'.mk q1) fun b H3 e3 _ z => z H3 e3)
theorem s_tup {es : List Expr} {n : Nat} {pos : Pos} {va : List Nat} {fa : Ev → Res (List D)} (h : PA X es (RA X.K ex va fa)) : PE X (.Tuple es n pos) (RD X.K ex va fun τ => bnd (fa τ) fun ds => grd (szOk ds.length) (.ok (.tup ds))) := by
  refine peMono (pe_tup h) fun σ H Q ⟨S, τ, hs, q⟩ => ?_
  refine raAt (.refl _) hs (PO'.bnd q) fun ds vs H1 e1 _ m1 q1 => ?_
  obtain ⟨g, q1⟩ := PO'.grd q1
  exact ⟨by rw [m1.length]; exact szOk_le g, fun p hp => q1.ok _ _ (e1.trans (.upd hp)) ((newT hp m1).mono (nw_nw e1) (.refl _))⟩
theorem s_lst {es : List Expr} {pos : Pos} {va : List Nat} {fa : Ev → Res (List D)} (h : PA X es (RA X.K ex va fa)) : PE X (.List es pos) (RD X.K ex va fun τ => bnd (fa τ) fun ds => grd (szOk ds.length) (.ok (.lst true ds))) := by
  refine peMono (pe_lst h) fun σ H Q ⟨S, τ, hs, q⟩ => ?_
  refine raAt (.refl _) hs (PO'.bnd q) fun ds vs H1 e1 _ m1 q1 => ?_
  obtain ⟨g, q1⟩ := PO'.grd q1
  exact ⟨by rw [m1.length]; exact szOk_le g, fun p hp => q1.ok _ _ (e1.trans (.upd hp)) ((newL hp m1).mono (nw_nw e1) (.refl _))⟩
theorem s_idx {a b : Expr} {pos : Pos} {va vb : List Nat} {fa fb : Ev → Res D} (ha : PE X a (RD X.K ex va fa)) (hb : PE X b (RD X.K ex vb fb)) (hp : notSlice b = true) :
    PE X (.Subscript a b pos) (RD X.K ex (va ++ vb) fun τ => bnd (fa τ) fun x => bnd (fb τ) fun y => opIx x y) := by
  refine peMono (pe_ix (opIx_ok (ex := ex)) ha hb fun o i => by cases b <;> first | rfl | cases hp) fun σ H Q ⟨S, τ, hs, q⟩ => ?_
  refine rdAt (.refl _) hs.left (PO'.bnd q) fun x v H1 e1 _ m1 q1 => ?_
  refine rdAt e1 hs.right (PO'.bnd q1) fun y w H2 e2 e2' m2 q2 => ?_
  exact ⟨nw S H, x, y, m1.later e2', m2, q2.mono fun d hd => hd.fit e2⟩
theorem s_sl {a : Expr} {lo hi : Option Expr} {pos p2 : Pos} {va vl vh : List Nat} {fa : Ev → Res D} {fl fh : Ev → Res (Option Int)} (ha : PE X a (RD X.K ex va fa)) (hl : PO X lo (ROp X.K ex vl fl)) (hh : PO X hi (ROp X.K ex vh fh)) :
    PE X (.Subscript a (.Slice lo hi none p2) pos) (RD X.K ex (va ++ vl ++ vh) fun τ => bnd (fa τ) fun x => bnd (fl τ) fun l => bnd (fh τ) fun h => opSl x l h) := by
  refine peMono (pe_slice (opSl_ok (ex := ex)) ha hl hh) fun σ H Q ⟨S, τ, hs, q⟩ => ?_
  refine rdAt (.refl _) hs.left.left (PO'.bnd q) fun x v H1 e1 _ m1 q1 => ?_
  refine roAt e1 hs.left.right (PO'.bnd q1) fun l H2 e2 e2' q2 => ?_
  refine roAt e2 hs.right (PO'.bnd q2) fun h H3 e3 e3' q3 => ?_
  exact ⟨nw S H, x, m1.later (e2'.trans e3'), q3.mono fun d hd => hd.fit e3⟩
theorem s_call (g : GOk Z CX cl xp X ex G) {f : Nat} {x : Str} {p pos : Pos} {es : List IR} {args : List Expr} (h1 : chkG Z G f x = true) (h2 : Z.fns.contains f = true) (hst : chks Z G es args = true) (h : PA X args (RA X.K ex (varss es) (evRs cl es))) :
    PE X (.Call (.Name x p) args [] pos) (RD X.K ex (varss es) fun τ => bnd (evRs cl es τ) fun ds => cl f (ers ds)) := by
  obtain ⟨k1, k2, k3, k4⟩ := gl_of g h1
  obtain ⟨k, fa', fd, ps, hm, hkp, hb, F, hr, hlen⟩ := (g.fns f (by simpa using h2) x k2).ex
  obtain ⟨E, hP, hE⟩ := g.exs
  intro pins s σ H Q I q
  obtain ⟨S, τ, hs, q⟩ := q
  have fin : ∀ (us : List Value) (s1 : Shared) (vs : List V) (H1 : Hp) (ds : List D), Inv X pins σ H1 s1 → Vals vs us → Same H H1 → HReps X.K (nw S H) H1 vs ds → PO' ex (cl f (ers ds)) (Kk X.K S H Q) → wpAny (model X.prog X.w) X.A (call (.ref fa') us) (EP X pins σ Q) X.xe s1 := by
    intro us s1 vs H1 ds I1 r e m q1
    refine run_fn F hr hb (.nil : Vals [] []) hP I1 r ?_
    rw [List.append_nil]
    have hl := hlen ex _ _ q1
    rw [ers_length] at hl
    refine ⟨by rw [m.length]; exact hl, fun a => nw S H a ∧ H1 a ≠ none, ds, fun a z => z.2, m.tight, ?_⟩
    cases z : cl f (ers ds) with
    | error er =>
      rw [z] at q1
      cases er with
      | stuck => exact q1.no.elim
      | exc c => exact hE c _ q1
    | ok d =>
      rw [z] at q1
      intro v H' F' fv o
      refine q1.ok _ _ (e.trans o.same) (o.rep.read (fun a ha => ?_) fun a ha => ?_)
      · rcases o.out a ha with z | z
        · exact z.1
        · exact .inr (e.free z)
      · exact .inr (e.free (o.new a ha))
  refine wpAny_Call_Name_kw (ld_glob I k1 hm ?_ k4)
  cases args with
  | nil =>
    cases es with
    | cons _ _ => cases hst
    | nil =>
      exact PySem.W.callWith_K0 I.kIn hkp (fin [] s [] H [] I .nil (.refl _) .nil q)
  | cons e l =>
    cases es with
    | nil => cases hst
    | cons a es =>
      have hst' : (notStar e && chk Z G a e && chks Z G es l) = true := hst
      simp only [Bool.and_eq_true] at hst'
      refine PySem.W.callWith_K (h₀ := X.base) I.ok.mod.kin hkp (thn (h pos pins s σ H (fun vs H1 => ∃ ds, Same H H1 ∧ HReps X.K (nw S H) H1 vs ds ∧ PO' ex (cl f (ers ds)) (Kk X.K S H Q)) I ⟨S, τ, hs, (PO'.bnd q).mono fun ds hd vs H1 e m => ⟨ds, e, m, hd⟩⟩) fun us s1 ⟨vs, H1, I1, r, ds, e, m, q1⟩ => ⟨I1.kIn, ?_⟩) (star_cons hst'.1.1 l X.env) (star_none Z G (es := es) pos X.env hst'.2)
      exact fin us s1 vs H1 ds I1 r e m q1
theorem s_bi (g : GOk Z CX cl xp X ex G) {f : Bi} {p pos : Pos} {es : List IR} {a : Expr} {args : List Expr} (hg : G.gl.contains (biNum f) = true) (hst : chks Z G es (a :: args) = true) (h : PA X (a :: args) (RA X.K ex (varss es) (evRs cl es))) :
    PE X (.Call (.Name (biName f) p) (a :: args) [] pos) (RD X.K ex (varss es) fun τ => bnd (evRs cl es τ) fun ds => opBi f ds) := by
  obtain ⟨k1, k2, k3, k4⟩ := gb_of g (bi_num f) hg
  cases es with
  | nil => cases hst
  | cons b es =>
    have hst' : (notStar a && chk Z G b a && chks Z G es args) = true := hst
    simp only [Bool.and_eq_true] at hst'
    have mono : ∀ σ H Q, RD X.K ex (varss (b :: es)) (fun τ => bnd (evRs cl (b :: es) τ) fun ds => opBi f ds) σ H Q → tCB (rBi X.K ex f) (RA X.K ex (varss (b :: es)) (evRs cl (b :: es))) σ H Q := by
      rintro σ H Q ⟨S, τ, hs, q⟩
      refine raAt (.refl _) hs (PO'.bnd q) fun ds vs H1 e1 _ m1 q1 => ?_
      exact ⟨nw S H, ds, m1, q1.mono fun d hd => hd.fit e1⟩
    refine peMono ?_ mono
    have hv := bi_boot f
    have hc := opBi_ok (X := X) (ex := ex) g.calm f
    unfold biVal at hv hc
    cases z : biTy f with
    | true =>
      rw [z, if_pos rfl] at hv hc
      exact pe_callTy hc k1 k2 hv h k3 k4 (star_cons hst'.1.1 args X.env) (star_none Z G (es := es) pos X.env hst'.2)
    | false =>
      rw [z, if_neg Bool.false_ne_true] at hv hc
      exact pe_callB hc k1 k2 hv h k3 k4 (star_cons hst'.1.1 args X.env) (star_none Z G (es := es) pos X.env hst'.2)
noncomputable def kdV : Kd → V
  | .str => .ty "str" | .int => .ty "int" | .bool => .ty "bool" | .list => .ty "list" | .tuple => .ty "tuple"
theorem kdV_rel (k : Kd) : RelV (kdV k) (kdTy k) := by cases k <;> rfl
theorem call_isi (k : Kd) : CallR X (.builtin "isinstance") (fun xs H Q => ∃ S x d, xs = [x, kdV k] ∧ HRep X.K S H x d ∧ Q (.bl (isiD k d)) H) := by
  intro pins s σ H xs us Q I r h
  obtain ⟨S, x, d, rfl, m, q⟩ := h
  obtain ⟨u, w', rfl, r1, r2⟩ := vals2 r
  have e : w' = kdTy k := by
    have := r2.abs
    have h2 := (kdV_rel k).abs
    cases k <;> (revert r2; intro r2; exact r2)
  subst e
  exact isiD_ok I r1 m k q
theorem s_isi (g : GOk Z CX cl xp X ex G) {k : Kd} {e : Expr} {p p' pos : Pos} {va : List Nat} {fa : Ev → Res D} (hg : G.gl.contains 14 = true) (hk : G.gl.contains (kdNum k) = true) (hn : notStar e = true) (ha : PE X e (RD X.K ex va fa)) :
    PE X (.Call (.Name "isinstance" p) [e, .Name (kdName k) p'] [] pos) (RD X.K ex va fun τ => bnd (fa τ) fun x => .ok (.bl (isiD k x))) := by
  obtain ⟨k1, k2, k3, k4⟩ := gb_of g (show bnames[14]? = some ("isinstance" : Str) from rfl) hg
  obtain ⟨j1, j2, j3, j4⟩ := gb_of g (kd_num k) hk
  have pa : PA X [e, .Name (kdName k) p'] (tCons (RD X.K ex va fa) (tCons (tC (kdV k)) tNil)) := pa_cons ha (pa_cons (pe_bltn j1 j2 (kd_boot k) (kdV_rel k) j3 j4) pa_nil rfl) (star_cons hn _ _)
  refine peMono (pe_callB (call_isi k) k1 k2 PyProof.Rows.boot_isinstance pa k3 k4 (star_cons hn _ _) rfl) fun σ H Q ⟨S, τ, hs, q⟩ => ?_
  refine rdAt (.refl _) hs (PO'.bnd q) fun x v H1 e1 _ m1 q1 => ?_
  exact ⟨nw S H, v, x, rfl, m1, q1.ok _ _ e1 (.bl _)⟩
theorem s_ftx {x : Str} {c : Const} {e : Expr} {j : Nat} {p q pos : Pos} {va : List Nat} {fa : Ev → Res D} (h : chkC (.str x) c = true) (hx : x.length ≤ 1000) (ha : PE X e (RD X.K ex va fa)) :
    PE X (.JoinedStr [.Constant c j p, .FormattedValue e (-1) none q] pos) (RD X.K ex va fun τ => bnd (fa τ) (ftxD x)) := by
  cases c with
  | str y =>
    have e0 : x = y := eq_of_beq h
    subst e0
    refine peMono (pe_ftx hx ha) fun σ H Q ⟨S, τ, hs, q⟩ => ?_
    refine rdAt (.refl _) hs (PO'.bnd q) fun d v H1 e1 _ m1 q1 => ?_
    cases d with
    | str z =>
      cases m1.strR
      obtain ⟨g, q1⟩ := PO'.grd q1
      exact ⟨z, rfl, szOk_le g, q1.ok _ _ e1 (.str _)⟩
    | _ => exact q1.no.elim
  | _ => cases h
theorem isStrD_str {d : D} (h : isStrD d = true) : ∃ x, d = .str x := by
  cases d <;> first | exact ⟨_, rfl⟩ | cases h
theorem s_mth (g : GOk Z CX cl xp X ex G) {m : Mt} {o : Expr} {apos cpos : Pos} {vo : List Nat} {fo : Ev → Res D} {es : List IR} {a : Expr} {args : List Expr} (hn : notCall0 o = true) (hl : (apos.endLine == cpos.line) = true) (hlen : (a :: args).length < 29)
    (hst : chks Z G es (a :: args) = true) (ho : PE X o (RD X.K ex vo fo)) (h : PA X (a :: args) (RA X.K ex (varss es) (evRs cl es))) :
    PE X (.Call (.Attribute o (mtName m) apos) (a :: args) [] cpos) (RD X.K ex (vo ++ varss es) fun τ => bnd (fo τ) fun x => grd (isStrD x) (bnd (evRs cl es τ) fun ds => opMt m x ds)) := by
  cases es with
  | nil => cases hst
  | cons b es =>
    have hst' : (notStar a && chk Z G b a && chks Z G es args) = true := hst
    simp only [Bool.and_eq_true] at hst'
    have star := star_none Z G (es := es) cpos X.env hst'.2
    have mono : ∀ σ H Q, RD X.K ex (vo ++ varss (b :: es)) (fun τ => bnd (fo τ) fun x => grd (isStrD x) (bnd (evRs cl (b :: es) τ) fun ds => opMt m x ds)) σ H Q → tBM X.K "str" (rMt X.K ex m) (RD X.K ex vo fo) (RA X.K ex (varss (b :: es)) (evRs cl (b :: es))) σ H Q := by
      rintro σ H Q ⟨S, τ, hs, q⟩
      refine rdAt (.refl _) hs.left (PO'.bnd q) fun x v H1 e1 _ m1 q1 => ?_
      obtain ⟨gd, q1⟩ := PO'.grd q1
      obtain ⟨z, rfl⟩ := isStrD_str gd
      cases m1.strR
      refine ⟨rfl, raAt e1 hs.right (PO'.bnd q1) fun ds vs H2 e2 e2' m2 q2 => ?_⟩
      exact ⟨nw S H, .str z, ds, .str z, m2, q2.mono fun d hd => hd.fit e2⟩
    have hbase : attributeBase o (mtName m) X.env (eval o X.env) = eval o X.env := by
      cases o with
      | Call f args kws pos =>
        cases args with
        | nil =>
          cases kws with
          | nil => cases hn
          | cons _ _ => cases f <;> rfl
        | cons _ _ => cases f <;> rfl
      | _ => rfl
    have all0 : (backTo cpos (starEach (a :: args) X.env)).all (fun x => !x.1) = true := by
      rw [star_cons hst'.1.1]
      show (true && (backTo cpos (starEach args X.env)).all (fun x => !x.1)) = true
      rw [Bool.true_and, List.all_eq_true]
      intro y hy
      have := List.any_eq_false.mp star y hy
      simpa using this
    have hfew : ((backTo cpos (starEach (a :: args) X.env)).all (fun x => !x.1) && (backToKw cpos (keywordEach [] X.env)).all (fun x => x.1.isSome) && decide ((a :: args).length + ([] : List Keyword).length + (if ([] : List Keyword).isEmpty then 0 else 1) < 30)) = true := by
      rw [all0]
      have : decide ((a :: args).length + ([] : List Keyword).length + (if ([] : List Keyword).isEmpty then 0 else 1) < 30) = true := decide_eq_true (by simp at hlen ⊢; omega)
      rw [this]
      rfl
    refine peMono ?_ mono
    cases m with
    | join => exact pe_bm PySem.F.plainAttrs_str PySem.F.slot_str_join PySem.F.type_str_join (opMt_ok (ex := ex) g.calm .join) ho h hbase hfew hl (star_cons hst'.1.1 args X.env) star
    | split => exact pe_bm PySem.F.plainAttrs_str PySem.F.slot_str_split PySem.F.type_str_split (opMt_ok (ex := ex) g.calm .split) ho h hbase hfew hl (star_cons hst'.1.1 args X.env) star
    | starts => exact pe_bm PySem.F.plainAttrs_str PySem.F.slot_str_startswith PySem.F.type_str_startswith (opMt_ok (ex := ex) g.calm .starts) ho h hbase hfew hl (star_cons hst'.1.1 args X.env) star
end
end L2
namespace L2
open PySem PySem.Spec PyProof.Rows PySem.SeqAt
section
variable {prog : Program} {w : World} {A : Around} {E : Value → Shared → Prop} {s : Shared}
theorem draw_listU {it t : Addr} {items : Array Value} (hne : t ≠ it) : ∀ (n i : Nat) (s : Shared) (Q : List Value → Shared → Prop), s.heap.IsListIter it t i → s.heap.IsList t items → i + n ≤ items.size →
    (∀ h', h'.IsListIter it t (i + n) → Heap.SameBut it s.heap h' → Q ((items.toList.drop i).take n) { s with heap := h' }) → wpAny (model prog w) A (draw (.ref it) n) Q E s
  | 0, i, s, Q, hit, _, _, hQ => by
    show wpAny _ _ (pure []) Q E s
    exact wpAny_pure (by simpa using hQ s.heap hit (Heap.SameBut.refl ..))
  | n + 1, i, s, Q, hit, ht, hle, hQ => by
    have hlt : i < items.size := by omega
    show wpAny _ _ (pyNext (.ref it) >>= _) Q E s
    refine wpAny_bind (wpAny_pyNext_list_item hit ht (x := items[i]) (by simp [hlt]) fun h₁ hit₁ hs₁ => ?_)
    refine wpAny_bind (wpAny_holding (draw_listU hne n (i + 1) _ _ hit₁ (ht.extBut hs₁.extBut hne) (by omega) fun h₂ hit₂ hs₂ => wpAny_pure ?_))
    have hd : items.toList.drop i = items[i] :: items.toList.drop (i + 1) := by simp [List.drop_eq_getElem_cons, hlt]
    have := hQ h₂ (by rw [show i + (n + 1) = i + 1 + n by omega]; exact hit₂) (hs₁.trans hs₂)
    rw [hd, List.take_succ_cons] at this
    exact this
theorem unpackItems_list {t : Addr} {items : Array Value} {Q : List Value → Shared → Prop} (hh : A.handled = none) (ht : s.heap.IsList t items)
    (hQ : ∀ h', Heap.ExtBut s.heap.objs.size s.heap h' → Q items.toList { s with heap := h' }) : wpAny (model prog w) A (unpackItems (.ref t) items.size none) Q E s := by
  have hlt : t ≠ s.heap.objs.size := by obtain ⟨o, ho, _⟩ := ht; exact Nat.ne_of_lt (Heap.lt_size ho)
  have push : ∀ o, (s.heap.push o).IsList t items := fun o => by
    obtain ⟨ob, e, c, n, d⟩ := ht
    exact ⟨ob, Heap.get?_push_of_some _ e, c, n, d⟩
  unfold unpackItems
  refine wpAny_bind ?_
  · unfold notIterableAtAll
    refine wpAny_bind (wpAny_specialOf ht.typeIs slot_list_iter.lookup ?_)
    refine wpAny_pure ?_
    simp only [Bool.false_eq_true, if_false]
    refine wpAny_bind (wpAny_holding (wpAny_pyIter_list ht ?_))
    refine wpAny_bind (wpAny_holding (draw_listU hlt items.size 0 _ _ ⟨_, Heap.get?_push_size _ rfl, rfl, rfl⟩ (push _) (by omega) fun h₁ hit₁ hs₁ => ?_))
    have hall : List.take items.size (List.drop 0 items.toList) = items.toList := by
      rw [List.drop_zero]; exact List.take_of_length_le (by simp)
    rw [hall]
    rw [if_neg (by simp)]
    have ht₁ : h₁.IsList t items := (push _).extBut hs₁.extBut hlt
    refine wpAny_bind (wpAny_holding (wpAny_pyNext_list_end hh hit₁ ht₁ (by simp) fun h₂ he₂ => ?_))
    simp only [Option.isSome_none, Bool.false_eq_true, if_false]
    refine wpAny_pure (hQ h₂ fun b o hb e => he₂ b o hb (hs₁.extBut b o hb (Heap.get?_push_of_some _ e)))
end
noncomputable def gSeq (K : PySem.W.Frag) (n : Nat) (t : TGs) : TG := fun v σ H Q => ∃ a xs, v = .ref a ∧ (SqT K H a xs ∨ SqL K H a xs) ∧ xs.length = n ∧ t xs σ H Q
theorem pg_seq {X : Cx} {pos : Pos} {es : List Expr} {k : Nat} {t : TGs} {n : Nat} (hc : X.calm = true) (h : PGs X es t) (hn : (assignEach es X.env).length = n) (hst : (assignEach es X.env).findIdx? (·.1) = none) : PG X (.Tuple es k pos) (gSeq X.K n t) := by
  intro pins s σ H v u Q I r hw
  obtain ⟨a, xs, e1, hq, hl, hw⟩ := hw
  subst e1
  cases r
  rcases hq with hq | hq
  · obtain ⟨its, rv, ht, hz⟩ := I.tuple hq
    refine assign_Tuple_tuple (I.ok.hd hc) ht (by simp [hn, ← hl, rv.length]) hst fun h' hx => ?_
    have I1 : Inv X pins σ H { s with heap := h' } := I.kept (t' := s.toks) fun b o e => hx b o (Nat.ne_of_lt (Heap.lt_size e)) e
    exact h pins _ σ H xs _ Q I1 (by simpa using rv) hw
  · obtain ⟨its, rv, pl, hz⟩ := I.list hq
    rw [assign_Tuple]
    refine wpAny_bind (wpAny_standAt ?_)
    unfold unpack
    have hlen : (assignEach es X.env).length = its.toArray.size := by simp [hn, ← hl, rv.length]
    rw [hlen, hst]
    refine wpAny_bind (wpAny_holding (unpackItems_list (I.ok.hd hc) pl.isList fun h' hx => ?_))
    have I1 : Inv X pins σ H { s with heap := h' } := I.kept (t' := s.toks) fun b o e => hx b o (Nat.ne_of_lt (Heap.lt_size e)) e
    exact h pins _ σ H xs _ Q I1 (by simpa using rv) hw
mutual
noncomputable def gT (K : PySem.W.Frag) : Tg → TG
  | .nm i => gName i
  | .tp ts => gSeq K ts.length (gTs K ts)
noncomputable def gTs (K : PySem.W.Frag) : List Tg → TGs
  | [] => gNil
  | t :: ts => gCons (gT K t) (gTs K ts)
end
theorem asgEach_cons {e : Expr} (h : notStar e = true) (es : List Expr) (env : Env) : assignEach (e :: es) env = (false, assign e env) :: assignEach es env := by
  cases e <;> first | rfl | cases h
section
variable {Z : Sg} {CX : CXT} {cl : Nat → List D → Res D} {xp : XK → Hp → Str → Prop} {X : Cx} {ex : Str → Prop} {G : Gm}
theorem chkTs_each (G : Gm) : ∀ {ts : List Tg} {es : List Expr} (env : Env), chkTs G ts es = true → (assignEach es env).length = ts.length ∧ (assignEach es env).findIdx? (·.1) = none
  | [], [], _, _ => ⟨rfl, rfl⟩
  | t :: ts, e :: es, env, h => by
    have h' : (notStar e && chkT G t e && chkTs G ts es) = true := h
    simp only [Bool.and_eq_true] at h'
    obtain ⟨h1, h2⟩ := chkTs_each G (ts := ts) (es := es) env h'.2
    rw [asgEach_cons h'.1.1]
    refine ⟨by rw [List.length_cons, h1, List.length_cons], ?_⟩
    rw [List.findIdx?_cons, if_neg (by simp), h2]
    rfl
  | [], _ :: _, _, h => by cases h
  | _ :: _, [], _, h => by cases h
mutual
theorem pgT (g : GOk Z CX cl xp X ex G) : ∀ (t : Tg) (e : Expr), chkT G t e = true → PG X e (gT X.K t)
  | .nm i, e, h => by
    cases e with
    | Name x pos =>
      have h' : (G.N[i]? == some x && (G.kd[i]? == some .local || (G.df && G.kd[i]? == some .cell))) = true := h
      rw [Bool.and_eq_true, Bool.or_eq_true, Bool.and_eq_true] at h'
      obtain ⟨h1, h2⟩ := h'
      have hx : G.N[i]? = some x := eq_of_beq h1
      have hk := g.kd i x hx
      refine pg_name (by rw [g.N]; exact g.nod) (by rw [g.N]; exact hx) ?_ ?_
      · rcases h2 with h2 | h2
        · exact .inl (hk.trans (eq_of_beq h2))
        · exact .inr (hk.trans (eq_of_beq h2.2))
      · rcases h2 with h2 | h2
        · exact .inr (hk.trans (eq_of_beq h2))
        · exact .inl (g.df h2.1 x)
    | _ => cases h
  | .tp ts, e, h => by
    cases e with
    | Tuple es k pos =>
      have h' : chkTs G ts es = true := h
      obtain ⟨h1, h2⟩ := chkTs_each G X.env h'
      exact pg_seq g.calm (pgTs g ts es h') h1 h2
    | _ => cases h
theorem pgTs (g : GOk Z CX cl xp X ex G) : ∀ (ts : List Tg) (es : List Expr), chkTs G ts es = true → PGs X es (gTs X.K ts)
  | [], [], _ => pgs_nil
  | t :: ts, e :: es, h => by
    have h' : (notStar e && chkT G t e && chkTs G ts es) = true := h
    simp only [Bool.and_eq_true] at h'
    exact pgs_cons (pgT g t e h'.1.2) (pgTs g ts es h'.2) (by rw [asgEach_cons h'.1.1]; rfl)
  | [], _ :: _, h => by cases h
  | _ :: _, [], h => by cases h
end
end
noncomputable def SlA (K : PySem.W.Frag) (S : Addr → Prop) (H : Hp) (σ : St) (τ : Ev) : Prop := τ.length = σ.length ∧ ∀ i d, slotD τ i = some d → ∃ v, σ[i]? = some (some v) ∧ HRep K S H v d
theorem slotD_set {τ : Ev} {i j : Nat} {o : Option D} : slotD (τ.set i o) j = if i = j ∧ i < τ.length then o else slotD τ j := by
  unfold slotD
  rw [List.getElem?_set]
  by_cases h : i = j
  · subst h
    by_cases h2 : i < τ.length
    · simp [h2]
    · rw [if_pos rfl, if_neg h2, if_neg (by omega)]
      rw [List.getElem?_eq_none (by omega)]
  · rw [if_neg h, if_neg (by omega)]
section
variable {K : PySem.W.Frag} {S : Addr → Prop} {H : Hp} {ex : Str → Prop}
mutual
theorem gT_read : ∀ (t : Tg) {σ : St} {τ : Ev} {v : V} {d : D} {Kt : Ev → Prop} {Q : St → Hp → Prop}, SlA K S H σ τ → HRep K S H v d → PO' ex (setT t d τ) Kt →
    (∀ τ' σ', SlA K S H σ' τ' → σ'.length = σ.length → (∀ j, j ∉ tgs t → σ'[j]? = σ[j]?) → Kt τ' → Q σ' H) → gT K t v σ H Q
  | .nm i, σ, τ, v, d, Kt, Q, hs, m, h, k => by
    refine k (τ.set i (some d)) (σ.set i (some v)) ⟨by rw [List.length_set, List.length_set, hs.1], fun j e z => ?_⟩ (by rw [List.length_set]) (fun j hj => ?_) h.ok
    · rw [slotD_set] at z
      by_cases q : i = j ∧ i < τ.length
      · rw [if_pos q] at z
        obtain ⟨rfl, q⟩ := q
        cases z
        exact ⟨v, by rw [List.getElem?_set_self (by rw [← hs.1]; exact q)], m⟩
      · rw [if_neg q] at z
        obtain ⟨w, h1, h2⟩ := hs.2 j e z
        refine ⟨w, ?_, h2⟩
        by_cases q2 : i = j
        · subst q2
          exfalso
          have : i < σ.length := by
            have := (List.getElem?_eq_some_iff.mp h1).1
            exact this
          exact q ⟨rfl, by rw [hs.1]; exact this⟩
        · rw [List.getElem?_set_ne q2]; exact h1
    · have : i ≠ j := fun z => hj (by subst z; simp [tgs])
      rw [List.getElem?_set_ne this]
  | .tp ts, σ, τ, v, d, Kt, Q, hs, m, h, k => by
    cases d with
    | tup ds =>
      obtain ⟨a, xs, rfl, q, ms⟩ := m.tupR
      obtain ⟨g, h⟩ := PO'.grd h
      have g' : ds.length = ts.length := of_decide_eq_true g
      exact ⟨a, xs, rfl, .inl q, by rw [ms.length, g'], gTs_read ts hs ms h k⟩
    | lst o ds =>
      obtain ⟨a, xs, rfl, q, ms⟩ := m.lstR
      obtain ⟨g, h⟩ := PO'.grd h
      have g' : ds.length = ts.length := of_decide_eq_true g
      exact ⟨a, xs, rfl, .inr q, by rw [ms.length, g'], gTs_read ts hs ms h k⟩
    | _ => exact h.no.elim
theorem gTs_read : ∀ (ts : List Tg) {σ : St} {τ : Ev} {vs : List V} {ds : List D} {Kt : Ev → Prop} {Q : St → Hp → Prop}, SlA K S H σ τ → HReps K S H vs ds → PO' ex (setTs ts ds τ) Kt →
    (∀ τ' σ', SlA K S H σ' τ' → σ'.length = σ.length → (∀ j, j ∉ tgss ts → σ'[j]? = σ[j]?) → Kt τ' → Q σ' H) → gTs K ts vs σ H Q
  | [], σ, τ, vs, ds, Kt, Q, hs, m, h, k => by
    cases m with
    | nil => exact ⟨rfl, k τ σ hs rfl (fun _ _ => rfl) h.ok⟩
    | cons _ _ => exact h.no.elim
  | t :: ts, σ, τ, vs, ds, Kt, Q, hs, m, h, k => by
    cases m with
    | nil => exact h.no.elim
    | cons m1 m2 =>
      refine ⟨_, _, rfl, gT_read t hs m1 (PO'.bnd h) fun τ' σ' hs' hn hk h' => ?_⟩
      refine gTs_read ts hs' m2 h' fun τ'' σ'' hs'' hn' hk' h'' => k τ'' σ'' hs'' (hn'.trans hn) (fun j hj => ?_) h''
      have hj' : j ∉ tgs t ∧ j ∉ tgss ts := by
        constructor <;> (intro z; apply hj; simp [tgss, z])
      rw [hk' j hj'.2, hk j hj'.1]
end
end
section
variable {K : PySem.W.Frag} {S S' : Addr → Prop} {H H' : Hp} {J : It} {ds : List D}
theorem Wlk.step (hl : ∀ a xs, S a → Rd H a (.lst xs) → S' a ∧ Rd H' a (.lst xs)) (ht : ∀ a xs, SqT K H a xs → SqT K H' a xs) (h : Wlk K S H J ds) : Wlk K S' H' J ds := by
  cases h with
  | lst h0 h1 h2 => exact .lst (hl _ _ h0 h1).1 (hl _ _ h0 h1).2 (h2.step hl ht)
  | lstK h1 h2 => exact .lstK h1 (h2.step hl ht)
  | tup h1 h2 => exact .tup (ht _ _ h1) (h2.step hl ht)
  | rng lo hi => exact .rng lo hi
  | str x => exact .str x
theorem Wlk.mono (h : Wlk K S H J ds) (hS : ∀ a, S a → S' a) (e : Same H H') : Wlk K S' H' J ds := h.step (fun a xs s r => ⟨hS a s, e.rd r⟩) fun a xs s => e.seqT s
theorem charsD_len (x : Str) : (charsD x).length = x.cps.size := by unfold charsD; simp
theorem rngD_len (a b : Int) : (rngD a b).length = (b - a).toNat := by unfold rngD; simp
theorem Wlk.stop (h : Wlk K S H J ds) {i : Nat} (hi : ds.length ≤ i) : J.stop i H := by
  cases h with
  | lst h0 h1 h2 => exact ⟨_, .inl h1, by rw [h2.length]; exact hi⟩
  | lstK h1 h2 => exact ⟨_, h1.sq, by rw [h2.length]; exact hi⟩
  | tup h1 h2 => exact ⟨_, h1, by rw [h2.length]; exact hi⟩
  | rng lo hi' => rw [rngD_len] at hi; exact hi
  | str x => rw [charsD_len] at hi; exact hi
theorem Wlk.go (h : Wlk K S H J ds) {i : Nat} (hi : i < ds.length) : J.go i H := by
  cases h with
  | lst h0 h1 h2 => obtain ⟨v, hv, _⟩ := h2.get (i := i) (d := ds[i]) (by simp [hi]); exact ⟨_, v, .inl h1, hv⟩
  | lstK h1 h2 => obtain ⟨v, hv, _⟩ := h2.get (i := i) (d := ds[i]) (by simp [hi]); exact ⟨_, v, h1.sq, hv⟩
  | tup h1 h2 => obtain ⟨v, hv, _⟩ := h2.get (i := i) (d := ds[i]) (by simp [hi]); exact ⟨_, v, h1, hv⟩
  | rng lo hi' => rw [rngD_len] at hi; exact hi
  | str x => rw [charsD_len] at hi; exact hi
theorem Wlk.yld (h : Wlk K S H J ds) {i : Nat} {x : V} {H2 : Hp} (y : J.yld i H x H2) {d : D} (hd : ds[i]? = some d) : H2 = H ∧ HRep K S H x d := by
  have fin : ∀ {xs : List V}, HReps K S H xs ds → xs[i]? = some x → HRep K S H x d := fun m e => by
    obtain ⟨d', e', m'⟩ := m.getV e
    rw [hd] at e'; cases e'; exact m'
  cases h with
  | lst h0 h1 h2 => exact ⟨y.1, fin h2 (y.2 _ (.inl h1))⟩
  | lstK h1 h2 => exact ⟨y.1, fin h2 (y.2 _ h1.sq)⟩
  | tup h1 h2 => exact ⟨y.1, fin h2 (y.2 _ h1)⟩
  | rng lo hi' =>
    obtain ⟨e1, e2⟩ := y
    refine ⟨e1, ?_⟩
    subst e2
    unfold rngD at hd
    rw [List.getElem?_map] at hd
    have hi : i < (hi' - lo).toNat := by
      have := (Option.map_eq_some_iff.mp hd)
      obtain ⟨z, h1, _⟩ := this
      have := (List.getElem?_eq_some_iff.mp h1).1
      simpa using this
    rw [List.getElem?_range hi] at hd
    cases hd
    exact .int _
  | str x =>
    obtain ⟨e1, c, h1, e2⟩ := y
    refine ⟨e1, ?_⟩
    subst e2
    unfold charsD at hd
    rw [List.getElem?_map] at hd
    have h2 : x.cps.toList[i]? = some c := by simpa using h1
    rw [h2] at hd
    cases hd
    exact .str _
end
end L2
namespace L2
open PySem PySem.Spec PyProof.Rows PySem.SeqAt
section
variable {Z : Sg} {CX : CXT} {cl : Nat → List D → Res D} {xp : XK → Hp → Str → Prop} {X : Cx} {ex : Str → Prop} {G : Gm} {K : PySem.W.Frag} {S : Addr → Prop} {H H1 : Hp} {σ : St} {τ : Ev}
theorem riAt {is : List Nat} {f : Ev → Res (List D)} {Kt : List D → Prop} {R : It → Hp → Prop} (e : Same H H1) (hs : Slots K S H σ τ is) (h : PO' ex (f τ) Kt) (k : ∀ ds J H2, Same H H2 → Same H1 H2 → Wlk K (nw S H) H2 J ds → Kt ds → R J H2) : RI K ex is f σ H1 R :=
  ⟨nw S H, τ, hs.go e, h.mono fun x hx J H2 e2 m => k x J H2 (e.trans e2) e2 (m.mono (nw_nw e) (.refl _)) hx⟩
theorem it_list {tg : Expr} {pins : List (Addr × Obj)} {s : Shared} {a : Addr} {xs : List V} {R : It → Hp → Prop} (I : Inv X pins σ H s) (hq : SqL X.K H a xs) (q : R (Itl X.K a) H) : wpAny (model X.prog X.w) X.A (pyIter (.ref a)) (PIE X pins σ tg R) X.xe s := by
  obtain ⟨its, rv, p, hz⟩ := I.list hq
  refine wpAny_pyIter_list p.isList ?_
  refine ⟨s.heap.objs.size, [s.heap.objs.size], _, _, H, rfl, I.kept (t' := s.toks) fun b o e => Heap.get?_push_of_some _ e, turn_list a _, ⟨_, Heap.get?_push_size _ rfl, rfl, rfl⟩, fun b hb => ?_, q⟩
  have e : b = s.heap.objs.size := by simpa using hb
  subst e
  exact I.fpOk (Nat.le_refl _) (I.hok.fresh (Nat.le_refl _))
theorem it_tuple {tg : Expr} {pins : List (Addr × Obj)} {s : Shared} {a : Addr} {xs : List V} {R : It → Hp → Prop} (I : Inv X pins σ H s) (hq : SqT X.K H a xs) (q : R (Itt X.K a) H) : wpAny (model X.prog X.w) X.A (pyIter (.ref a)) (PIE X pins σ tg R) X.xe s := by
  obtain ⟨its, rv, p, hz⟩ := I.tuple hq
  refine wpAny_pyIter_tuple (show s.heap.IsTuple a its.toArray from p) ?_
  refine ⟨s.heap.objs.size, [s.heap.objs.size], _, _, H, rfl, I.kept (t' := s.toks) fun b o e => Heap.get?_push_of_some _ e, turn_tuple a _, ⟨_, Heap.get?_push_size _ rfl, rfl, rfl⟩, fun b hb => ?_, q⟩
  have e : b = s.heap.objs.size := by simpa using hb
  subst e
  exact I.fpOk (Nat.le_refl _) (I.hok.fresh (Nat.le_refl _))
theorem i_val {tg e : Expr} {va : List Nat} {fa : Ev → Res D} (ha : PE X e (RD X.K ex va fa)) : PI X tg e (RI X.K ex va fun τ => bnd (fa τ) itemsD) := by
  intro pins s σ H R I h
  obtain ⟨S, τ, hs, q⟩ := h
  refine thn (ha pins s σ H (fun v H' => ∃ d, Same H H' ∧ HRep X.K (nw S H) H' v d ∧ _) I (rdAt (.refl _) hs (PO'.bnd q) fun x v H1 e1 _ m1 q1 => ⟨x, e1, m1, q1⟩)) fun v s1 ⟨x, H1, I1, r1, d, e1, m1, q1⟩ => ?_
  cases d with
  | lst o ds =>
    cases m1 with
    | lst h0 h1 h2 => cases r1; exact it_list I1 (.inl h1) (q1.ok _ _ e1 (.lst h0 h1 h2))
    | lstK h1 h2 => cases r1; exact it_list I1 h1.sq (q1.ok _ _ e1 (.lstK h1 h2))
  | tup ds =>
    obtain ⟨a, xs, rfl, h1, h2⟩ := m1.tupR
    cases r1
    exact it_tuple I1 h1 (q1.ok _ _ e1 (.tup h1 h2))
  | str z =>
    cases m1.strR
    obtain ⟨t, rfl⟩ := r1
    obtain ⟨_, q1⟩ := PO'.grd q1
    exact it_str I1 (q1.ok _ _ e1 (.str z))
  | _ => exact q1.no.elim
theorem i_rng1 (g : GOk Z CX cl xp X ex G) {tg e : Expr} {p pos : Pos} {va : List Nat} {fa : Ev → Res D} (hg : G.gl.contains 15 = true) (hn : notStar e = true) (ha : PE X e (RD X.K ex va fa)) :
    PI X tg (.Call (.Name "range" p) [e] [] pos) (RI X.K ex va fun τ => bnd (fa τ) fun | .int i => grd (rngOk i) (.ok (rngD 0 i)) | _ => stk) := by
  obtain ⟨k1, k2, _, _⟩ := gb_of g (show bnames[15]? = some ("range" : Str) from rfl) hg
  refine piMono (pi_range1 k1 k2 (pa_cons ha pa_nil (star_cons hn _ _)) (star_cons hn _ _)) fun σ H Q ⟨S, τ, hs, q⟩ => ?_
  refine rdAt (.refl _) hs (PO'.bnd q) fun x v H1 e1 _ m1 q1 => ?_
  cases x with
  | int i =>
    cases m1.intR
    obtain ⟨gd, q1⟩ := PO'.grd q1
    have gd' : -(2 ^ 62) ≤ i ∧ i < 2 ^ 62 := of_decide_eq_true gd
    refine ⟨i, rfl, gd'.1, gd'.2, ?_⟩
    have := q1.ok _ _ e1 (.rng 0 i)
    rw [Int.sub_zero] at this
    exact this
  | _ => exact q1.no.elim
theorem i_rng2 (g : GOk Z CX cl xp X ex G) {tg e e' : Expr} {p pos : Pos} {va vb : List Nat} {fa fb : Ev → Res D} (hg : G.gl.contains 15 = true) (hn : notStar e = true) (hn' : notStar e' = true) (ha : PE X e (RD X.K ex va fa)) (hb : PE X e' (RD X.K ex vb fb)) :
    PI X tg (.Call (.Name "range" p) [e, e'] [] pos) (RI X.K ex (va ++ vb) fun τ => bnd (fa τ) fun x => bnd (fb τ) fun y => match x, y with | .int i, .int j => grd (rngOk i && rngOk j) (.ok (rngD i j)) | _, _ => stk) := by
  obtain ⟨k1, k2, _, _⟩ := gb_of g (show bnames[15]? = some ("range" : Str) from rfl) hg
  refine piMono (pi_range2 k1 k2 (pa_cons ha (pa_cons hb pa_nil (star_cons hn' _ _)) (star_cons hn _ _)) (by rw [star_cons hn, star_cons hn']; rfl) (star_cons hn' _ _)) fun σ H Q ⟨S, τ, hs, q⟩ => ?_
  refine rdAt (.refl _) hs.left (PO'.bnd q) fun x v H1 e1 _ m1 q1 => ?_
  refine rdAt e1 hs.right (PO'.bnd q1) fun y w H2 e2 e2' m2 q2 => ?_
  cases x with
  | int i =>
    cases y with
    | int j =>
      cases m1.intR; cases m2.intR
      obtain ⟨gd, q2⟩ := PO'.grd q2
      rw [Bool.and_eq_true] at gd
      have g1 : -(2 ^ 62) ≤ i ∧ i < 2 ^ 62 := of_decide_eq_true gd.1
      have g2 : -(2 ^ 62) ≤ j ∧ j < 2 ^ 62 := of_decide_eq_true gd.2
      exact ⟨i, j, rfl, ⟨g1.1, g1.2, g2.1, g2.2⟩, q2.ok _ _ e2 (.rng i j)⟩
    | _ => exact q2.no.elim
  | _ => cases y <;> exact q2.no.elim
theorem lookup_rl {env : Env} {x : Str} : ∀ (names : List (Str × NameKind)),
    (names.map fun (n, k) => if (k == NameKind.free && env.scope.kind == .function && env.kindOf n == some .cell) then (n, NameKind.cell) else (n, k)).lookup x =
      (names.lookup x).map fun k => if (k == NameKind.free && env.scope.kind == .function && env.kindOf x == some .cell) then NameKind.cell else k
  | [] => rfl
  | (n, k) :: r => by
    have ih := lookup_rl (env := env) (x := x) r
    rw [List.map_cons]
    show List.lookup x ((if (k == NameKind.free && env.scope.kind == .function && env.kindOf n == some .cell) = true then (n, NameKind.cell) else (n, k)) :: _) = _
    by_cases hc : (k == NameKind.free && env.scope.kind == .function && env.kindOf n == some .cell) = true
    · rw [if_pos hc, List.lookup_cons, List.lookup_cons]
      cases hx : x == n with
      | true =>
        have e : x = n := eq_of_beq hx
        subst e
        show some NameKind.cell = some (if _ then _ else _)
        rw [if_pos hc]
      | false => exact ih
    · rw [if_neg hc, List.lookup_cons, List.lookup_cons]
      cases hx : x == n with
      | true =>
        have e : x = n := eq_of_beq hx
        subst e
        show some k = some (if _ then _ else _)
        rw [if_neg hc]
      | false => exact ih
theorem closure_ex {scope : Scope} {env : Env} (h : ∀ y ∈ scope.names, y.2 = .free → ∃ c, env.cells.lookup y.1 = some c) :
    ∃ cl', closureFor scope env = pure cl' ∧ (∀ x c, cl'.lookup x = some c → env.cells.lookup x = some c) ∧ ∀ y ∈ scope.names, y.2 = .free → ∃ c, cl'.lookup y.1 = some c := by
  have key : ∀ (names : List (Str × NameKind)) (acc : List (Str × Addr)), (∀ y ∈ names, y.2 = .free → ∃ c, env.cells.lookup y.1 = some c) → (∀ x c, acc.lookup x = some c → env.cells.lookup x = some c) →
      ∃ cl', (forIn names acc fun (p : Str × NameKind) (r : List (Str × Addr)) => (if (p.2 == NameKind.free) = true then do let a ← cellOf env p.1; pure (ForInStep.yield ((p.1, a) :: r)) else pure (ForInStep.yield r) : Sem (ForInStep (List (Str × Addr))))) = pure cl' ∧ (∀ x c, cl'.lookup x = some c → env.cells.lookup x = some c) ∧
        (∀ y ∈ names, y.2 = .free → ∃ c, cl'.lookup y.1 = some c) ∧ ∀ x c, acc.lookup x = some c → ∃ c', cl'.lookup x = some c' := by
    intro names
    induction names with
    | nil => intro acc _ h2; exact ⟨acc, rfl, h2, fun y hy => absurd hy (by simp), fun x c e => ⟨c, e⟩⟩
    | cons p names ih =>
      intro acc h1 h2
      rw [List.forIn_cons]
      by_cases hp : p.2 = .free
      · obtain ⟨c, hc⟩ := h1 p (by simp) hp
        have hb : (p.2 == NameKind.free) = true := by rw [hp]; rfl
        have h2' : ∀ x c', ((p.1, c) :: acc).lookup x = some c' → env.cells.lookup x = some c' := by
          intro x c' e
          rw [List.lookup_cons] at e
          cases hx : x == p.1 with
          | true =>
            rw [hx] at e
            cases e
            rw [eq_of_beq hx]
            exact hc
          | false => rw [hx] at e; exact h2 x c' e
        obtain ⟨cl', e1, e2, e3, e4⟩ := ih ((p.1, c) :: acc) (fun y hy => h1 y (List.mem_cons_of_mem _ hy)) h2'
        refine ⟨cl', ?_, e2, fun y hy hf => ?_, fun x c' e => ?_⟩
        · rw [if_pos hb]
          have : cellOf env p.1 = pure c := by unfold cellOf; rw [hc]
          rw [this]
          exact e1
        · rcases List.mem_cons.mp hy with rfl | hy
          · exact e4 y.1 c (by rw [List.lookup_cons]; simp)
          · exact e3 y hy hf
        · rcases hx : x == p.1 with _ | _
          · exact e4 x c' (by rw [List.lookup_cons, hx]; exact e)
          · exact e4 x c (by rw [List.lookup_cons, hx])
      · have hb : ¬ (p.2 == NameKind.free) = true := fun z => hp (eq_of_beq z)
        obtain ⟨cl', e1, e2, e3, e4⟩ := ih acc (fun y hy => h1 y (List.mem_cons_of_mem _ hy)) h2
        refine ⟨cl', ?_, e2, fun y hy hf => ?_, e4⟩
        · rw [if_neg hb]
          exact e1
        · rcases List.mem_cons.mp hy with rfl | hy
          · exact absurd hf hp
          · exact e3 y hy hf
  obtain ⟨cl', e1, e2, e3, _⟩ := key scope.names [] h (fun x c e => by cases e)
  refine ⟨cl', ?_, e2, e3⟩
  unfold closureFor
  exact congrArg (fun (m : Sem (List (Str × Addr))) => m >>= fun r => pure r) e1
structure ScOk (Z : Sg) (G : Gm) (scope : Scope) (G' : Gm) (fr : List Nat) : Prop where
  kind : scope.kind = .function
  df : G'.df = false
  kdl : G'.kd.length = G'.N.length
  nocell : ∀ y ∈ scope.names, y.2 ≠ .cell
  loc : ∀ y ∈ scope.names, y.2 = .local → scope.names.lookup y.1 = some .local
  fre : ∀ y ∈ scope.names, y.2 = .free → ∃ i : Nat, G.N[i]? = some y.1 ∧ (G.kd[i]? = some .cell ∨ G.kd[i]? = some .free)
  frs : ∀ (j : Nat) (i : Nat), fr[j]? = some i → ∃ x, G.N[i]? = some x ∧ G'.N[j]? = some x ∧ scope.names.lookup x = some .free ∧ (G.kd[i]? = some .cell ∨ G.kd[i]? = some .free) ∧ G'.kd[j]? = some (if (G.kd[i]? == some .cell) = true then .cell else .free)
  fle : fr.length ≤ G'.N.length
  tgs : ∀ (j : Nat) (x : Str), fr.length ≤ j → G'.N[j]? = some x → scope.names.lookup x = some .local ∧ G'.kd[j]? = some .local
  noD : ∀ x ∈ G'.N, (x == ("__debug__" : Str)) = false ∧ (x == ("__classdict__" : Str)) = false
  nod : G'.N.Nodup
  gl : ∀ n ∈ G'.gl, ∃ x, Z.name n = some x ∧ scope.names.lookup x = some .globalImplicit
theorem scOk_of {Z : Sg} {G : Gm} {scope : Scope} {G' : Gm} {fr : List Nat} (h : chkScope Z G scope G' fr = true) : ScOk Z G scope G' fr := by
  unfold chkScope at h
  simp only [Bool.and_eq_true] at h
  obtain ⟨⟨⟨⟨⟨⟨⟨⟨⟨⟨⟨h1, h2⟩, h3⟩, h4⟩, h5⟩, h6⟩, h7⟩, h8⟩, h9⟩, h10⟩, h11⟩, h12⟩ := h
  rw [List.all_eq_true] at h4 h5 h6 h7 h9 h10 h12
  refine ⟨eq_of_beq h1, by simpa using h2, eq_of_beq h3, fun y hy => by simpa using h4 y hy, fun y hy e => ?_, fun y hy e => ?_, fun j i e => ?_, of_decide_eq_true h8, fun j x hj e => ?_, fun x hx => by simpa using h10 x hx, of_decide_eq_true h11, fun n hn => ?_⟩
  · have := h5 y hy
    rw [e] at this
    simpa using this
  · have := h6 y hy
    rw [e] at this
    simp only [bne_self_eq_false, Bool.false_or, List.any_eq_true, Bool.and_eq_true, Bool.or_eq_true] at this
    obtain ⟨i, _, hi, hk⟩ := this
    exact ⟨i, eq_of_beq hi, hk.elim (fun z => .inl (eq_of_beq z)) fun z => .inr (eq_of_beq z)⟩
  · have hj : j < fr.length := (List.getElem?_eq_some_iff.mp e).1
    have := h7 j (List.mem_range.mpr hj)
    simp only [e, Option.bind_some, Bool.and_eq_true, Bool.or_eq_true] at this
    obtain ⟨⟨⟨a1, a2⟩, a3⟩, a4⟩ := this
    have a1' := eq_of_beq a1
    have a2' := eq_of_beq a2
    cases q : G'.N[j]? with
    | none => rw [q] at a2'; cases a2'
    | some x =>
      rw [q] at a2' a1'
      exact ⟨x, a1'.symm, rfl, a2', a3.elim (fun z => .inl (eq_of_beq z)) fun z => .inr (eq_of_beq z), eq_of_beq a4⟩
  · have hlt : j < G'.N.length := (List.getElem?_eq_some_iff.mp e).1
    have hm : j ∈ (List.range G'.N.length).drop fr.length := by
      rw [List.mem_drop_iff_getElem]
      exact ⟨j - fr.length, by simp; omega, by simp; omega⟩
    have := h9 j hm
    rw [e] at this
    simp only [Option.bind_some, Bool.and_eq_true] at this
    exact ⟨eq_of_beq this.1, eq_of_beq this.2⟩
  · have := h12 n hn
    cases q : Z.name n with
    | none => rw [q] at this; cases this
    | some x =>
      rw [q] at this
      exact ⟨x, rfl, eq_of_beq this⟩
noncomputable def frN (G : Gm) (fr : List Nat) : List (Str × Nat) := fr.map fun i => (G.N.getD i "", i)
theorem frN_N {scope : Scope} {G' : Gm} {fr : List Nat} (s : ScOk Z G scope G' fr) : (frN G fr).map (·.1) ++ G'.N.drop fr.length = G'.N := by
  have e : (frN G fr).map (·.1) = G'.N.take fr.length := by
    apply List.ext_getElem?
    intro j
    unfold frN
    rw [List.map_map, List.getElem?_map, List.getElem?_take]
    cases q : fr[j]? with
    | none =>
      have : ¬ j < fr.length := by
        intro z
        rw [List.getElem?_eq_getElem z] at q
        cases q
      rw [if_neg this]
      rfl
    | some i =>
      have : j < fr.length := (List.getElem?_eq_some_iff.mp q).1
      rw [if_pos this]
      obtain ⟨x, h1, h2, _⟩ := s.frs j i q
      rw [h2]
      show some (G.N.getD i "") = some x
      rw [List.getD_eq_getElem?_getD, h1]
      rfl
  rw [e, List.take_append_drop]
theorem compSc_of (g : GOk Z CX cl xp X ex G) (ok : X.Ok) {scope : Scope} {G' : Gm} {fr : List Nat} (s : ScOk Z G scope G' fr) : ∃ cl', CompSc X scope cl' (frN G fr) (G'.N.drop fr.length) := by
  have hfree : ∀ y ∈ scope.names, y.2 = .free → ∃ c, X.env.cells.lookup y.1 = some c := fun y hy hf => by
    obtain ⟨i, h1, h2⟩ := s.fre y hy hf
    have hk := g.kd i y.1 h1
    exact ok.has y.1 (h2.elim (fun z => .inl (hk.trans z)) fun z => .inr (hk.trans z))
  obtain ⟨cl', e1, e2, e3⟩ := closure_ex hfree
  refine ⟨cl', e1, s.kind, s.nocell, s.loc, e2, fun x hx => ?_, fun p hp => ?_⟩
  · have hl := lookup_rl (env := X.env) (x := x) scope.names
    have hx' : ((scope.names.lookup x).map fun k => if (k == NameKind.free && X.env.scope.kind == .function && X.env.kindOf x == some .cell) = true then NameKind.cell else k) = some .cell ∨
        ((scope.names.lookup x).map fun k => if (k == NameKind.free && X.env.scope.kind == .function && X.env.kindOf x == some .cell) = true then NameKind.cell else k) = some .free := by
      rcases hx with hx | hx
      · exact .inl (hl.symm.trans hx)
      · exact .inr (hl.symm.trans hx)
    cases q : scope.names.lookup x with
    | none => rw [q] at hx'; rcases hx' with z | z <;> cases z
    | some k =>
      have hm : (x, k) ∈ scope.names := PySem.mem_of_lookup q
      have hk : k = .free := by
        rw [q] at hx'
        rcases hx' with z | z
        · have z' : (if (k == NameKind.free && X.env.scope.kind == .function && X.env.kindOf x == some .cell) = true then NameKind.cell else k) = .cell := Option.some.inj z
          split at z'
          · rename_i hc
            simp only [Bool.and_eq_true] at hc
            exact eq_of_beq hc.1.1
          · exact absurd z' (s.nocell _ hm)
        · have z' : (if (k == NameKind.free && X.env.scope.kind == .function && X.env.kindOf x == some .cell) = true then NameKind.cell else k) = .free := Option.some.inj z
          split at z'
          · cases z'
          · exact z'
      exact e3 (x, k) hm hk
  · unfold frN at hp
    rw [List.mem_map] at hp
    obtain ⟨i, hi, rfl⟩ := hp
    obtain ⟨j, hj⟩ := List.getElem?_of_mem hi
    obtain ⟨x, h1, h2, h3, h4, h5⟩ := s.frs j i hj
    have hn : G.N.getD i "" = x := by rw [List.getD_eq_getElem?_getD, h1]; rfl
    show X.N[i]? = some (G.N.getD i "") ∧ _
    rw [hn]
    have hk := g.kd i x h1
    refine ⟨by rw [g.N]; exact h1, h4.elim (fun z => .inl (hk.trans z)) fun z => .inr (hk.trans z), ?_⟩
    have hl := lookup_rl (env := X.env) (x := x) scope.names
    rw [h3] at hl
    have hl' : (relabel scope X.env).names.lookup x = some (if (NameKind.free == NameKind.free && X.env.scope.kind == .function && X.env.kindOf x == some .cell) = true then NameKind.cell else NameKind.free) := hl
    rw [hl']
    split
    · exact .inl rfl
    · exact .inr rfl
theorem gok_comp (g : GOk Z CX cl xp X ex G) {scope : Scope} {G' : Gm} {fr : List Nat} (s : ScOk Z G scope G' fr) (cl' : List (Str × Addr)) (C : Addr) (s3 : Shared) (H3 : Hp) (fp : List Addr) :
    GOk Z CX cl xp (cxC X scope cl' ((frN G fr).map (·.1) ++ G'.N.drop fr.length) C s3 H3 fp) (fun _ => False) G' where
  N := frN_N s
  nod := s.nod
  calm := g.calm
  fk := s.kind
  un := g.un
  own := PassesOwn.never
  kd := fun j x hx => by
    show (relabel scope X.env).names.lookup x = _
    have hl := lookup_rl (env := X.env) (x := x) scope.names
    by_cases hj : j < fr.length
    · obtain ⟨y, h1, h2, h3, h4, h5⟩ := s.frs j fr[j] (by simp [hj])
      rw [hx] at h2
      cases h2
      rw [h3] at hl
      rw [h5]
      refine hl.trans ?_
      have hk := g.kd fr[j] x h1
      show some (if (NameKind.free == NameKind.free && X.env.scope.kind == .function && X.env.kindOf x == some .cell) = true then NameKind.cell else NameKind.free) = _
      rw [hk, g.fk]
      rfl
    · obtain ⟨h1, h2⟩ := s.tgs j x (by omega) hx
      rw [h1] at hl
      rw [h2]
      exact hl
  noD := fun j x hx => s.noD x (List.mem_of_getElem? hx)
  gl := fun n hn x e => by
    obtain ⟨y, h1, h2⟩ := s.gl n hn
    rw [e] at h1
    cases h1
    show (relabel scope X.env).names.lookup x = _
    have hl := lookup_rl (env := X.env) (x := x) scope.names
    rw [h2] at hl
    exact hl
  nam := g.nam
  df := fun z => by rw [s.df] at z; cases z
  blt := g.blt
  cst := g.cst
  fns := g.fns
  exs := ⟨fun _ _ _ => False, fun pins σ H s e s' _ h => (g.exn _ _ _ _ _ h).elim, fun c _ z => z.elim⟩
  exn := g.exn
end
end L2
namespace L2
open PySem PySem.Spec PyProof.Rows PySem.SeqAt
noncomputable abbrev nox : Str → Prop := fun _ => False
theorem PO'.noX {α : Type} {ex : Str → Prop} {x : Res α} {k : α → Prop} (h : PO' ex (L2.noX x) k) : PO' nox x k := by
  cases x with
  | ok a => exact h
  | error e => exact False.elim h
section
variable {K : PySem.W.Frag} {S : Addr → Prop} {H : Hp} {σ : St} {τ : Ev} {ex : Str → Prop} {cl : Nat → List D → Res D} {G G' : Gm} {fr : List Nat}
noncomputable def blk (G' : Gm) (fr : List Nat) (τ : Ev) : Ev := fr.map (slotD τ) ++ List.replicate (G'.N.length - fr.length) none
theorem blk_len (hl : fr.length ≤ G'.N.length) : (blk G' fr τ).length = G'.N.length := by
  unfold blk
  rw [List.length_append, List.length_map, List.length_replicate]
  omega
theorem stC_len (Tg : List Str) (σ : St) : (stC (frN G fr) Tg σ).length = fr.length + Tg.length := by
  unfold stC frN
  rw [List.length_append, List.length_map, List.length_map, List.length_replicate]
theorem blk_slot {j : Nat} {d : D} (h : slotD (blk G' fr τ) j = some d) : ∃ i, fr[j]? = some i ∧ slotD τ i = some d := by
  unfold slotD blk at h
  by_cases hj : j < fr.length
  · rw [List.getElem?_append_left (by simpa using hj), List.getElem?_map, List.getElem?_eq_getElem hj] at h
    exact ⟨fr[j], by simp [hj], h⟩
  · rw [List.getElem?_append_right (by simpa using hj), List.getElem?_replicate] at h
    split at h <;> cases h
theorem blk_sla {vs : List Nat} {σ' : St} (hl : fr.length ≤ G'.N.length) (hs : Slots K S H σ τ (fr ++ vs)) (hn : σ'.length = G'.N.length) (hσ : ∀ j, j < fr.length → σ'[j]? = (stC (frN G fr) (G'.N.drop fr.length) σ)[j]?) : SlA K S H σ' (blk G' fr τ) := by
  refine ⟨by rw [blk_len hl, hn], fun j d h => ?_⟩
  obtain ⟨i, hi, hd⟩ := blk_slot h
  have hj : j < fr.length := (List.getElem?_eq_some_iff.mp hi).1
  obtain ⟨v, h1, h2⟩ := hs i (List.mem_append_left _ (List.mem_of_getElem? hi)) d hd
  refine ⟨v, ?_, h2⟩
  rw [hσ j hj]
  unfold stC frN
  rw [List.getElem?_append_left (by simpa using hj), List.getElem?_map, List.getElem?_map, hi]
  show some ((σ[i]?).join) = some (some v)
  rw [h1]
  rfl
noncomputable def bodyM (cl : Nat → List D → Res D) (T : Tg) (I : List IR) (E : IR) (τ0 : Ev) (x : D) : Res (Option D) := bnd (setT T x τ0) fun τ1 => bnd (evTs cl I τ1) fun r => if r = true then bnd (evR cl E τ1) fun d => .ok (some d) else .ok none
theorem comp_core {vs : List Nat} {fs : Ev → Res (List D)} {T : Tg} {I : List IR} {E : IR} {Kt : D → Prop} {Q : VK} (hl : fr.length ≤ G'.N.length) (ha : ∀ i ∈ tgs T, fr.length ≤ i) (hs : Slots K S H σ τ (fr ++ vs))
    (q : PO' ex (bnd (fs τ) fun its => grd (szLt its.length) (bnd (noX (fmapM (bodyM cl T I E (blk G' fr τ)) its)) fun ds => .ok (.lst true ds))) Kt)
    (fin : ∀ A ys ds H', Same H H' → H A = none → H' A = some (.lst ys) → HReps K (fun a => nw S H a ∧ a ≠ A) H' ys ds → Kt (.lst true ds) → Q (.ref A) H') :
    tCmpr (RI K ex vs fs) (stC (frN G fr) (G'.N.drop fr.length)) (gT K T) (RT K nox (varss I) (evTs cl I)) (RD K nox (vars E) (evR cl E)) σ H Q := by
  refine riAt (.refl _) hs.right (PO'.bnd q) fun its J H1 e1 _ w1 q1 A hA => ?_
  obtain ⟨gd, q1⟩ := PO'.grd q1
  have q2 := PO'.noX (PO'.bnd q1)
  have hsz := szLt_lt gd
  have hHA : H A = none := e1.free hA
  -- what is read stands apart from the new list
  have tight : ∀ a, nw S H a → H1 a ≠ none → nw S H a ∧ a ≠ A := fun a h1 h2 => ⟨h1, fun z => h2 (by rw [z]; exact hA)⟩
  have w2 : Wlk K (fun a => nw S H a ∧ a ≠ A) H1 J its := w1.step (fun a xs h r => ⟨tight a h r.some, r⟩) fun a xs h => h
  have hs2 : Slots K (fun a => nw S H a ∧ a ≠ A) H1 σ τ (fr ++ vs) := fun i hi d z => by
    obtain ⟨v, h1, h2⟩ := (hs.go e1) i hi d z
    exact ⟨v, h1, h2.step (fun a xs h r => ⟨tight a h r.some, r⟩) fun a xs h => h⟩
  refine ⟨fun i m σ' H' => m = its.length - i ∧ i ≤ its.length ∧ ∃ ys acc, H' A = some (.lst ys) ∧ HReps K (fun a => nw S H a ∧ a ≠ A) H' ys acc ∧ ys.length ≤ i ∧ Same H1 H' ∧ σ'.length = G'.N.length ∧
      (∀ j, j < fr.length → σ'[j]? = (stC (frN G fr) (G'.N.drop fr.length) σ)[j]?) ∧ PO' nox (fmapM (bodyM cl T I E (blk G' fr τ)) (its.drop i)) fun ds => Kt (.lst true (acc ++ ds)), ⟨its.length, by simp, Nat.zero_le _, [], [], upd_same, .nil, Nat.le_refl _, .upd hA, ?_, fun _ _ => rfl, ?_⟩, ?_⟩
  · rw [stC_len, List.length_drop]; omega
  · rw [List.drop_zero]
    exact q2.mono fun ds z => z.ok
  · rintro i m σ' H' ⟨rfl, hi, ys, acc, hy, my, ly, e2, hn, hσ, q3⟩
    by_cases hlt : i < its.length
    · refine .inr ⟨(w2.mono (fun _ z => z) e2).go hlt, fun x H2 hy2 => ?_⟩
      obtain ⟨eH, mx⟩ := (w2.mono (fun _ z => z) e2).yld hy2 (d := its[i]) (by simp [hlt])
      subst eH
      have hd : its.drop i = its[i] :: its.drop (i + 1) := List.drop_eq_getElem_cons hlt
      rw [hd] at q3
      have q4 := PO'.bnd q3
      have q5 : PO' nox (setT T its[i] (blk G' fr τ)) _ := PO'.bnd q4
      have sl : SlA K (fun a => nw S H a ∧ a ≠ A) H2 σ' (blk G' fr τ) := blk_sla (G := G) (vs := vs) (σ := σ) hl (fun i hi d z => by
        obtain ⟨v, h1, h2⟩ := hs2 i hi d z
        exact ⟨v, h1, h2.mono (fun _ z => z) e2⟩) hn hσ
      refine gT_read T sl mx q5 fun τ' σ2 sl2 hn' hk q6 => ?_
      have hn2 : σ2.length = G'.N.length := hn'.trans hn
      have hσ2 : ∀ j, j < fr.length → σ2[j]? = (stC (frN G fr) (G'.N.drop fr.length) σ)[j]? := fun j hj => by
        rw [hk j (fun z => by have := ha j z; omega)]
        exact hσ j hj
      have sl3 : ∀ is, Slots K (fun a => nw S H a ∧ a ≠ A) H2 σ2 τ' is := fun is i _ d z => sl2.2 i d z
      refine rtAt (.refl _) (sl3 _) (PO'.bnd q6) fun r H4 e4 _ q7 => ?_
      cases r with
      | false =>
        rw [if_neg Bool.false_ne_true] at q7 ⊢
        have q8 : PO' nox (fmapM (bodyM cl T I E (blk G' fr τ)) (its.drop (i + 1))) fun ds => Kt (.lst true (acc ++ ds)) := q7
        refine ⟨its.length - (i + 1), by omega, rfl, hlt, ys, acc, e4 _ _ hy, my.mono (fun _ z => z) e4, by omega, e2.trans e4, hn2, hσ2, q8⟩
      | true =>
        rw [if_pos rfl] at q7 ⊢
        refine rdAt e4 (sl3 _) (PO'.bnd q7) fun d v H5 e5 e5' m5 q8 => ?_
        have q9 : PO' nox (bnd (fmapM (bodyM cl T I E (blk G' fr τ)) (its.drop (i + 1))) fun r => .ok (d :: r)) fun ds => Kt (.lst true (acc ++ ds)) := q8
        have q10 := PO'.bnd q9
        have hy5 : H5 A = some (.lst ys) := e5 _ _ hy
        refine ⟨ys, hy5, by omega, its.length - (i + 1), by omega, rfl, hlt, ys ++ [v], acc ++ [d], upd_same, ?_, by rw [List.length_append, List.length_singleton]; omega, ?_, hn2, hσ2, ?_⟩
        · have hl5 : ∀ a xs, (nw S H a ∧ a ≠ A) → Rd H5 a (.lst xs) → (nw S H a ∧ a ≠ A) ∧ Rd (upd H5 A (.lst (ys ++ [v]))) a (.lst xs) := fun a xs h r => by
            refine ⟨h, ?_⟩
            unfold Rd
            rw [upd_ne h.2]
            exact r
          have ht5 : ∀ a xs, SqT K H5 a xs → SqT K (upd H5 A (.lst (ys ++ [v]))) a xs := fun a xs h => by
            rcases h with h | h
            · have : a ≠ A := by
                rintro rfl
                rcases h with h | ⟨o, h⟩ <;> (rw [hy5] at h; cases h)
              refine .inl ?_
              unfold Rd
              rw [upd_ne this]
              exact h
            · exact .inr h
          have m6 : HRep K (fun a => nw S H a ∧ a ≠ A) H5 v d := m5.step (fun a xs h r => ⟨by
            rcases h with h | h
            · exact h
            · have : H a = none := e1.free (e2.free h)
              exact ⟨.inr this, fun z => by rw [z, hy] at h; cases h⟩, r⟩) fun a xs h => h
          exact (((my.mono (fun _ z => z) e5).step hl5 ht5)).append (.cons (m6.step hl5 ht5) .nil)
        · exact fun b o hb => by
            have : b ≠ A := by rintro rfl; rw [hA] at hb; cases hb
            rw [upd_ne this]
            exact e5 _ _ (e2 _ _ hb)
        · refine q10.mono fun ds z => ?_
          have z' := z.ok
          rw [List.append_assoc]
          exact z'
    · have e : i = its.length := by omega
      subst e
      refine .inl ⟨(w2.mono (fun _ z => z) e2).stop (Nat.le_refl _), ?_⟩
      rw [List.drop_length] at q3
      have q4 := q3.ok
      rw [List.append_nil] at q4
      exact fin A ys acc H' (e1.trans e2) hHA hy my q4
end
section
variable {Z : Sg} {CX : CXT} {cl : Nat → List D → Res D} {xp : XK → Hp → Str → Prop} {X : Cx} {ex : Str → Prop} {G G' : Gm} {fr : List Nat}
theorem evR_comp {T : Tg} {s : Sr} {I : List IR} {E : IR} : evR cl (.comp G' fr T s I E) = fun τ => bnd (evSr cl s τ) fun its => grd (szLt its.length) (bnd (noX (fmapM (bodyM cl T I E (blk G' fr τ)) its)) fun ds => .ok (.lst true ds)) := rfl
theorem s_comp (g : GOk Z CX cl xp X ex G) {scope : Scope} {tg iter elt : Expr} {ifs : List Expr} {pos : Pos} {T : Tg} {s : Sr} {I : List IR} {E : IR} (hs : ScOk Z G scope G' fr) (hT : chkT G' T tg = true) (ha : ∀ i ∈ tgs T, fr.length ≤ i)
    (hi : PI X tg iter (RI X.K ex (varsS s) (evSr cl s))) (ht : ∀ X', GOk Z CX cl xp X' nox G' → PTs X' ifs (RT X'.K nox (varss I) (evTs cl I))) (he : ∀ X', GOk Z CX cl xp X' nox G' → PE X' elt (RD X'.K nox (vars E) (evR cl E)))
    (hf : ∀ x, foldedSetIterable iter X.env x = pure x) : PE X (.ListComp elt [⟨tg, iter, ifs, 0⟩] scope pos) (RD X.K ex (fr ++ varsS s) (evR cl (.comp G' fr T s I E))) := by
  intro pins s' σ H Q Iv h
  obtain ⟨cl', S⟩ := compSc_of g Iv.ok hs
  have p := pe_comp (pos := pos) (elt := elt) (ifs := ifs) (tg := tg) (g := gT X.K T) (tt := RT X.K nox (varss I) (evTs cl I)) (te := RD X.K nox (vars E) (evR cl E)) g.calm S hi (fun C s H fp => pgT (gok_comp g hs cl' C s H fp) T tg hT) (fun C s H fp => ht _ (gok_comp g hs cl' C s H fp)) (fun C s H fp => he _ (gok_comp g hs cl' C s H fp)) hf
  refine p pins s' σ H Q Iv ?_
  obtain ⟨S0, τ, hsl, q⟩ := h
  rw [evR_comp] at q
  exact comp_core hs.fle ha hsl q fun A ys ds H' e hA hA' m k => k _ _ e (.lst (.inr hA) (.inl hA') (m.mono (fun _ z => z.1) (.refl _)))
end
end L2
namespace L2
open PySem PySem.Spec PyProof.Rows PySem.SeqAt
section
variable {Z : Sg} {CX : CXT} {cl : Nat → List D → Res D} {xp : XK → Hp → Str → Prop}
theorem folded_of {e : Expr} {a : IR} {G : Gm} (h : chk Z G a e = true) (env : Env) (x : Value) : foldedSetIterable e env x = pure x := by
  cases e <;> first | rfl | (cases a <;> cases h)
theorem folded_src {e : Expr} {a : Sr} {G : Gm} (h : chkSr Z G a e = true) (env : Env) (x : Value) : foldedSetIterable e env x = pure x := by
  cases a with
  | val a => exact folded_of (show chk Z G a e = true from h) env x
  | _ => cases e <;> first | rfl | cases h
theorem both {X : Cx} {ex : Str → Prop} {e : Expr} {is : List Nat} {f : Ev → Res D} (h : PE X e (RD X.K ex is f)) (he : ∀ whole, isTrue e X.env whole = (do let v ← whole; standAt e.pos; holding [v] (truthy v)) := by intro _; rfl) :
    PE X e (RD X.K ex is f) ∧ PT X e (RT X.K ex is fun τ => bnd (f τ) truD) := ⟨h, pt_of h he⟩
mutual
theorem snd : ∀ (a : IR) (X : Cx) (ex : Str → Prop) (G : Gm) (e : Expr), GOk Z CX cl xp X ex G → chk Z G a e = true → PE X e (RD X.K ex (vars a) (evR cl a)) ∧ PT X e (RT X.K ex (vars a) fun τ => bnd (evR cl a τ) truD)
  | .c d, X, ex, G, e, g, h => by
    cases e with
    | Constant k j pos => exact both (s_c h)
    | _ => first | exact no_h h | cases h
  | .g n d, X, ex, G, e, g, h => by
    cases e with
    | Name x pos =>
      have h' : (chkG Z G n x && Z.kst.any fun p => p.1 == n && dbeq p.2 d) = true := h
      rw [Bool.and_eq_true] at h'
      exact both (s_g g h'.1 h'.2)
    | _ => first | exact no_h h | cases h
  | .v i, X, ex, G, e, g, h => by
    cases e with
    | Name x pos => exact both (s_v g h)
    | _ => first | exact no_h h | cases h
  | .bin op a b, X, ex, G, e, g, h => by
    cases e with
    | BinOp l o r pos =>
      have h' : (o == bop op && chk Z G a l && chk Z G b r) = true := h
      simp only [Bool.and_eq_true] at h'
      have e1 : o = bop op := eq_of_beq h'.1.1
      subst e1
      exact both (s_bin (snd a X ex G l g h'.1.2).1 (snd b X ex G r g h'.2).1)
    | _ => first | exact no_h h | cases h
  | .neg a, X, ex, G, e, g, h => by
    cases e with
    | UnaryOp o l pos =>
      cases o with
      | USub => exact both (s_neg (snd a X ex G l g h).1)
      | _ => first | exact no_h h | cases h
    | _ => first | exact no_h h | cases h
  | .cmp op a b, X, ex, G, e, g, h => by
    cases e with
    | Compare l os rs pos =>
      match os, rs, h with
      | [o], [r], h =>
        have h' : (o == cop op && chk Z G a l && chk Z G b r && !behindInMarks o r) = true := h
        simp only [Bool.and_eq_true] at h'
        have e1 : o = cop op := eq_of_beq h'.1.1.1
        subst e1
        exact s_cmp g (snd a X ex G l g h'.1.1.2).1 (snd b X ex G r g h'.1.2).1 (by simpa using h'.2)
      | [], _, h => first | exact no_h h | cases h
      | [_], [], h => first | exact no_h h | cases h
      | [_], _ :: _ :: _, h => first | exact no_h h | cases h
      | _ :: _ :: _, _, h => first | exact no_h h | cases h
    | _ => first | exact no_h h | cases h
  | .chain op op' a b c, X, ex, G, e, g, h => by
    cases e with
    | Compare l os rs pos =>
      match os, rs, h with
      | [o, o'], [m, r], h =>
        have h' : (o == cop op && o' == cop op' && chk Z G a l && chk Z G b m && chk Z G c r && !lastMarks [o, o'] [m, r]) = true := h
        simp only [Bool.and_eq_true] at h'
        have e1 : o = cop op := eq_of_beq h'.1.1.1.1.1
        have e2 : o' = cop op' := eq_of_beq h'.1.1.1.1.2
        subst e1 e2
        exact s_chain g (snd a X ex G l g h'.1.1.1.2).1 (snd b X ex G m g h'.1.1.2).1 (snd c X ex G r g h'.1.2).1 (by simpa using h'.2)
      | [], _, h => first | exact no_h h | cases h
      | [_], _, h => first | exact no_h h | cases h
      | [_, _], [], h => first | exact no_h h | cases h
      | [_, _], [_], h => first | exact no_h h | cases h
      | [_, _], _ :: _ :: _ :: _, h => first | exact no_h h | cases h
      | _ :: _ :: _ :: _, _, h => first | exact no_h h | cases h
    | _ => first | exact no_h h | cases h
  | .and_ a b, X, ex, G, e, g, h => by
    cases e with
    | BoolOp o es pos =>
      match o, es, h with
      | .And, [l, r], h =>
        have h' : (chk Z G a l && chk Z G b r) = true := h
        rw [Bool.and_eq_true] at h'
        obtain ⟨pa, ta⟩ := snd a X ex G l g h'.1
        obtain ⟨pb, tb⟩ := snd b X ex G r g h'.2
        exact ⟨s_and pa (pe_one pb), t_and ta (pw_and1 tb)⟩
      | .And, l :: r :: r' :: rest, h =>
        have h' : (chk Z G a l && chk Z G b (.BoolOp .And (r :: r' :: rest) pos)) = true := h
        rw [Bool.and_eq_true] at h'
        obtain ⟨pa, ta⟩ := snd a X ex G l g h'.1
        obtain ⟨pb, tb⟩ := snd b X ex G _ g h'.2
        exact ⟨s_and pa pb, t_and ta (pt_any (e := l) tb)⟩
      | .And, [], h => first | exact no_h h | cases h
      | .And, [_], h => first | exact no_h h | cases h
      | .Or, _, h => first | exact no_h h | cases h
    | _ => first | exact no_h h | cases h
  | .or_ a b, X, ex, G, e, g, h => by
    cases e with
    | BoolOp o es pos =>
      match o, es, h with
      | .Or, [l, r], h =>
        have h' : (chk Z G a l && chk Z G b r) = true := h
        rw [Bool.and_eq_true] at h'
        obtain ⟨pa, ta⟩ := snd a X ex G l g h'.1
        obtain ⟨pb, tb⟩ := snd b X ex G r g h'.2
        exact ⟨s_or pa (pe_one pb), t_or ta (pw_or1 tb)⟩
      | .Or, l :: r :: r' :: rest, h =>
        have h' : (chk Z G a l && chk Z G b (.BoolOp .Or (r :: r' :: rest) pos)) = true := h
        rw [Bool.and_eq_true] at h'
        obtain ⟨pa, ta⟩ := snd a X ex G l g h'.1
        obtain ⟨pb, tb⟩ := snd b X ex G _ g h'.2
        exact ⟨s_or pa pb, t_or ta (pt_any (e := l) tb)⟩
      | .Or, [], h => first | exact no_h h | cases h
      | .Or, [_], h => first | exact no_h h | cases h
      | .And, _, h => first | exact no_h h | cases h
    | _ => first | exact no_h h | cases h
  | .not_ a, X, ex, G, e, g, h => by
    cases e with
    | UnaryOp o l pos =>
      cases o with
      | Not =>
        obtain ⟨pa, ta⟩ := snd a X ex G l g h
        exact s_not pa ta
      | _ => first | exact no_h h | cases h
    | _ => first | exact no_h h | cases h
  | .ite t a b, X, ex, G, e, g, h => by
    cases e with
    | IfExp c x y pos =>
      have h' : (chk Z G t c && chk Z G a x && chk Z G b y) = true := h
      simp only [Bool.and_eq_true] at h'
      obtain ⟨pa, ta⟩ := snd a X ex G x g h'.1.2
      obtain ⟨pb, tb⟩ := snd b X ex G y g h'.2
      exact s_ite (snd t X ex G c g h'.1.1).2 pa pb ta tb
    | _ => first | exact no_h h | cases h
  | .tup es, X, ex, G, e, g, h => by
    cases e with
    | Tuple l n pos => exact both (s_tup (snds es X ex G l g h))
    | _ => first | exact no_h h | cases h
  | .lst es, X, ex, G, e, g, h => by
    cases e with
    | List l pos => exact both (s_lst (snds es X ex G l g h))
    | _ => first | exact no_h h | cases h
  | .idx a i, X, ex, G, e, g, h => by
    cases e with
    | Subscript o s pos =>
      have h' : (notSlice s && chk Z G a o && chk Z G i s) = true := by
        cases s <;> first | exact h | (rename_i l u st p; cases st <;> exact h)
      simp only [Bool.and_eq_true] at h'
      exact both (s_idx (snd a X ex G o g h'.1.2).1 (snd i X ex G s g h'.2).1 h'.1.1)
    | _ => first | exact no_h h | cases h
  | .sl a lo hi, X, ex, G, e, g, h => by
    cases e with
    | Subscript o s pos =>
      match s, h with
      | .Slice l u none p, h =>
        have h' : (chk Z G a o && chkO Z G lo l && chkO Z G hi u) = true := h
        simp only [Bool.and_eq_true] at h'
        exact both (s_sl (snd a X ex G o g h'.1.1).1 (sndO lo X ex G l g h'.1.2) (sndO hi X ex G u g h'.2))
      | .Slice _ _ (some _) _, h => first | exact no_h h | cases h
      | .BoolOp .., h => first | exact no_h h | cases h
      | .NamedExpr .., h => first | exact no_h h | cases h
      | .BinOp .., h => first | exact no_h h | cases h
      | .UnaryOp .., h => first | exact no_h h | cases h
      | .Lambda .., h => first | exact no_h h | cases h
      | .IfExp .., h => first | exact no_h h | cases h
      | .Dict .., h => first | exact no_h h | cases h
      | .Set .., h => first | exact no_h h | cases h
      | .ListComp .., h => first | exact no_h h | cases h
      | .SetComp .., h => first | exact no_h h | cases h
      | .DictComp .., h => first | exact no_h h | cases h
      | .GeneratorExp .., h => first | exact no_h h | cases h
      | .Await .., h => first | exact no_h h | cases h
      | .Yield .., h => first | exact no_h h | cases h
      | .YieldFrom .., h => first | exact no_h h | cases h
      | .Compare .., h => first | exact no_h h | cases h
      | .Call .., h => first | exact no_h h | cases h
      | .FormattedValue .., h => first | exact no_h h | cases h
      | .JoinedStr .., h => first | exact no_h h | cases h
      | .Constant .., h => first | exact no_h h | cases h
      | .Attribute .., h => first | exact no_h h | cases h
      | .Subscript .., h => first | exact no_h h | cases h
      | .Starred .., h => first | exact no_h h | cases h
      | .Name .., h => first | exact no_h h | cases h
      | .List .., h => first | exact no_h h | cases h
      | .Tuple .., h => first | exact no_h h | cases h
    | _ => first | exact no_h h | cases h
  | .call f es, X, ex, G, e, g, h => by
    cases e with
    | Call fn args kws pos =>
      cases fn with
      | Name x p =>
        cases kws with
        | nil =>
          have h' : (chkG Z G f x && Z.fns.contains f && chks Z G es args) = true := h
          simp only [Bool.and_eq_true] at h'
          exact both (s_call g h'.1.1 h'.1.2 h'.2 (snds es X ex G args g h'.2))
        | cons _ _ => first | exact no_h h | cases h
      | _ => first | exact no_h h | cases h
    | _ => first | exact no_h h | cases h
  | .bi f es, X, ex, G, e, g, h => by
    cases e with
    | Call fn args kws pos =>
      cases fn with
      | Name x p =>
        cases kws with
        | nil =>
          cases args with
          | nil => first | exact no_h h | cases h
          | cons a args =>
            have h' : (x == biName f && G.gl.contains (biNum f) && chks Z G es (a :: args)) = true := h
            simp only [Bool.and_eq_true] at h'
            have e1 : x = biName f := eq_of_beq h'.1.1
            subst e1
            exact both (s_bi g h'.1.2 h'.2 (snds es X ex G _ g h'.2))
        | cons _ _ => cases args <;> first | exact no_h h | cases h
      | _ => first | exact no_h h | cases h
    | _ => first | exact no_h h | cases h
  | .ftx x a, X, ex, G, e, g, h => by
    have h : jnt e (fun c e' => chkC (.str x) c && decide (x.length ≤ 1000) && chk Z G a e') = true := by cases e <;> exact h
    obtain ⟨c, j, p, e', q, pos, rfl, h⟩ := jnt_ok h
    have h : (chkC (.str x) c && decide (x.length ≤ 1000) && chk Z G a e') = true := h
    rw [Bool.and_eq_true, Bool.and_eq_true] at h
    exact both (s_ftx h.1.1 (of_decide_eq_true h.1.2) (snd a X ex G e' g h.2).1)
  | .isi a k, X, ex, G, e, g, h => by
    cases e with
    | Call fn args kws pos =>
      cases fn with
      | Name x p =>
        match args, kws, h with
        | [o, .Name y p'], [], h =>
          have h' : (x == "isinstance" && G.gl.contains 14 && y == kdName k && G.gl.contains (kdNum k) && notStar o && chk Z G a o) = true := h
          simp only [Bool.and_eq_true] at h'
          have e1 : x = "isinstance" := eq_of_beq h'.1.1.1.1.1
          have e2 : y = kdName k := eq_of_beq h'.1.1.1.2
          subst e1 e2
          exact both (s_isi g h'.1.1.1.1.2 h'.1.1.2 h'.1.2 (snd a X ex G o g h'.2).1)
        | [], _, h => first | exact no_h h | cases h
        | [_], _, h => first | exact no_h h | cases h
        | _ :: b :: _ :: _, k, h => cases b <;> cases k <;> first | exact no_h h | cases h
        | [_, .Name _ _], _ :: _, h => first | exact no_h h | cases h
        | [_, .BoolOp ..], _, h => first | exact no_h h | cases h
        | [_, .NamedExpr ..], _, h => first | exact no_h h | cases h
        | [_, .BinOp ..], _, h => first | exact no_h h | cases h
        | [_, .UnaryOp ..], _, h => first | exact no_h h | cases h
        | [_, .Lambda ..], _, h => first | exact no_h h | cases h
        | [_, .IfExp ..], _, h => first | exact no_h h | cases h
        | [_, .Dict ..], _, h => first | exact no_h h | cases h
        | [_, .Set ..], _, h => first | exact no_h h | cases h
        | [_, .ListComp ..], _, h => first | exact no_h h | cases h
        | [_, .SetComp ..], _, h => first | exact no_h h | cases h
        | [_, .DictComp ..], _, h => first | exact no_h h | cases h
        | [_, .GeneratorExp ..], _, h => first | exact no_h h | cases h
        | [_, .Await ..], _, h => first | exact no_h h | cases h
        | [_, .Yield ..], _, h => first | exact no_h h | cases h
        | [_, .YieldFrom ..], _, h => first | exact no_h h | cases h
        | [_, .Compare ..], _, h => first | exact no_h h | cases h
        | [_, .Call ..], _, h => first | exact no_h h | cases h
        | [_, .FormattedValue ..], _, h => first | exact no_h h | cases h
        | [_, .JoinedStr ..], _, h => first | exact no_h h | cases h
        | [_, .Constant ..], _, h => first | exact no_h h | cases h
        | [_, .Attribute ..], _, h => first | exact no_h h | cases h
        | [_, .Subscript ..], _, h => first | exact no_h h | cases h
        | [_, .Starred ..], _, h => first | exact no_h h | cases h
        | [_, .Slice ..], _, h => first | exact no_h h | cases h
        | [_, .List ..], _, h => first | exact no_h h | cases h
        | [_, .Tuple ..], _, h => first | exact no_h h | cases h
      | _ => first | exact no_h h | cases h
    | _ => first | exact no_h h | cases h
  | .mth m o es, X, ex, G, e, g, h => by
    cases e with
    | Call fn args kws pos =>
      cases fn with
      | Attribute oe name apos =>
        match args, kws, h with
        | a :: args, [], h =>
          have h' : (name == mtName m && notCall0 oe && apos.endLine == pos.line && decide ((a :: args).length < 29) && chk Z G o oe && chks Z G es (a :: args)) = true := h
          simp only [Bool.and_eq_true] at h'
          have e1 : name = mtName m := eq_of_beq h'.1.1.1.1.1
          subst e1
          exact both (s_mth g h'.1.1.1.1.2 h'.1.1.1.2 (of_decide_eq_true h'.1.1.2) h'.2 (snd o X ex G oe g h'.1.2).1 (snds es X ex G _ g h'.2))
        | [], _, h => first | exact no_h h | cases h
        | _ :: _, _ :: _, h => first | exact no_h h | cases h
      | _ => first | exact no_h h | cases h
    | _ => first | exact no_h h | cases h
  | .comp G' fr tg src ifs elt, X, ex, G, e, g, h => by
    cases e with
    | ListComp el gens scope pos =>
      have h : gen1 gens (fun t it fs => chkScope Z G scope G' fr && chkT G' tg t && (tgs tg).all (fun i => decide (fr.length ≤ i)) && chkSr Z G src it && chks Z G' ifs fs && chk Z G' elt el) = true := h
      obtain ⟨t, it, fs, rfl, h⟩ := gen1_ok h
      have h' : (chkScope Z G scope G' fr && chkT G' tg t && (tgs tg).all (fun i => decide (fr.length ≤ i)) && chkSr Z G src it && chks Z G' ifs fs && chk Z G' elt el) = true := h
      simp only [Bool.and_eq_true] at h'
      exact both (s_comp g (scOk_of h'.1.1.1.1.1) h'.1.1.1.1.2 (fun i hi => of_decide_eq_true (List.all_eq_true.mp h'.1.1.1.2 i hi)) (sndS src X ex G it t g h'.1.1.2)
        (fun X' g' => sndT ifs X' nox G' fs g' h'.1.2) (fun X' g' => (snd elt X' nox G' el g' h'.2).1) (fun x => folded_src h'.1.1.2 X.env x))
    | _ => first | exact no_h h | cases h
theorem snds : ∀ (as : List IR) (X : Cx) (ex : Str → Prop) (G : Gm) (l : List Expr), GOk Z CX cl xp X ex G → chks Z G as l = true → PA X l (RA X.K ex (varss as) (evRs cl as))
  | [], X, ex, G, l, g, h => by
    cases l with
    | nil => exact paMono pa_nil fun σ H Q ⟨S, τ, hs, q⟩ => q.ok _ _ (.refl _) .nil
    | cons _ _ => first | exact no_h h | cases h
  | a :: as, X, ex, G, l, g, h => by
    cases l with
    | nil => first | exact no_h h | cases h
    | cons e l =>
      have h' : (notStar e && chk Z G a e && chks Z G as l) = true := h
      simp only [Bool.and_eq_true] at h'
      refine paMono (pa_cons (snd a X ex G e g h'.1.2).1 (snds as X ex G l g h'.2) (star_cons h'.1.1 _ _)) fun σ H Q ⟨S, τ, hs, q⟩ => ?_
      refine rdAt (.refl _) hs.left (PO'.bnd q) fun x v H1 e1 _ m1 q1 => ?_
      refine raAt e1 hs.right (PO'.bnd q1) fun ds vs H2 e2 e2' m2 q2 => ?_
      exact q2.ok _ _ e2 (.cons (m1.later e2') m2)
theorem sndO : ∀ (o : Option IR) (X : Cx) (ex : Str → Prop) (G : Gm) (e : Option Expr), GOk Z CX cl xp X ex G → chkO Z G o e = true → PO X e (ROp X.K ex (varsO o) (evRO cl o))
  | none, X, ex, G, e, g, h => by
    cases e with
    | none =>
      intro pins s σ H Q I ⟨S, τ, hs, q⟩
      exact po_none pins s σ H Q I (q.ok H (.refl _))
    | some _ => first | exact no_h h | cases h
  | some a, X, ex, G, e, g, h => by
    cases e with
    | none => first | exact no_h h | cases h
    | some e =>
      intro pins s σ H Q I ⟨S, τ, hs, q⟩
      refine po_some (snd a X ex G e g h).1 pins s σ H Q I ?_
      refine rdAt (.refl _) hs (PO'.bnd q) fun x v H1 e1 _ m1 q1 => ?_
      cases x with
      | int i => cases m1.intR; exact ⟨i, rfl, q1.ok _ e1⟩
      | _ => exact q1.no.elim
theorem sndT : ∀ (as : List IR) (X : Cx) (ex : Str → Prop) (G : Gm) (l : List Expr), GOk Z CX cl xp X ex G → chks Z G as l = true → PTs X l (RT X.K ex (varss as) (evTs cl as))
  | [], X, ex, G, l, g, h => by
    cases l with
    | nil => intro pins s σ H Q I ⟨S, τ, hs, q⟩; exact pts_nil pins s σ H Q I (q.ok H (.refl _))
    | cons _ _ => first | exact no_h h | cases h
  | a :: as, X, ex, G, l, g, h => by
    cases l with
    | nil => first | exact no_h h | cases h
    | cons e l =>
      have h' : (notStar e && chk Z G a e && chks Z G as l) = true := h
      simp only [Bool.and_eq_true] at h'
      intro pins s σ H Q I ⟨S, τ, hs, q⟩
      refine pts_cons (snd a X ex G e g h'.1.2).2 (sndT as X ex G l g h'.2) pins s σ H Q I ?_
      refine rtAt (.refl _) hs.left (PO'.bnd q) fun r H2 e2 _ k => ?_
      cases r with
      | true => rw [if_pos rfl] at k ⊢; exact rtAt e2 hs.right k fun b H3 e3 _ z => z H3 e3
      | false => rw [if_neg Bool.false_ne_true] at k ⊢; exact k.ok H2 e2
theorem sndS : ∀ (s : Sr) (X : Cx) (ex : Str → Prop) (G : Gm) (e tg : Expr), GOk Z CX cl xp X ex G → chkSr Z G s e = true → PI X tg e (RI X.K ex (varsS s) (evSr cl s))
  | .rng1 n, X, ex, G, e, tg, g, h => by
    cases e with
    | Call fn args kws pos =>
      cases fn with
      | Name x p =>
        match args, kws, h with
        | [a], [], h =>
          have h' : (x == "range" && G.gl.contains 15 && notStar a && chk Z G n a) = true := h
          simp only [Bool.and_eq_true] at h'
          have e1 : x = "range" := eq_of_beq h'.1.1.1
          subst e1
          exact i_rng1 g h'.1.1.2 h'.1.2 (snd n X ex G a g h'.2).1
        | [], _, h => first | exact no_h h | cases h
        | [_], _ :: _, h => first | exact no_h h | cases h
        | _ :: _ :: _, _, h => first | exact no_h h | cases h
      | _ => first | exact no_h h | cases h
    | _ => first | exact no_h h | cases h
  | .rng2 a b, X, ex, G, e, tg, g, h => by
    cases e with
    | Call fn args kws pos =>
      cases fn with
      | Name x p =>
        match args, kws, h with
        | [l, r], [], h =>
          have h' : (x == "range" && G.gl.contains 15 && notStar l && notStar r && chk Z G a l && chk Z G b r) = true := h
          simp only [Bool.and_eq_true] at h'
          have e1 : x = "range" := eq_of_beq h'.1.1.1.1.1
          subst e1
          exact i_rng2 g h'.1.1.1.1.2 h'.1.1.1.2 h'.1.1.2 (snd a X ex G l g h'.1.2).1 (snd b X ex G r g h'.2).1
        | [], _, h => first | exact no_h h | cases h
        | [_], _, h => first | exact no_h h | cases h
        | [_, _], _ :: _, h => first | exact no_h h | cases h
        | _ :: _ :: _ :: _, _, h => first | exact no_h h | cases h
      | _ => first | exact no_h h | cases h
    | _ => first | exact no_h h | cases h
  | .val a, X, ex, G, e, tg, g, h => i_val (snd a X ex G e g h).1
  | .rev a, X, ex, G, e, tg, g, h => by cases e <;> first | exact no_h h | cases h
end
end
end L2
namespace L2
open PySem PySem.Spec PyProof.Rows PySem.SeqAt
inductive Rps (K : PySem.W.Frag) (F : Addr → Prop) (H : Hp) : St → Ev → List Addr → Prop where
  | nil : Rps K F H [] [] []
  | none {o : Option V} {σ : St} {τ : Ev} {f : List Addr} : Rps K F H σ τ f → Rps K F H (o :: σ) (.none :: τ) f
  | some {v : V} {d : D} {f : List Addr} {σ : St} {τ : Ev} {g : List Addr} : MRep K F H v d f → Rps K F H σ τ g → Rps K F H (.some v :: σ) (.some d :: τ) (f ++ g)
section
variable {K : PySem.W.Frag} {F F' : Addr → Prop} {H H' : Hp} {σ : St} {τ : Ev} {f : List Addr}
theorem Rps.len : ∀ {σ : St} {τ : Ev} {f : List Addr}, Rps K F H σ τ f → σ.length = τ.length
  | _, _, _, .nil => rfl
  | _, _, _, .none h => by rw [List.length_cons, List.length_cons, Rps.len h]
  | _, _, _, .some _ h => by rw [List.length_cons, List.length_cons, Rps.len h]
theorem Rps.step (hl : ∀ a xs, F a → Rd H a (.lst xs) → F' a ∧ Rd H' a (.lst xs)) (ht : ∀ a xs, SqT K H a xs → SqT K H' a xs) : ∀ {σ : St} {τ : Ev} {f : List Addr}, (∀ a ∈ f, ¬ F a → H a ≠ Option.none → ¬ F' a ∧ H' a = H a) → Rps K F H σ τ f → Rps K F' H' σ τ f
  | _, _, _, _, .nil => .nil
  | _, _, _, k, .none h => .none (Rps.step hl ht k h)
  | _, _, _, k, .some m h => .some (m.step hl ht fun a ha => k a (List.mem_append_left _ ha)) (Rps.step hl ht (fun a ha => k a (List.mem_append_right _ ha)) h)
theorem Rps.own : ∀ {σ : St} {τ : Ev} {f : List Addr}, Rps K F H σ τ f → ∀ a ∈ f, ¬ F a ∧ ∃ xs, H a = .some (.lst xs)
  | _, _, _, .nil => fun _ h => absurd h (by simp)
  | _, _, _, .none h => Rps.own h
  | _, _, _, .some m h => fun a ha => by
    rcases List.mem_append.mp ha with ha | ha
    · exact m.own a ha
    · exact Rps.own h a ha
theorem slotD_cons {o : Option D} {τ : Ev} {i : Nat} : slotD (o :: τ) (i + 1) = slotD τ i := by unfold slotD; simp
theorem slotD_zero {o : Option D} {τ : Ev} : slotD (o :: τ) 0 = o := by unfold slotD; simp
theorem Rps.at : ∀ {σ : St} {τ : Ev} {f : List Addr} {i : Nat} {d : D}, Rps K F H σ τ f → slotD τ i = .some d → ∃ v fv g, σ[i]? = .some (.some v) ∧ MRep K F H v d fv ∧ Rps K F H σ (τ.set i .none) g ∧ f.Perm (fv ++ g)
  | _, _, _, i, d, .nil, h => by simp [slotD] at h
  | _, _, _, 0, d, .none _, h => by rw [slotD_zero] at h; cases h
  | _, _, _, 0, d, .some m h', h => by
    rw [slotD_zero] at h
    cases h
    exact ⟨_, _, _, rfl, m, .none h', .refl _⟩
  | _, _, _, i + 1, d, .none h', h => by
    rw [slotD_cons] at h
    obtain ⟨v, fv, g, h1, h2, h3, h4⟩ := Rps.at h' h
    exact ⟨v, fv, g, by simpa using h1, h2, .none h3, h4⟩
  | _, _, _, i + 1, d, .some (f := f0) m h', h => by
    rw [slotD_cons] at h
    obtain ⟨v, fv, g, h1, h2, h3, h4⟩ := Rps.at h' h
    refine ⟨v, fv, f0 ++ g, by simpa using h1, h2, .some m h3, ?_⟩
    refine (List.Perm.append_left f0 h4).trans ?_
    rw [← List.append_assoc, ← List.append_assoc]
    exact List.Perm.append_right g List.perm_append_comm
theorem Rps.put : ∀ {σ : St} {τ : Ev} {f : List Addr} (i : Nat) {v : V} {d : D} {fv : List Addr}, Rps K F H σ τ f → MRep K F H v d fv → ∃ g h, Rps K F H (σ.set i (.some v)) (τ.set i (.some d)) g ∧ (g ++ h).Perm (fv ++ f)
  | _, _, _, i, v, d, fv, .nil, m => ⟨[], _, .nil, .refl _⟩
  | _, _, _, 0, v, d, fv, .none h, m => ⟨_, [], .some m h, by rw [List.append_nil]⟩
  | _, _, _, 0, v, d, fv, .some (f := f0) (g := g0) m' h, m => ⟨_, f0, .some m h, by rw [List.append_assoc]; exact List.Perm.append_left _ List.perm_append_comm⟩
  | _, _, _, i + 1, v, d, fv, .none h, m => by
    obtain ⟨g, h', h1, h2⟩ := Rps.put i h m
    exact ⟨g, h', .none h1, h2⟩
  | _, _, _, i + 1, v, d, fv, .some (f := f0) (g := g0) m' h, m => by
    obtain ⟨g, h', h1, h2⟩ := Rps.put i h m
    refine ⟨f0 ++ g, h', .some m' h1, ?_⟩
    rw [List.append_assoc]
    refine (List.Perm.append_left f0 h2).trans ?_
    rw [← List.append_assoc, ← List.append_assoc]
    exact List.Perm.append_right g0 List.perm_append_comm
theorem Rps.slots {S : Addr → Prop} {is : List Nat} (h : Rps K F H σ τ f) (hF : ∀ a, F a → S a) (hf : ∀ a ∈ f, S a) : Slots K S H σ τ is := fun i hi d z => by
  obtain ⟨v, fv, g, h1, h2, h3, h4⟩ := h.at z
  exact ⟨v, h1, h2.read hF fun a ha => hf a (h4.mem_iff.mpr (List.mem_append_left _ ha))⟩
theorem Rps.freeze (is : List Nat) : ∀ {σ : St} {τ : Ev} {f : List Addr} (k : Nat), Rps K F H σ τ f → ∃ fi g, f.Perm (fi ++ g) ∧ (∀ F' : Addr → Prop, (∀ a, F a → F' a) → (∀ a ∈ fi, F' a) → (∀ a ∈ g, ¬ F a → ¬ F' a) → Rps K F' H σ (frzA is k τ) g) ∧
    ∀ F' : Addr → Prop, (∀ a, F a → F' a) → (∀ a ∈ fi, F' a) → ∀ i, is.contains (k + i) = true → ∀ d, slotD τ i = .some d → ∃ v, σ[i]? = .some (.some v) ∧ HRep K F' H v d
  | _, _, _, k, .nil => ⟨[], [], .refl _, fun _ _ _ _ => .nil, fun _ _ _ i _ d z => by simp [slotD] at z⟩
  | _, _, _, k, .none h => by
    obtain ⟨fi, g, h1, h2, h3⟩ := Rps.freeze is (k + 1) h
    refine ⟨fi, g, h1, fun F' a b c => ?_, fun F' a b i hi d z => ?_⟩
    · unfold frzA
      have e : (if is.contains k = true then Option.map er (Option.none : Option D) else Option.none) = Option.none := by split <;> rfl
      rw [e]
      exact .none (h2 F' a b c)
    · cases i with
      | zero => rw [slotD_zero] at z; cases z
      | succ i =>
        rw [slotD_cons] at z
        obtain ⟨v, q1, q2⟩ := h3 F' a b i (by rw [show k + 1 + i = k + (i + 1) by omega]; exact hi) d z
        exact ⟨v, by simpa using q1, q2⟩
  | _, _, _, k, .some (v := v) (d := d0) (f := f0) (g := g0) m h => by
    obtain ⟨fi, g, h1, h2, h3⟩ := Rps.freeze is (k + 1) h
    by_cases hc : is.contains k = true
    · refine ⟨f0 ++ fi, g, by rw [List.append_assoc]; exact List.Perm.append_left _ h1, fun F' a b c => ?_, fun F' a b i hi d z => ?_⟩
      · unfold frzA
        rw [if_pos hc]
        exact .some (f := []) ((m.read a fun x hx => b x (List.mem_append_left _ hx)).frozen) (h2 F' a (fun x hx => b x (List.mem_append_right _ hx)) c)
      · cases i with
        | zero =>
          rw [slotD_zero] at z
          cases z
          exact ⟨v, rfl, m.read a fun x hx => b x (List.mem_append_left _ hx)⟩
        | succ i =>
          rw [slotD_cons] at z
          obtain ⟨v, q1, q2⟩ := h3 F' a (fun x hx => b x (List.mem_append_right _ hx)) i (by rw [show k + 1 + i = k + (i + 1) by omega]; exact hi) d z
          exact ⟨v, by simpa using q1, q2⟩
    · refine ⟨fi, f0 ++ g, ?_, fun F' a b c => ?_, fun F' a b i hi d z => ?_⟩
      · refine (List.Perm.append_left f0 h1).trans ?_
        rw [← List.append_assoc, ← List.append_assoc]
        exact List.Perm.append_right g List.perm_append_comm
      · unfold frzA
        rw [if_neg hc]
        exact .some (m.step (fun x xs q r => ⟨a x q, r⟩) (fun x xs q => q) fun x hx n _ => ⟨c x (List.mem_append_left _ hx) n, rfl⟩) (h2 F' a b fun x hx => c x (List.mem_append_right _ hx))
      · cases i with
        | zero => exact absurd hi hc
        | succ i =>
          rw [slotD_cons] at z
          obtain ⟨v, q1, q2⟩ := h3 F' a b i (by rw [show k + 1 + i = k + (i + 1) by omega]; exact hi) d z
          exact ⟨v, by simpa using q1, q2⟩
end
structure Stp (F : Addr → Prop) (H : Hp) (f : List Addr) (F' : Addr → Prop) (H' : Hp) : Prop where
  same : Same H H'
  inn : ∀ a, F a → F' a
  out : ∀ a, F' a → F a ∨ a ∈ f ∨ H a = none
structure Ow (K : PySem.W.Frag) (F : Addr → Prop) (H : Hp) (f : List Addr) (F' : Addr → Prop) (H' : Hp) (σ : St) (v : V) (d : D) (fv : List Addr) (τ' : Ev) (f' : List Addr) : Prop where
  stp : Stp F H f F' H'
  fok : FOk F' H'
  rep : MRep K F' H' v d fv
  rps : Rps K F' H' σ τ' f'
  nod : (fv ++ f').Nodup
  mem : ∀ a ∈ fv ++ f', a ∈ f ∨ H a = none
structure Ows (K : PySem.W.Frag) (F : Addr → Prop) (H : Hp) (f : List Addr) (F' : Addr → Prop) (H' : Hp) (σ : St) (v : List V) (d : List D) (fv : List Addr) (τ' : Ev) (f' : List Addr) : Prop where
  stp : Stp F H f F' H'
  fok : FOk F' H'
  rep : MReps K F' H' v d fv
  rps : Rps K F' H' σ τ' f'
  nod : (fv ++ f').Nodup
  mem : ∀ a ∈ fv ++ f', a ∈ f ∨ H a = none
section
variable {K : PySem.W.Frag} {F F' F'' : Addr → Prop} {H H' H'' : Hp} {f f' : List Addr}
theorem Stp.refl : Stp F H f F H := ⟨.refl _, fun _ h => h, fun _ h => .inl h⟩
theorem Stp.trans (a : Stp F H f F' H') (b : Stp F' H' f' F'' H'') (hf : ∀ x ∈ f', x ∈ f ∨ H x = none) : Stp F H f F'' H'' := ⟨a.same.trans b.same, fun x h => b.inn x (a.inn x h), fun x h => by
  rcases b.out x h with h | h | h
  · exact a.out x h
  · rcases hf x h with h | h
    · exact .inr (.inl h)
    · exact .inr (.inr h)
  · exact .inr (.inr (a.same.free h))⟩
theorem MRep.stp {v : V} {d : D} {fv : List Addr} (m : MRep K F H v d fv) (s : Stp F H f F' H') (h : ∀ a ∈ fv, a ∉ f) : MRep K F' H' v d fv :=
  m.step (fun a xs q r => ⟨s.inn a q, s.same.rd r⟩) (fun a xs q => s.same.seqT q) fun a ha n hn => by
    obtain ⟨_, xs, e⟩ := m.own a ha
    refine ⟨fun z => ?_, (s.same _ _ e).trans e.symm⟩
    rcases s.out a z with z | z | z
    · exact n z
    · exact h a ha z
    · exact hn z
theorem MReps.stp {v : List V} {d : List D} {fv : List Addr} (m : MReps K F H v d fv) (s : Stp F H f F' H') (h : ∀ a ∈ fv, a ∉ f) : MReps K F' H' v d fv :=
  m.step (fun a xs q r => ⟨s.inn a q, s.same.rd r⟩) (fun a xs q => s.same.seqT q) fun a ha n hn => by
    obtain ⟨_, xs, e⟩ := m.own a ha
    refine ⟨fun z => ?_, (s.same _ _ e).trans e.symm⟩
    rcases s.out a z with z | z | z
    · exact n z
    · exact h a ha z
    · exact hn z
end
end L2
namespace L2
open PySem PySem.Spec PyProof.Rows PySem.SeqAt
noncomputable def RO (K : PySem.W.Frag) (ex : Str → Prop) (g : Ev → Res (D × Ev)) : TE := fun σ H Q => ∃ F τ f, FOk F H ∧ Rps K F H σ τ f ∧ f.Nodup ∧ PO' ex (g τ) fun p => ∀ v H' F' fv f', Ow K F H f F' H' σ v p.1 fv p.2 f' → Q v H'
noncomputable def ROs (K : PySem.W.Frag) (ex : Str → Prop) (g : Ev → Res (List D × Ev)) : TA := fun σ H Q => ∃ F τ f, FOk F H ∧ Rps K F H σ τ f ∧ f.Nodup ∧ PO' ex (g τ) fun p => ∀ v H' F' fv f', Ows K F H f F' H' σ v p.1 fv p.2 f' → Q v H'
noncomputable abbrev Kn (K : PySem.W.Frag) (S : Addr → Prop) (H : Hp) (Q : VK) : List D → Prop := fun ds => ∀ p ys H', Same H H' → H p = none → H' p = some (.lst ys) → HReps K (fun a => nw S H a ∧ a ≠ p) H' ys ds → Q (.ref p) H'
noncomputable def RN (K : PySem.W.Frag) (ex : Str → Prop) (is : List Nat) (f : Ev → Res (List D)) : TE := fun σ H Q => ∃ S τ, Slots K S H σ τ is ∧ PO' ex (f τ) (Kn K S H Q)
noncomputable def asLst : D → Res (List D)
  | .lst _ ds => .ok ds
  | _ => stk
section
variable {K : PySem.W.Frag} {F F' : Addr → Prop} {H H' : Hp} {σ : St} {τ : Ev} {f : List Addr} {ex : Str → Prop} {S : Addr → Prop}
theorem newN {vs ws : List V} {ds : List D} {p : Addr} {H2 : Hp} (m : HReps K (nw S H) H2 vs ds) (hp : H2 p = none) : HReps K (fun a => nw S H a ∧ a ≠ p) (upd H2 p (.lst ws)) vs ds :=
  m.step (fun a xs h r => by
    have hne : a ≠ p := fun z => r.some (by rw [z]; exact hp)
    refine ⟨⟨h, hne⟩, ?_⟩
    unfold Rd
    rw [upd_ne hne]
    exact r) fun a xs h => (Same.upd hp).seqT h
theorem grow (P : Addr → Prop) (fok : FOk F H) (r : Rps K F H σ τ f) (e : Same H H') :
    FOk (fun a => F a ∨ (P a ∧ H a = none ∧ H' a ≠ none)) H' ∧ Rps K (fun a => F a ∨ (P a ∧ H a = none ∧ H' a ≠ none)) H' σ τ f ∧ Stp F H f (fun a => F a ∨ (P a ∧ H a = none ∧ H' a ≠ none)) H' := by
  refine ⟨fun a h => ?_, r.step (fun a xs q rd => ⟨.inl q, e.rd rd⟩) (fun a xs q => e.seqT q) fun a ha n hn => ⟨fun z => ?_, ?_⟩, ⟨e, fun a h => .inl h, fun a h => ?_⟩⟩
  · rcases h with h | h
    · intro z
      exact fok a h (e.free z)
    · exact h.2.2
  · rcases z with z | z
    · exact n z
    · exact hn z.2.1
  · obtain ⟨_, xs, q⟩ := r.own a ha
    exact (e _ _ q).trans q.symm
  · rcases h with h | h
    · exact .inl h
    · exact .inr (.inr h.2.1)
theorem grow0 (fok : FOk F H) (r : Rps K F H σ τ f) (e : Same H H') : FOk F H' ∧ Rps K F H' σ τ f ∧ Stp F H f F H' := by
  refine ⟨fun a h z => fok a h (e.free z), r.step (fun a xs q rd => ⟨q, e.rd rd⟩) (fun a xs q => e.seqT q) fun a ha n hn => ⟨n, ?_⟩, ⟨e, fun a h => h, fun a h => .inl h⟩⟩
  obtain ⟨_, xs, q⟩ := r.own a ha
  exact (e _ _ q).trans q.symm
theorem freeze1 (is : List Nat) (fok : FOk F H) (r : Rps K F H σ τ f) (nd : f.Nodup) : ∃ F1 g, FOk F1 H ∧ Rps K F1 H σ (frz is τ) g ∧ g.Nodup ∧ Stp F H f F1 H ∧ (∀ a ∈ g, a ∈ f) ∧ Slots K F1 H σ τ is := by
  obtain ⟨fi, g, h1, h2, h3⟩ := r.freeze is 0
  have nd' : (fi ++ g).Nodup := h1.nodup_iff.mp nd
  have dis : ∀ a ∈ g, a ∉ fi := fun a ha hb => (List.nodup_append.mp nd').2.2 a hb a ha rfl
  have inF : ∀ a ∈ fi, a ∈ f := fun a ha => h1.mem_iff.mpr (List.mem_append_left _ ha)
  have inG : ∀ a ∈ g, a ∈ f := fun a ha => h1.mem_iff.mpr (List.mem_append_right _ ha)
  refine ⟨fun a => F a ∨ a ∈ fi, g, fun a h => ?_, h2 _ (fun a h => .inl h) (fun a h => .inr h) (fun a ha n z => ?_), (List.nodup_append.mp nd').2.1, ⟨.refl _, fun a h => .inl h, fun a h => ?_⟩, inG, fun i hi d z => ?_⟩
  · rcases h with h | h
    · exact fok a h
    · obtain ⟨_, xs, q⟩ := r.own a (inF a h)
      rw [q]; simp
  · rcases z with z | z
    · exact n z
    · exact dis a ha z
  · rcases h with h | h
    · exact .inl h
    · exact .inr (.inl (inF a h))
  · exact h3 _ (fun a h => .inl h) (fun a h => .inr h) i (by simpa using hi) d z
theorem all_slots {is : List Nat} (r : Rps K F H σ τ f) : Slots K (fun _ => True) H σ τ is := r.slots (fun _ _ => trivial) fun _ _ => trivial
theorem HRep.fix {v : V} {d : D} (m : HRep K (L2.nw F H) H' v d) : HRep K (fun a => F a ∨ (True ∧ H a = none ∧ H' a ≠ none)) H' v d := m.step (fun a xs h r => ⟨h.elim (fun z => .inl z) fun z => .inr ⟨trivial, z, r.some⟩, r⟩) fun a xs h => h
end
section
variable {X : Cx} {ex : Str → Prop} {cl : Nat → List D → Res D}
theorem o_v {i : Nat} {e : Expr} (he : PE X e (tVar i)) (mv : Bool) : PE X e (RO X.K ex (evO cl mv (.v i))) := by
  refine peMono he fun σ H Q ⟨F, τ, f, fok, r, nd, q⟩ => ?_
  rw [evO_v] at q
  cases z : slotD τ i with
  | none => rw [z] at q; exact q.no.elim
  | some d =>
    rw [z] at q
    obtain ⟨v, fv, g, h1, h2, h3, h4⟩ := r.at z
    have nd' : (fv ++ g).Nodup := h4.nodup_iff.mp nd
    cases mv with
    | true =>
      have q' := (show PO' ex (.ok (d, τ.set i none) : Res (D × Ev)) _ from q).ok
      exact ⟨v, h1, q' v H F fv g ⟨.refl, fok, h2, h3, nd', fun a ha => .inl (h4.mem_iff.mpr ha)⟩⟩
    | false =>
      have q' := (show PO' ex (.ok (er d, τ.set i (some (er d))) : Res (D × Ev)) _ from q).ok
      have dis : ∀ a ∈ g, a ∉ fv := fun a ha hb => (List.nodup_append.mp nd').2.2 a hb a ha rfl
      have m1 : MRep X.K (fun a => F a ∨ a ∈ fv) H v (er d) [] := (h2.read (fun a h => .inl h) (fun a h => .inr h)).frozen
      have r1 : Rps X.K (fun a => F a ∨ a ∈ fv) H σ (τ.set i none) g := h3.step (fun a xs h r => ⟨.inl h, r⟩) (fun a xs h => h) fun a ha n _ => ⟨fun z => z.elim n (dis a ha), rfl⟩
      obtain ⟨g', h', r2, p2⟩ := r1.put i m1
      have hσ : σ.set i (some v) = σ := by
        apply List.ext_getElem?
        intro j
        rw [List.getElem?_set]
        by_cases hj : i = j
        · subst hj
          have hlt : i < σ.length := (List.getElem?_eq_some_iff.mp h1).1
          rw [if_pos rfl, if_pos hlt, h1]
        · rw [if_neg hj]
      rw [hσ, List.set_set] at r2
      rw [List.nil_append] at p2
      have nd2 : (g' ++ h').Nodup := p2.nodup_iff.mpr (List.nodup_append.mp nd').2.1
      refine ⟨v, h1, q' v H _ [] g' ⟨⟨.refl _, fun a h => .inl h, fun a h => ?_⟩, fun a h => ?_, m1, r2, (List.nodup_append.mp nd2).1, fun a ha => ?_⟩⟩
      · exact h.elim (fun z => .inl z) fun z => .inr (.inl (h4.mem_iff.mpr (List.mem_append_left _ z)))
      · rcases h with h | h
        · exact fok a h
        · obtain ⟨_, xs, e⟩ := h2.own a h
          rw [e]; simp
      · have : a ∈ g := p2.mem_iff.mp (List.mem_append_left _ (by simpa using ha))
        exact .inl (h4.mem_iff.mpr (List.mem_append_right _ this))
theorem o_tup {l : List Expr} {n : Nat} {pos : Pos} {g : Ev → Res (List D × Ev)} (h : PA X l (ROs X.K ex g)) : PE X (.Tuple l n pos) (RO X.K ex fun τ => bnd (g τ) fun p => grd (szOk p.1.length) (.ok (.tup p.1, p.2))) := by
  refine peMono (pe_tup h) fun σ H Q ⟨F, τ, f, fok, r, nd, q⟩ => ⟨F, τ, f, fok, r, nd, (PO'.bnd q).mono fun p hp vs H1 F1 fv f1 o => ?_⟩
  obtain ⟨gd, hp⟩ := PO'.grd hp
  refine ⟨by rw [o.rep.length]; exact szOk_le gd, fun p' hp' => hp.ok _ _ F1 fv f1 ?_⟩
  have e : Same H1 (upd H1 p' (.tup vs)) := .upd hp'
  obtain ⟨k1, k2, k3⟩ := grow0 o.fok o.rps e
  refine ⟨o.stp.trans k3 (fun x hx => o.mem x (List.mem_append_right _ hx)), k1, .tup (.inl (.inl upd_same)) (o.rep.stp k3 fun a ha hb => (List.nodup_append.mp o.nod).2.2 a ha a hb rfl), k2, o.nod, o.mem⟩
theorem o_lst {l : List Expr} {pos : Pos} {g : Ev → Res (List D × Ev)} (h : PA X l (ROs X.K ex g)) : PE X (.List l pos) (RO X.K ex fun τ => bnd (g τ) fun p => grd (szOk p.1.length) (.ok (.lst true p.1, p.2))) := by
  refine peMono (pe_lst h) fun σ H Q ⟨F, τ, f, fok, r, nd, q⟩ => ⟨F, τ, f, fok, r, nd, (PO'.bnd q).mono fun p hp vs H1 F1 fv f1 o => ?_⟩
  obtain ⟨gd, hp⟩ := PO'.grd hp
  refine ⟨by rw [o.rep.length]; exact szOk_le gd, fun p' hp' => hp.ok _ _ F1 (p' :: fv) f1 ?_⟩
  have e : Same H1 (upd H1 p' (.lst vs)) := .upd hp'
  obtain ⟨k1, k2, k3⟩ := grow0 o.fok o.rps e
  refine ⟨o.stp.trans k3 (fun x hx => o.mem x (List.mem_append_right _ hx)), k1, .lstO (fun z => o.fok _ z hp') upd_same (o.rep.stp k3 fun a ha hb => (List.nodup_append.mp o.nod).2.2 a ha a hb rfl), k2, ?_, fun a ha => ?_⟩
  · rw [List.cons_append, List.nodup_cons]
    refine ⟨fun z => ?_, o.nod⟩
    rcases List.mem_append.mp z with z | z
    · obtain ⟨_, xs, e⟩ := o.rep.own _ z
      rw [hp'] at e; cases e
    · obtain ⟨_, xs, e⟩ := o.rps.own _ z
      rw [hp'] at e; cases e
  · rw [List.cons_append] at ha
    rcases List.mem_cons.mp ha with rfl | ha
    · exact .inr (o.stp.same.free hp')
    · exact o.mem a ha
theorem o_ite {c a b : Expr} {pos : Pos} {vc : List Nat} {fc : Ev → Res Bool} {fa fb : Ev → Res (D × Ev)} (hc : PT X c (RT X.K ex vc fc)) (ha : PE X a (RO X.K ex fa)) (hb : PE X b (RO X.K ex fb)) :
    PE X (.IfExp c a b pos) (RO X.K ex fun τ => bnd (fc τ) fun r => if r = true then fa τ else fb τ) := by
  refine peMono (pe_ifExp hc ha hb) fun σ H Q ⟨F, τ, f, fok, r, nd, q⟩ => ?_
  refine rtAt (.refl _) (all_slots r) (PO'.bnd q) fun x H2 e2 _ k => ?_
  obtain ⟨k1, k2, k3⟩ := grow0 fok r e2
  have go : ∀ {g : Ev → Res (D × Ev)}, PO' ex (g τ) (fun p => ∀ v H' F' fv f', Ow X.K F H f F' H' σ v p.1 fv p.2 f' → Q v H') → RO X.K ex g σ H2 Q := fun hg =>
    ⟨F, τ, f, k1, k2, nd, hg.mono fun p hp v H' F' fv f' o => hp v H' F' fv f' ⟨k3.trans o.stp (fun x hx => .inl hx), o.fok, o.rep, o.rps, o.nod, fun a ha => (o.mem a ha).elim (fun z => .inl z) fun z => .inr (e2.free z)⟩⟩
  cases x with
  | true => rw [if_pos rfl] at k ⊢; exact go k
  | false => rw [if_neg Bool.false_ne_true] at k ⊢; exact go k
theorem os_nil : PA X [] (ROs X.K ex fun τ => .ok ([], τ)) := paMono pa_nil fun σ H Q ⟨F, τ, f, fok, r, nd, q⟩ => q.ok [] H F [] f ⟨.refl, fok, .nil, r, nd, fun a ha => .inl ha⟩
theorem os_cons {e : Expr} {l : List Expr} {ga : Ev → Res (D × Ev)} {gs : Ev → Res (List D × Ev)} (hn : notStar e = true) (ha : PE X e (RO X.K ex ga)) (hr : PA X l (ROs X.K ex gs)) :
    PA X (e :: l) (ROs X.K ex fun τ => bnd (ga τ) fun p => bnd (gs p.2) fun q => .ok (p.1 :: q.1, q.2)) := by
  refine paMono (pa_cons ha hr (star_cons hn _ _)) fun σ H Q ⟨F, τ, f, fok, r, nd, q⟩ => ⟨F, τ, f, fok, r, nd, (PO'.bnd q).mono fun p hp v H1 F1 fv f1 o => ?_⟩
  refine ⟨F1, p.2, f1, o.fok, o.rps, (List.nodup_append.mp o.nod).2.1, (PO'.bnd hp).mono fun p' hp' vs H2 F2 fvs f2 o2 => ?_⟩
  have dis : ∀ a ∈ fv, a ∉ f1 := fun a h1 h2 => (List.nodup_append.mp o.nod).2.2 a h1 a h2 rfl
  have m2 := o.rep.stp o2.stp dis
  refine hp'.ok (v :: vs) H2 F2 (fv ++ fvs) f2 ⟨o.stp.trans o2.stp (fun x hx => o.mem x (List.mem_append_right _ hx)), o2.fok, .cons m2 o2.rep, o2.rps, ?_, fun a ha => ?_⟩
  · rw [List.append_assoc]
    refine List.nodup_append.mpr ⟨(List.nodup_append.mp o.nod).1, o2.nod, fun a h1 b h2 e => ?_⟩
    subst e
    rcases o2.mem a h2 with z | z
    · exact dis a h1 z
    · obtain ⟨_, xs, e⟩ := o.rep.own a h1
      rw [z] at e; cases e
  · rw [List.append_assoc] at ha
    rcases List.mem_append.mp ha with ha | ha
    · exact o.mem a (List.mem_append_left _ ha)
    · rcases o2.mem a ha with z | z
      · exact o.mem a (List.mem_append_right _ z)
      · exact .inr (o.stp.same.free z)
end
end L2
namespace L2
open PySem PySem.Spec PyProof.Rows PySem.SeqAt
section
variable {Z : Sg} {CX : CXT} {cl : Nat → List D → Res D} {xp : XK → Hp → Str → Prop} {X : Cx} {ex : Str → Prop} {G : Gm}
noncomputable def spP (K : PySem.W.Frag) (ex : Str → Prop) (cl : Nat → List D → Res D) (f : Nat) (vs : List V) (H : Hp) (Q : VK) : Prop := ∃ F ds, FOk F H ∧ HReps K F H vs ds ∧ PO' ex (cl f (ers ds)) fun d => ∀ v H' F' fv, Out K F H F' H' v d fv → Q v H'
theorem pe_callO (g : GOk Z CX cl xp X ex G) {f : Nat} {x : Str} {p pos : Pos} {es : List IR} {args : List Expr} {t : TA} (h1 : chkG Z G f x = true) (h2 : Z.fns.contains f = true) (hst : chks Z G es args = true) (h : PA X args t)
    (h0 : args = [] → ∀ σ H (Q : List V → Hp → Prop), t σ H Q → Q [] H) : PE X (.Call (.Name x p) args [] pos) (fun σ H Q => t σ H fun vs H1 => spP X.K ex cl f vs H1 Q) := by
  obtain ⟨k1, k2, k3, k4⟩ := gl_of g h1
  obtain ⟨k, fa', fd, ps, hm, hkp, hb, F, hr, hlen⟩ := (g.fns f (by simpa using h2) x k2).ex
  obtain ⟨E, hP, hE⟩ := g.exs
  intro pins s σ H Q I q
  have fin : ∀ (us : List Value) (s1 : Shared) (vs : List V) (H1 : Hp), Inv X pins σ H1 s1 → Vals vs us → spP X.K ex cl f vs H1 Q → wpAny (model X.prog X.w) X.A (call (.ref fa') us) (EP X pins σ Q) X.xe s1 := by
    intro us s1 vs H1 I1 r ⟨Fc, ds, fok, m, q1⟩
    refine run_fn F hr hb (.nil : Vals [] []) hP I1 r ?_
    rw [List.append_nil]
    have hl := hlen ex _ _ q1
    rw [ers_length] at hl
    refine ⟨by rw [m.length]; exact hl, Fc, ds, fok, m, ?_⟩
    cases z : cl f (ers ds) with
    | error er =>
      rw [z] at q1
      cases er with
      | stuck => exact q1.no.elim
      | exc c => exact hE c _ q1
    | ok d =>
      rw [z] at q1
      exact q1.ok
  refine wpAny_Call_Name_kw (ld_glob I k1 hm ?_ k4)
  cases args with
  | nil =>
    cases es with
    | cons _ _ => cases hst
    | nil => exact PySem.W.callWith_K0 I.kIn hkp (fin [] s [] H I .nil (h0 rfl σ H _ q))
  | cons e l =>
    cases es with
    | nil => cases hst
    | cons a es =>
      have hst' : (notStar e && chk Z G a e && chks Z G es l) = true := hst
      simp only [Bool.and_eq_true] at hst'
      refine PySem.W.callWith_K (h₀ := X.base) I.ok.mod.kin hkp (thn (h pos pins s σ H _ I q) fun us s1 ⟨vs, H1, I1, r, q1⟩ => ⟨I1.kIn, ?_⟩) (star_cons hst'.1.1 l X.env) (star_none Z G (es := es) pos X.env hst'.2)
      exact fin us s1 vs H1 I1 r q1
theorem MRep.lfree_nil {K : PySem.W.Frag} {F F' : Addr → Prop} {H : Hp} {v : V} {d : D} {fv : List Addr} (m : MRep K F H v d fv) (n : lfree d = true) : MRep K F' H v d [] := (m.read (S := fun _ => True) (fun _ _ => trivial) fun _ _ => trivial).free n
theorem o_call (g : GOk Z CX cl xp X ex G) {f : Nat} {x : Str} {p pos : Pos} {es : List IR} {args : List Expr} (h1 : chkG Z G f x = true) (h2 : Z.fns.contains f = true) (hst : chks Z G es args = true) (mv : Bool) :
    PE X (.Call (.Name x p) args [] pos) (RO X.K ex (evO cl mv (.call f es))) := by
  have pa := snds es X ex G args g hst
  have pe := pe_callO (p := p) (pos := pos) g h1 h2 hst pa (fun e σ H Q ⟨S, τ, hs, q⟩ => by
    subst e
    cases es with
    | nil => exact q.ok [] H (.refl _) .nil
    | cons _ _ => cases hst)
  refine peMono pe fun σ H Q ⟨F, τ, fo, fok, r, nd, q⟩ => ?_
  have q' : PO' ex (bnd (evRs cl es τ) fun ds => bnd (cl f (ers ds)) fun d => if lfree d = true then .ok (d, τ) else .ok (d, frz (varss es) τ)) (fun p => ∀ v H' F' fv f', Ow X.K F H fo F' H' σ v p.1 fv p.2 f' → Q v H') := q
  -- read without giving up
  have borrow : (∀ ds, evRs cl es τ = .ok ds → PO' ex (cl f (ers ds)) fun d => lfree d = true ∧ ∀ v H' F' fv f', Ow X.K F H fo F' H' σ v d fv τ f' → Q v H') → PO' ex (evRs cl es τ) (fun _ => True) → RA X.K ex (varss es) (evRs cl es) σ H (fun vs H1 => spP X.K ex cl f vs H1 Q) := by
    intro hk hok
    refine raAt (.refl _) (all_slots r) hok.eq fun ds vs H1 e1 _ m1 q1 => ?_
    refine ⟨fun a => H1 a ≠ none, ds, fun a h => h, m1.step (fun a xs h rd => ⟨rd.some, rd⟩) fun a xs h => h, (hk ds q1.1).mono fun d hd v H' F' fv o => ?_⟩
    obtain ⟨k1, k2, k3⟩ := grow0 fok r (e1.trans o.same)
    exact hd.2 v H' F [] fo ⟨k3, k1, o.rep.lfree_nil hd.1, k2, by simpa using nd, fun a ha => .inl (by simpa using ha)⟩
  cases z : evRs cl es τ with
  | error er =>
    rw [z] at q'
    cases er with
    | stuck => exact q'.no.elim
    | exc c => exact borrow (fun ds h => by rw [z] at h; cases h) (by rw [z]; exact q')
  | ok ds =>
    rw [z] at q'
    have q1 : PO' ex (bnd (cl f (ers ds)) fun d => if lfree d = true then .ok (d, τ) else .ok (d, frz (varss es) τ)) (fun p => ∀ v H' F' fv f', Ow X.K F H fo F' H' σ v p.1 fv p.2 f' → Q v H') := q'
    cases zc : cl f (ers ds) with
    | error er =>
      rw [zc] at q1
      cases er with
      | stuck => exact q1.no.elim
      | exc c => exact borrow (fun ds' h => by rw [z] at h; cases h; rw [zc]; exact q1) (by rw [z]; trivial)
    | ok d =>
      rw [zc] at q1
      have q2 : PO' ex (if lfree d = true then .ok (d, τ) else .ok (d, frz (varss es) τ)) (fun p => ∀ v H' F' fv f', Ow X.K F H fo F' H' σ v p.1 fv p.2 f' → Q v H') := q1
      by_cases hl : lfree d = true
      · rw [if_pos hl] at q2
        exact borrow (fun ds' h => by rw [z] at h; cases h; rw [zc]; exact ⟨hl, q2.ok⟩) (by rw [z]; trivial)
      · rw [if_neg hl] at q2
        obtain ⟨F1, gg, b1, b2, b3, b4, b5, b6⟩ := freeze1 (varss es) fok r nd
        refine raAt (Kt := fun ds' => ds' = ds) (.refl _) b6 (by rw [z]; rfl) fun ds' vs H1 e1 _ m1 e => ?_
        subst e
        have hm : HReps X.K (fun a => F1 a ∨ (True ∧ H a = none ∧ H1 a ≠ none)) H1 vs ds' := m1.step (fun a xs h r => ⟨h.elim (fun z => .inl z) fun z => .inr ⟨trivial, z, r.some⟩, r⟩) fun a xs h => h
        obtain ⟨c1, c2, c3⟩ := grow (fun _ => True) b1 b2 e1
        refine ⟨_, ds', c1, hm, ?_⟩
        rw [zc]
        intro v H' F' fv o
        have s1 : Stp (fun a => F1 a ∨ (True ∧ H a = none ∧ H1 a ≠ none)) H1 gg F' H' := ⟨o.same, o.inn, fun a h => (o.out a h).elim (fun z => .inl z) fun z => .inr (.inr z)⟩
        have r2 : Rps X.K F' H' σ (frz (varss es) τ) gg := c2.step (fun a xs q rd => ⟨o.inn a q, o.same.rd rd⟩) (fun a xs q => o.same.seqT q) fun a ha n hn => by
          obtain ⟨_, xs, e⟩ := c2.own a ha
          refine ⟨fun z => ?_, (o.same _ _ e).trans e.symm⟩
          rcases o.out a z with z | z
          · exact n z
          · exact hn z
        refine q2.ok v H' F' fv gg ⟨(b4.trans c3 (fun x hx => .inl (b5 x hx))).trans s1 (fun x hx => .inl (b5 x hx)), o.fok, o.rep, r2, ?_, fun a ha => ?_⟩
        · refine List.nodup_append.mpr ⟨o.nod, b3, fun a h1 b h2 e => ?_⟩
          subst e
          obtain ⟨_, xs, e⟩ := c2.own a h2
          rw [o.new a h1] at e
          cases e
        · rcases List.mem_append.mp ha with ha | ha
          · exact .inr (e1.free (o.new a ha))
          · exact .inl (b5 a ha)
theorem o_keep {a : IR} {e : Expr} (he : PE X e (RD X.K ex (vars a) (evR cl a))) (hN : newList? a = true → PE X e (RN X.K ex (vars a) fun τ => bnd (evR cl a τ) asLst)) : PE X e (RO X.K ex fun τ => bnd (evR cl a τ) fun d => .ok (keepD a d τ)) := by
  intro pins s σ H Q I h
  obtain ⟨F, τ, fo, fok, r, nd, q⟩ := h
  replace q : PO' ex (bnd (evR cl a τ) fun d => .ok (keepD a d τ)) (fun p => ∀ v H' F' fv f', Ow X.K F H fo F' H' σ v p.1 fv p.2 f' → Q v H') := q
  have rd : RD X.K ex (vars a) (evR cl a) σ H Q → wpAny (model X.prog X.w) X.A (eval e X.env) (EP X pins σ Q) X.xe s := fun h => he pins s σ H Q I h
  cases z : evR cl a τ with
  | error er =>
    rw [z] at q
    cases er with
    | stuck => exact q.no.elim
    | exc c => exact rd ⟨fun _ => True, τ, all_slots r, by rw [z]; exact q⟩
  | ok d =>
    rw [z] at q
    have q1 : ∀ v H' F' fv f', Ow X.K F H fo F' H' σ v (keepD a d τ).1 fv (keepD a d τ).2 f' → Q v H' := q
    by_cases hl : lfree d = true
    · unfold keepD at q1
      rw [if_pos hl] at q1
      refine rd ⟨fun _ => True, τ, all_slots r, ?_⟩
      rw [z]
      intro v H' e m
      obtain ⟨k1, k2, k3⟩ := grow0 fok r e
      exact q1 v H' F [] fo ⟨k3, k1, m.free hl, k2, by simpa using nd, fun a ha => .inl (by simpa using ha)⟩
    · have other : keepD a d τ = (er d, frz (vars a) τ) → wpAny (model X.prog X.w) X.A (eval e X.env) (EP X pins σ Q) X.xe s := fun hk => by
        rw [hk] at q1
        obtain ⟨F1, gg, b1, b2, b3, b4, b5, b6⟩ := freeze1 (vars a) fok r nd
        refine rd ⟨F1, τ, b6, ?_⟩
        rw [z]
        intro v H' e m
        obtain ⟨c1, c2, c3⟩ := grow (fun _ => True) b1 b2 e
        exact q1 v H' _ [] gg ⟨b4.trans c3 (fun x hx => .inl (b5 x hx)), c1, m.fix.frozen, c2, by simpa using b3, fun a ha => .inl (b5 a (by simpa using ha))⟩
      by_cases hn : newList? a = true
      · cases d with
        | lst o ds =>
          by_cases hi : lfrees ds = true
          · have hk : keepD a (.lst o ds) τ = (.lst true ds, τ) := by
              unfold keepD
              rw [if_neg hl, hn]
              show (if lfrees ds = true then _ else _) = _
              rw [if_pos hi]
            rw [hk] at q1
            refine hN hn pins s σ H Q I ⟨fun _ => True, τ, all_slots r, ?_⟩
            show PO' ex (bnd (evR cl a τ) asLst) _
            rw [z]
            intro p ys H' e hp hy m
            obtain ⟨k1, k2, k3⟩ := grow0 fok r e
            refine q1 (.ref p) H' F [p] fo ⟨k3, k1, .lstO (fun zz => fok p zz hp) hy (m.free hi), k2, ?_, fun a ha => ?_⟩
            · rw [List.singleton_append, List.nodup_cons]
              refine ⟨fun zz => ?_, nd⟩
              obtain ⟨_, xs, e⟩ := r.own p zz
              rw [hp] at e; cases e
            · rw [List.singleton_append] at ha
              rcases List.mem_cons.mp ha with rfl | ha
              · exact .inr hp
              · exact .inl ha
          · have hk : keepD a (.lst o ds) τ = (.lst true (ers ds), frz (vars a) τ) := by
              unfold keepD
              rw [if_neg hl, hn]
              show (if lfrees ds = true then _ else _) = _
              rw [if_neg hi]
            rw [hk] at q1
            obtain ⟨F1, gg, b1, b2, b3, b4, b5, b6⟩ := freeze1 (vars a) fok r nd
            refine hN hn pins s σ H Q I ⟨F1, τ, b6, ?_⟩
            show PO' ex (bnd (evR cl a τ) asLst) _
            rw [z]
            intro p ys H' e hp hy m
            obtain ⟨c1, c2, c3⟩ := grow (fun a => a ≠ p) b1 b2 e
            have m2 : HReps X.K (fun a => F1 a ∨ (a ≠ p ∧ H a = none ∧ H' a ≠ none)) H' ys ds := m.step (fun a xs h r => ⟨h.1.elim (fun z => .inl z) fun z => .inr ⟨h.2, z, r.some⟩, r⟩) fun a xs h => h
            refine q1 (.ref p) H' _ [p] gg ⟨b4.trans c3 (fun x hx => .inl (b5 x hx)), c1, .lstO (fun zz => ?_) hy m2.frozen, c2, ?_, fun a ha => ?_⟩
            · rcases zz with zz | zz
              · exact b1 p zz hp
              · exact zz.1 rfl
            · rw [List.singleton_append, List.nodup_cons]
              refine ⟨fun zz => ?_, b3⟩
              obtain ⟨_, xs, e⟩ := b2.own p zz
              rw [hp] at e; cases e
            · rw [List.singleton_append] at ha
              rcases List.mem_cons.mp ha with rfl | ha
              · exact .inr hp
              · exact .inl (b5 a ha)
        | _ =>
          refine other ?_
          unfold keepD
          rw [if_neg hl, hn]
      · have hn' : newList? a = false := by simpa using hn
        refine other ?_
        unfold keepD
        rw [if_neg hl, hn']
theorem n_bin {a b : Expr} {pos : Pos} {va vb : List Nat} {fa fb : Ev → Res D} (ha : PE X a (RD X.K ex va fa)) (hb : PE X b (RD X.K ex vb fb)) :
    PE X (.BinOp a .Add b pos) (RN X.K ex (va ++ vb) fun τ => bnd (bnd (fa τ) fun x => bnd (fb τ) fun y => opB .add x y) asLst) := by
  refine peMono (pe_op op_catL ha hb) fun σ H Q ⟨S, τ, hs, q⟩ => ?_
  refine rdAt (.refl _) hs.left (PO'.bnd (PO'.bnd q)) fun x v H1 e1 _ m1 q1 => ?_
  refine rdAt e1 hs.right (PO'.bnd q1) fun y w H2 e2 e2' m2 q2 => ?_
  have stuck : ∀ {P : Prop}, opB .add x y = stk → P := fun z => by rw [z] at q2; exact q2.no.elim
  cases x with
  | int a => cases y with
    | int b => exact q2.ok.no.elim
    | _ => exact stuck rfl
  | str a => cases y with
    | str b => exact (PO'.grd q2).2.ok.no.elim
    | _ => exact stuck rfl
  | lst o a => cases y with
    | lst o' b =>
      obtain ⟨p, xs, rfl, h1, n1⟩ := m1.lstL
      obtain ⟨p', ys, rfl, h2, n2⟩ := m2.lstL
      obtain ⟨gd, q3⟩ := PO'.grd q2
      have g' := szOk_le gd
      have l1 := n1.length
      have l2 := n2.length
      have h1' : Ls X.K H2 p xs := h1.elim (fun z => .inl (e2'.rd z)) .inr
      exact ⟨p, p', xs, ys, rfl, rfl, h1', h2, by omega, fun z hz => q3.ok.ok z _ _ (e2.trans (.upd hz)) (e2.free hz) upd_same (newN ((n1.later e2').append n2) hz)⟩
    | _ => exact stuck rfl
  | _ => exact stuck rfl
theorem n_sl {a : Expr} {lo hi : Option Expr} {pos p2 : Pos} {va vl vh : List Nat} {fa : Ev → Res D} {fl fh : Ev → Res (Option Int)} (ha : PE X a (RD X.K ex va fa)) (hl : PO X lo (ROp X.K ex vl fl)) (hh : PO X hi (ROp X.K ex vh fh)) :
    PE X (.Subscript a (.Slice lo hi none p2) pos) (RN X.K ex (va ++ vl ++ vh) fun τ => bnd (bnd (fa τ) fun x => bnd (fl τ) fun l => bnd (fh τ) fun h => opSl x l h) asLst) := by
  refine peMono (pe_slice sl_list ha hl hh) fun σ H Q ⟨S, τ, hs, q⟩ => ?_
  refine rdAt (.refl _) hs.left.left (PO'.bnd (PO'.bnd q)) fun x v H1 e1 _ m1 q1 => ?_
  refine roAt e1 hs.left.right (PO'.bnd q1) fun l H2 e2 e2' q2 => ?_
  refine roAt e2 hs.right (PO'.bnd q2) fun h H3 e3 e3' q3 => ?_
  cases x with
  | lst o ds =>
    obtain ⟨p, xs, rfl, h1, n1⟩ := m1.lstR
    exact ⟨p, xs, rfl, (e2'.trans e3').seq h1, fun z hz => q3.ok.ok z _ _ (e3.trans (.upd hz)) (e3.free hz) upd_same (newN (cut_rep l h (n1.later (e2'.trans e3'))) hz)⟩
  | str _ => exact (PO'.grd q3).2.ok.no.elim
  | tup _ => exact (PO'.grd q3).2.ok.no.elim
  | _ => exact q3.no.elim
theorem call_list_two (hc : X.calm = true) : CallR X (.type "list") (fun xs H Q => (∃ p ys, xs = [.ref p] ∧ (SqL X.K H p ys ∨ SqT X.K H p ys) ∧ ∀ l, H l = none → Q (.ref l) (upd H l (.lst ys))) ∨ ∃ z : Str, xs = [.str z] ∧ z.length ≤ sizeLine ∧ ∀ l, H l = none → Q (.ref l) (upd H l (.lst (charsV z)))) := by
  intro pins s σ H xs us Q I r h
  rcases h with h | h
  · exact call_list_of pins s σ H xs us Q I r h
  · exact call_list_txt hc pins s σ H xs us Q I r h
theorem n_list (g : GOk Z CX cl xp X ex G) {p pos : Pos} {es : List IR} {a : Expr} {args : List Expr} (hg : G.gl.contains (biNum .list) = true) (hst : chks Z G es (a :: args) = true) (h : PA X (a :: args) (RA X.K ex (varss es) (evRs cl es))) :
    PE X (.Call (.Name (biName .list) p) (a :: args) [] pos) (RN X.K ex (varss es) fun τ => bnd (bnd (evRs cl es τ) fun ds => opBi .list ds) asLst) := by
  obtain ⟨k1, k2, k3, k4⟩ := gb_of g (bi_num .list) hg
  cases es with
  | nil => cases hst
  | cons b es =>
    have hst' : (notStar a && chk Z G b a && chks Z G es args) = true := hst
    simp only [Bool.and_eq_true] at hst'
    refine peMono (pe_callTy (call_list_two g.calm) k1 k2 (bi_boot .list) h k3 k4 (star_cons hst'.1.1 args X.env) (star_none Z G (es := es) pos X.env hst'.2)) fun σ H Q ⟨S, τ, hs, q⟩ => ?_
    refine raAt (.refl _) hs (PO'.bnd (PO'.bnd q)) fun ds vs H1 e1 _ m1 q1 => ?_
    have stuck : ∀ {P : Prop}, opBi .list ds = stk → P := fun z => by rw [z] at q1; exact q1.no.elim
    match ds, m1 with
    | [], _ => exact stuck rfl
    | d :: _ :: _, _ => exact stuck (by cases d <;> rfl)
    | [d], m1 =>
      obtain ⟨x, rfl, hd⟩ := m1.one1
      cases d with
      | tup ds =>
        obtain ⟨a, ys, rfl, q', m⟩ := hd.tupR
        exact .inl ⟨a, ys, rfl, .inr q', fun z hz => q1.ok.ok z _ _ (e1.trans (.upd hz)) (e1.free hz) upd_same (newN m hz)⟩
      | lst o ds =>
        obtain ⟨a, ys, rfl, q', m⟩ := hd.lstR
        exact .inl ⟨a, ys, rfl, .inl q', fun z hz => q1.ok.ok z _ _ (e1.trans (.upd hz)) (e1.free hz) upd_same (newN m hz)⟩
      | str z =>
        cases hd.strR
        obtain ⟨gz, q1⟩ := PO'.grd q1
        exact .inr ⟨z, rfl, szOk_le gz, fun l hl => q1.ok.ok l _ _ (e1.trans (.upd hl)) (e1.free hl) upd_same (newN (chars_rep z) hl)⟩
      | _ => exact stuck rfl
end
end L2
namespace L2
open PySem PySem.Spec PyProof.Rows PySem.SeqAt
section
variable {Z : Sg} {CX : CXT} {cl : Nat → List D → Res D} {xp : XK → Hp → Str → Prop}
theorem pv_of {X : Cx} {ex : Str → Prop} {G : Gm} (g : GOk Z CX cl xp X ex G) {i : Nat} {x : Str} {pos : Pos} (h : chkV G i x = true) : PE X (.Name x pos) (tVar i) := by
  unfold chkV at h
  rw [Bool.and_eq_true] at h
  have hx : G.N[i]? = some x := eq_of_beq h.1
  have hk := g.kd i x hx
  have hv : Vis X.env.scope x := by
    have h2 := h.2
    rw [Bool.or_eq_true, Bool.or_eq_true] at h2
    rcases h2 with (h2 | h2) | h2
    · exact .inl (hk.trans (eq_of_beq h2))
    · exact .inr (.inl (hk.trans (eq_of_beq h2)))
    · exact .inr (.inr (hk.trans (eq_of_beq h2)))
  exact pe_var (i := i) (by rw [g.N]; exact hx) hv (g.noD i x hx).1 (g.noD i x hx).2
theorem n_comp {X : Cx} {ex : Str → Prop} {G G' : Gm} {fr : List Nat} (g : GOk Z CX cl xp X ex G) {scope : Scope} {tg iter elt : Expr} {ifs : List Expr} {pos : Pos} {T : Tg} {s : Sr} {I : List IR} {E : IR} (hs : ScOk Z G scope G' fr) (hT : chkT G' T tg = true) (ha : ∀ i ∈ tgs T, fr.length ≤ i)
    (hi : chkSr Z G s iter = true) (ht : chks Z G' I ifs = true) (he : chk Z G' E elt = true) :
    PE X (.ListComp elt [⟨tg, iter, ifs, 0⟩] scope pos) (RN X.K ex (vars (.comp G' fr T s I E)) fun τ => bnd (evR cl (.comp G' fr T s I E) τ) asLst) := by
  intro pins s' σ H Q Iv h
  obtain ⟨cl', S⟩ := compSc_of g Iv.ok hs
  have p := pe_comp (pos := pos) (elt := elt) (ifs := ifs) (tg := tg) (g := gT X.K T) (tt := RT X.K nox (varss I) (evTs cl I)) (te := RD X.K nox (vars E) (evR cl E)) g.calm S (sndS s X ex G iter tg g hi) (fun C s H fp => pgT (gok_comp g hs cl' C s H fp) T tg hT)
    (fun C s H fp => sndT I _ nox G' ifs (gok_comp g hs cl' C s H fp) ht) (fun C s H fp => (snd E _ nox G' elt (gok_comp g hs cl' C s H fp) he).1) (fun x => folded_src hi X.env x)
  refine p pins s' σ H Q Iv ?_
  obtain ⟨S0, τ, hsl, q⟩ := h
  have q' := PO'.bnd (show PO' ex (bnd (evR cl (.comp G' fr T s I E) τ) asLst) _ from q)
  rw [evR_comp] at q'
  exact comp_core hs.fle ha hsl q' fun A ys ds H' e hA hA' m k => k.ok A ys H' e hA hA' m
theorem snN : ∀ (a : IR) (X : Cx) (ex : Str → Prop) (G : Gm) (e : Expr), GOk Z CX cl xp X ex G → chk Z G a e = true → newList? a = true → PE X e (RN X.K ex (vars a) fun τ => bnd (evR cl a τ) asLst) := by
  intro a X ex G e g h n
  cases a with
  | bin op a b =>
    cases op with
    | add =>
      cases e with
      | BinOp l o r pos =>
        have h' : (o == bop .add && chk Z G a l && chk Z G b r) = true := h
        simp only [Bool.and_eq_true] at h'
        have e1 : o = bop .add := eq_of_beq h'.1.1
        subst e1
        exact n_bin (snd a X ex G l g h'.1.2).1 (snd b X ex G r g h'.2).1
      | _ => first | exact no_h h | cases h
    | _ => cases n
  | sl a lo hi =>
    cases e with
    | Subscript o s pos =>
      cases s with
      | Slice l u st p =>
        cases st with
        | none =>
          have h' : (chk Z G a o && chkO Z G lo l && chkO Z G hi u) = true := h
          simp only [Bool.and_eq_true] at h'
          exact n_sl (snd a X ex G o g h'.1.1).1 (sndO lo X ex G l g h'.1.2) (sndO hi X ex G u g h'.2)
        | some _ => first | exact no_h h | cases h
      | _ => first | exact no_h h | cases h
    | _ => first | exact no_h h | cases h
  | bi f es =>
    cases f with
    | list =>
      cases e with
      | Call fn args kws pos =>
        cases fn with
        | Name x p =>
          cases kws with
          | nil =>
            cases args with
            | nil => first | exact no_h h | cases h
            | cons a args =>
              have h' : (x == biName .list && G.gl.contains (biNum .list) && chks Z G es (a :: args)) = true := h
              simp only [Bool.and_eq_true] at h'
              have e1 : x = biName .list := eq_of_beq h'.1.1
              subst e1
              exact n_list g h'.1.2 h'.2 (snds es X ex G _ g h'.2)
          | cons _ _ => cases args <;> first | exact no_h h | cases h
        | _ => first | exact no_h h | cases h
      | _ => first | exact no_h h | cases h
    | _ => cases n
  | comp G' fr tg src ifs elt =>
    cases e with
    | ListComp el gens scope pos =>
      have h : gen1 gens (fun t it fs => chkScope Z G scope G' fr && chkT G' tg t && (tgs tg).all (fun i => decide (fr.length ≤ i)) && chkSr Z G src it && chks Z G' ifs fs && chk Z G' elt el) = true := h
      obtain ⟨t, it, fs, rfl, h⟩ := gen1_ok h
      have h' : (chkScope Z G scope G' fr && chkT G' tg t && (tgs tg).all (fun i => decide (fr.length ≤ i)) && chkSr Z G src it && chks Z G' ifs fs && chk Z G' elt el) = true := h
      simp only [Bool.and_eq_true] at h'
      exact n_comp g (scOk_of h'.1.1.1.1.1) h'.1.1.1.1.2 (fun i hi => of_decide_eq_true (List.all_eq_true.mp h'.1.1.1.2 i hi)) h'.1.1.2 h'.1.2 h'.2
    | _ => first | exact no_h h | cases h
  | _ => cases n
mutual
theorem snO : ∀ (a : IR) (mv : Bool) (X : Cx) (ex : Str → Prop) (G : Gm) (e : Expr), GOk Z CX cl xp X ex G → chk Z G a e = true → PE X e (RO X.K ex (evO cl mv a))
  | .v i, mv, X, ex, G, e, g, h => by
    cases e with
    | Name x pos => exact o_v (pv_of g h) mv
    | _ => first | exact no_h h | cases h
  | .tup es, mv, X, ex, G, e, g, h => by
    cases e with
    | Tuple l n pos => exact o_tup (snOs es mv X ex G l g h)
    | _ => first | exact no_h h | cases h
  | .lst es, mv, X, ex, G, e, g, h => by
    cases e with
    | List l pos => exact o_lst (snOs es mv X ex G l g h)
    | _ => first | exact no_h h | cases h
  | .ite t a b, mv, X, ex, G, e, g, h => by
    cases e with
    | IfExp c x y pos =>
      have h' : (chk Z G t c && chk Z G a x && chk Z G b y) = true := h
      simp only [Bool.and_eq_true] at h'
      exact o_ite (snd t X ex G c g h'.1.1).2 (snO a mv X ex G x g h'.1.2) (snO b mv X ex G y g h'.2)
    | _ => first | exact no_h h | cases h
  | .call f es, mv, X, ex, G, e, g, h => by
    cases e with
    | Call fn args kws pos =>
      cases fn with
      | Name x p =>
        cases kws with
        | nil =>
          have h' : (chkG Z G f x && Z.fns.contains f && chks Z G es args) = true := h
          simp only [Bool.and_eq_true] at h'
          exact o_call g h'.1.1 h'.1.2 h'.2 mv
        | cons _ _ => first | exact no_h h | cases h
      | _ => first | exact no_h h | cases h
    | _ => first | exact no_h h | cases h
  | .c d, mv, X, ex, G, e, g, h => o_keep (snd _ X ex G e g h).1 (snN _ X ex G e g h)
  | .g n d, mv, X, ex, G, e, g, h => o_keep (snd _ X ex G e g h).1 (snN _ X ex G e g h)
  | .bin op a b, mv, X, ex, G, e, g, h => o_keep (snd _ X ex G e g h).1 (snN _ X ex G e g h)
  | .neg a, mv, X, ex, G, e, g, h => o_keep (snd _ X ex G e g h).1 (snN _ X ex G e g h)
  | .cmp op a b, mv, X, ex, G, e, g, h => o_keep (snd _ X ex G e g h).1 (snN _ X ex G e g h)
  | .chain op op' a b c, mv, X, ex, G, e, g, h => o_keep (snd _ X ex G e g h).1 (snN _ X ex G e g h)
  | .and_ a b, mv, X, ex, G, e, g, h => o_keep (snd _ X ex G e g h).1 (snN _ X ex G e g h)
  | .or_ a b, mv, X, ex, G, e, g, h => o_keep (snd _ X ex G e g h).1 (snN _ X ex G e g h)
  | .not_ a, mv, X, ex, G, e, g, h => o_keep (snd _ X ex G e g h).1 (snN _ X ex G e g h)
  | .idx a i, mv, X, ex, G, e, g, h => o_keep (snd _ X ex G e g h).1 (snN _ X ex G e g h)
  | .sl a lo hi, mv, X, ex, G, e, g, h => o_keep (snd _ X ex G e g h).1 (snN _ X ex G e g h)
  | .bi f es, mv, X, ex, G, e, g, h => o_keep (snd _ X ex G e g h).1 (snN _ X ex G e g h)
  | .isi a k, mv, X, ex, G, e, g, h => o_keep (snd _ X ex G e g h).1 (snN _ X ex G e g h)
  | .ftx _ a, mv, X, ex, G, e, g, h => o_keep (snd _ X ex G e g h).1 (snN _ X ex G e g h)
  | .mth m o es, mv, X, ex, G, e, g, h => o_keep (snd _ X ex G e g h).1 (snN _ X ex G e g h)
  | .comp G' fr tg src ifs elt, mv, X, ex, G, e, g, h => o_keep (snd _ X ex G e g h).1 (snN _ X ex G e g h)
theorem snOs : ∀ (as : List IR) (mv : Bool) (X : Cx) (ex : Str → Prop) (G : Gm) (l : List Expr), GOk Z CX cl xp X ex G → chks Z G as l = true → PA X l (ROs X.K ex (evOs cl mv as))
  | [], mv, X, ex, G, l, g, h => by
    cases l with
    | nil => exact os_nil
    | cons _ _ => first | exact no_h h | cases h
  | a :: as, mv, X, ex, G, l, g, h => by
    cases l with
    | nil => first | exact no_h h | cases h
    | cons e l =>
      have h' : (notStar e && chk Z G a e && chks Z G as l) = true := h
      simp only [Bool.and_eq_true] at h'
      exact os_cons h'.1.1 (snO a mv X ex G e g h'.1.2) (snOs as mv X ex G l g h'.2)
end
end
end L2
namespace L2
open PySem PySem.Spec PyProof.Rows PySem.SeqAt
structure Bs where
  F : Addr → Prop
  H : Hp
  L : Addr → List V → Prop
  T : Addr → List V → Prop
structure Frm (K : PySem.W.Frag) (B : Bs) (F : Addr → Prop) (H : Hp) (σ : St) (τ : Ev) (f : List Addr) : Prop where
  fok : FOk F H
  rps : Rps K F H σ τ f
  nod : f.Nodup
  same : Same B.H H
  own : ∀ a ∈ f, B.H a = none
  inn : ∀ a, B.F a → F a
  out : ∀ a, F a → B.F a ∨ B.H a = none
  pin : ∀ a xs, B.L a xs → F a ∧ Rd H a (.lst xs)
  pit : ∀ a xs, B.T a xs → SqT K H a xs
noncomputable def Fk (K : PySem.W.Frag) (B : Bs) (Dn : Ends) : Fl → Prop
  | .nx τ => ∀ σ H F f, Frm K B F H σ τ f → Dn.nx σ H
  | .bk τ => ∀ σ H F f, Frm K B F H σ τ f → Dn.bk σ H
  | .ct τ => ∀ σ H F f, Frm K B F H σ τ f → Dn.ct σ H
  | .rt d => ∀ v H F fv, Out K B.F B.H F H v d fv → Dn.rt v H
noncomputable def RS (K : PySem.W.Frag) (ex : Str → Prop) (g : Ev → Res Fl) : TS := fun Dn σ H => ∃ B F τ f, Frm K B F H σ τ f ∧ PO' ex (g τ) (Fk K B Dn)
section
variable {K : PySem.W.Frag} {B : Bs} {F F' : Addr → Prop} {H H' : Hp} {σ : St} {τ τ' : Ev} {f f' : List Addr} {ex : Str → Prop}
theorem Frm.stp (m : Frm K B F H σ τ f) (s : Stp F H f F' H') (fok : FOk F' H') (r : Rps K F' H' σ τ' f') (nd : f'.Nodup) (hm : ∀ a ∈ f', a ∈ f ∨ H a = none) : Frm K B F' H' σ τ' f' where
  fok := fok
  rps := r
  nod := nd
  same := m.same.trans s.same
  own := fun a ha => (hm a ha).elim (m.own a) fun z => m.same.free z
  inn := fun a h => s.inn a (m.inn a h)
  out := fun a h => by
    rcases s.out a h with h | h | h
    · exact m.out a h
    · exact .inr (m.own a h)
    · exact .inr (m.same.free h)
  pin := fun a xs h => ⟨s.inn a (m.pin a xs h).1, s.same.rd (m.pin a xs h).2⟩
  pit := fun a xs h => s.same.seqT (m.pit a xs h)
theorem Frm.ow {v : V} {d : D} {fv : List Addr} (m : Frm K B F H σ τ f) (o : Ow K F H f F' H' σ v d fv τ' f') : Frm K B F' H' σ τ' f' ∧ ∀ a ∈ fv, B.H a = none :=
  ⟨m.stp o.stp o.fok o.rps (List.nodup_append.mp o.nod).2.1 fun a ha => o.mem a (List.mem_append_right _ ha), fun a ha => (o.mem a (List.mem_append_left _ ha)).elim (m.own a) fun z => m.same.free z⟩
theorem Frm.grow (m : Frm K B F H σ τ f) (e : Same H H') : Frm K B F H' σ τ f := by
  obtain ⟨k1, k2, k3⟩ := grow0 m.fok m.rps e
  exact m.stp k3 k1 k2 m.nod fun a ha => .inl ha
theorem Frm.ro {g : Ev → Res (D × Ev)} {Kt : D × Ev → Prop} {Q : VK} (m : Frm K B F H σ τ f) (h : PO' ex (g τ) Kt) (k : ∀ p v H' F' fv f', Ow K F H f F' H' σ v p.1 fv p.2 f' → Kt p → Q v H') : RO K ex g σ H Q :=
  ⟨F, τ, f, m.fok, m.rps, m.nod, h.mono fun p hp v H' F' fv f' o => k p v H' F' fv f' o hp⟩
theorem Frm.rt {is : List Nat} {g : Ev → Res Bool} {Kt : Bool → Prop} {Q : Bool → Hp → Prop} (m : Frm K B F H σ τ f) (h : PO' ex (g τ) Kt) (k : ∀ b H', Frm K B F H' σ τ f → Same H H' → Kt b → Q b H') : RT K ex is g σ H Q :=
  rtAt (.refl _) (all_slots m.rps) h fun b H2 e2 _ hb => k b H2 (m.grow e2) e2 hb
theorem Frm.rd {is : List Nat} {g : Ev → Res D} {Kt : D → Prop} {Q : VK} (m : Frm K B F H σ τ f) (h : PO' ex (g τ) Kt) (k : ∀ d v H', Frm K B F H' σ τ f → Same H H' → HRep K (nw (fun _ => True) H) H' v d → Kt d → Q v H') : RD K ex is g σ H Q :=
  rdAt (.refl _) (all_slots m.rps) h fun b v H2 e2 _ mv hb => k b v H2 (m.grow e2) e2 mv hb
mutual
theorem gT_own : ∀ (t : Tg) {σ : St} {τ : Ev} {f : List Addr} {v : V} {d : D} {fv : List Addr} {Kt : Ev → Prop} {Q : St → Hp → Prop}, Rps K F H σ τ f → MRep K F H v d fv → (fv ++ f).Nodup → PO' ex (setT t d τ) Kt →
    (∀ τ' σ' f', Rps K F H σ' τ' f' → f'.Nodup → (∀ a ∈ f', a ∈ fv ++ f) → Kt τ' → Q σ' H) → gT K t v σ H Q
  | .nm i, σ, τ, f, v, d, fv, Kt, Q, r, m, nd, h, k => by
    obtain ⟨g, h', r2, p2⟩ := r.put i m
    have nd2 : (g ++ h').Nodup := p2.nodup_iff.mpr nd
    exact k (τ.set i (some d)) (σ.set i (some v)) g r2 (List.nodup_append.mp nd2).1 (fun a ha => p2.mem_iff.mp (List.mem_append_left _ ha)) h.ok
  | .tp ts, σ, τ, f, v, d, fv, Kt, Q, r, m, nd, h, k => by
    cases m with
    | tup h1 h2 =>
      obtain ⟨gd, h⟩ := PO'.grd h
      have g' := of_decide_eq_true gd
      exact ⟨_, _, rfl, .inl h1, by rw [h2.length]; exact g', gTs_own ts r h2 nd h k⟩
    | lstS h0 h1 h2 =>
      obtain ⟨gd, h⟩ := PO'.grd h
      have g' := of_decide_eq_true gd
      exact ⟨_, _, rfl, .inr (.inl h1), by rw [h2.length]; exact g', gTs_own ts r h2 nd h k⟩
    | lstK h1 h2 =>
      obtain ⟨gd, h⟩ := PO'.grd h
      have g' := of_decide_eq_true gd
      exact ⟨_, _, rfl, .inr h1.sq, by rw [h2.length]; exact g', gTs_own ts r h2 nd h k⟩
    | lstO h0 h1 h2 =>
      obtain ⟨gd, h⟩ := PO'.grd h
      have g' := of_decide_eq_true gd
      rw [List.cons_append, List.nodup_cons] at nd
      exact ⟨_, _, rfl, .inr (.inl (.inl h1)), by rw [h2.length]; exact g', gTs_own ts r h2 nd.2 h fun τ' σ' f' a1 a2 a3 a4 => k τ' σ' f' a1 a2 (fun x hx => by rw [List.cons_append]; exact List.mem_cons_of_mem _ (a3 x hx)) a4⟩
    | _ => exact h.no.elim
theorem gTs_own : ∀ (ts : List Tg) {σ : St} {τ : Ev} {f : List Addr} {vs : List V} {ds : List D} {fv : List Addr} {Kt : Ev → Prop} {Q : St → Hp → Prop}, Rps K F H σ τ f → MReps K F H vs ds fv → (fv ++ f).Nodup → PO' ex (setTs ts ds τ) Kt →
    (∀ τ' σ' f', Rps K F H σ' τ' f' → f'.Nodup → (∀ a ∈ f', a ∈ fv ++ f) → Kt τ' → Q σ' H) → gTs K ts vs σ H Q
  | [], σ, τ, f, vs, ds, fv, Kt, Q, r, m, nd, h, k => by
    cases m with
    | nil => exact ⟨rfl, k τ σ f r (by simpa using nd) (fun a ha => by simpa using ha) h.ok⟩
    | cons _ _ => exact h.no.elim
  | t :: ts, σ, τ, f, vs, ds, fv, Kt, Q, r, m, nd, h, k => by
    cases m with
    | nil => exact h.no.elim
    | cons m1 m2 =>
      rename_i v d f1 vs ds f2
      have nd' : (f2 ++ (f1 ++ f)).Nodup := by
        refine (List.Perm.nodup_iff ?_).mp nd
        rw [← List.append_assoc]
        exact List.Perm.append_right f List.perm_append_comm
      refine ⟨_, _, rfl, gT_own t r m1 (List.nodup_append.mp nd').2.1 (PO'.bnd h) fun τ' σ' f' r' nf' hm' h' => ?_⟩
      refine gTs_own ts r' m2 (List.nodup_append.mpr ⟨(List.nodup_append.mp nd').1, nf', fun a h1 b h2 e => (List.nodup_append.mp nd').2.2 a h1 b (hm' b h2) e⟩) h' fun τ'' σ'' f'' r'' nf'' hm'' h'' => k τ'' σ'' f'' r'' nf'' (fun a ha => ?_) h''
      rcases List.mem_append.mp (hm'' a ha) with z | z
      · exact List.mem_append_left _ (List.mem_append_right _ z)
      · rcases List.mem_append.mp (hm' a z) with z | z
        · exact List.mem_append_left _ (List.mem_append_left _ z)
        · exact List.mem_append_right _ z
end
theorem Frm.gT {t : Tg} {v : V} {d : D} {fv : List Addr} {Kt : Ev → Prop} {Q : St → Hp → Prop} (m : Frm K B F H σ τ f) (mv : MRep K F H v d fv) (nd : (fv ++ f).Nodup) (hb : ∀ a ∈ fv, B.H a = none) (h : PO' ex (setT t d τ) Kt)
    (k : ∀ τ' σ' f', Frm K B F H σ' τ' f' → Kt τ' → Q σ' H) : L2.gT K t v σ H Q :=
  gT_own t m.rps mv nd h fun τ' σ' f' r' nf' hm h' => k τ' σ' f' ⟨m.fok, r', nf', m.same, fun a ha => (List.mem_append.mp (hm a ha)).elim (hb a) (m.own a), m.inn, m.out, m.pin, m.pit⟩ h'
theorem Frm.write {i : Nat} {ds ds' : List D} {w : V} {d : D} {fv : List Addr} {l : Addr} {xs ys : List V} (m : Frm K B F H σ τ f) (hs : slotD τ i = some (.lst true ds)) (hσ : σ[i]? = some (some (.ref l))) (hl : H l = some (.lst xs)) (mw : MRep K F H w d fv) (nd : (fv ++ f).Nodup) (hb : ∀ a ∈ fv, B.H a = none)
    (hy : ∀ fi, MReps K F H xs ds fi → ∃ fl h, MReps K F H ys ds' fl ∧ (fl ++ h).Perm (fv ++ fi)) : ∃ f', Frm K B F (upd H l (.lst ys)) σ (τ.set i (some (.lst true ds'))) f' := by
  obtain ⟨v, fs, g, h1, h2, h3, h4⟩ := m.rps.at hs
  rw [hσ] at h1
  cases h1
  cases h2 with
  | @lstO a xs' ds0 fi hF hH hm =>
    rw [hl] at hH
    cases hH
    obtain ⟨fl, h, hm', hp⟩ := hy fi hm
    have ndf : ((l :: fi) ++ g).Nodup := h4.nodup_iff.mp m.nod
    have nda : (fv ++ ((l :: fi) ++ g)).Nodup := (List.Perm.append_left fv h4).nodup_iff.mp nd
    have lg : l ∉ g := by
      rw [List.cons_append, List.nodup_cons] at ndf
      exact fun z => ndf.1 (List.mem_append_right _ z)
    have lfi : l ∉ fi := by
      rw [List.cons_append, List.nodup_cons] at ndf
      exact fun z => ndf.1 (List.mem_append_left _ z)
    have lfv : l ∉ fv := fun z => (List.nodup_append.mp nda).2.2 l z l (by simp) rfl
    have inFl : ∀ a ∈ fl, a ∈ fv ++ fi := fun a ha => hp.mem_iff.mp (List.mem_append_left _ ha)
    have lfl : l ∉ fl := fun z => (List.mem_append.mp (inFl l z)).elim lfv lfi
    have sl : ∀ a xs, F a → Rd H a (.lst xs) → F a ∧ Rd (upd H l (.lst ys)) a (.lst xs) := fun a xs h r => by
      refine ⟨h, ?_⟩
      have : a ≠ l := fun z => hF (by rw [← z]; exact h)
      unfold Rd
      rw [upd_ne this]
      exact r
    have st : ∀ a xs, SqT K H a xs → SqT K (upd H l (.lst ys)) a xs := fun a xs h => by
      rcases h with h | h
      · have : a ≠ l := by
          rintro rfl
          rcases h with h | ⟨o, h⟩ <;> (rw [hl] at h; cases h)
        refine .inl ?_
        unfold Rd
        rw [upd_ne this]
        exact h
      · exact .inr h
    have r1 : Rps K F (upd H l (.lst ys)) σ (τ.set i none) g := h3.step sl st fun a ha n _ => ⟨n, upd_ne fun z => lg (by rw [← z]; exact ha)⟩
    have m1 : MRep K F (upd H l (.lst ys)) (.ref l) (.lst true ds') (l :: fl) := .lstO hF upd_same (hm'.step sl st fun a ha n _ => ⟨n, upd_ne fun z => lfl (by rw [← z]; exact ha)⟩)
    obtain ⟨g', h', r2, p2⟩ := r1.put i m1
    have hσ' : σ.set i (some (.ref l)) = σ := by
      apply List.ext_getElem?
      intro j
      rw [List.getElem?_set]
      by_cases hj : i = j
      · subst hj
        have hlt : i < σ.length := (List.getElem?_eq_some_iff.mp hσ).1
        rw [if_pos rfl, if_pos hlt, hσ]
      · rw [if_neg hj]
    rw [hσ', List.set_set] at r2
    have ndl : ((l :: fl) ++ g).Nodup := by
      rw [List.cons_append, List.nodup_cons]
      refine ⟨fun z => (List.mem_append.mp z).elim lfl lg, List.nodup_append.mpr ⟨?_, (List.nodup_append.mp ndf).2.1, fun a h1 b h2 e => ?_⟩⟩
      · have : (fl ++ h).Nodup := hp.nodup_iff.mpr (List.nodup_append.mpr ⟨(List.nodup_append.mp nda).1, (List.nodup_cons.mp (List.nodup_append.mp ndf).1).2, fun a h1 b h2 e => (List.nodup_append.mp nda).2.2 a h1 b (List.mem_append_left _ (List.mem_cons_of_mem _ h2)) e⟩)
        exact (List.nodup_append.mp this).1
      · subst e
        rcases List.mem_append.mp (inFl a h1) with z | z
        · exact (List.nodup_append.mp nda).2.2 a z a (List.mem_append_right _ h2) rfl
        · exact (List.nodup_append.mp ndf).2.2 a (List.mem_cons_of_mem _ z) a h2 rfl
    have nd2 : (g' ++ h').Nodup := p2.nodup_iff.mpr ndl
    have lB : B.H l = none := m.own l (h4.mem_iff.mpr (by simp))
    refine ⟨g', fun a h => ?_, r2, (List.nodup_append.mp nd2).1, fun b o hbo => ?_, fun a ha => ?_, m.inn, m.out, fun a xs h => ⟨(m.pin a xs h).1, (sl a xs (m.pin a xs h).1 (m.pin a xs h).2).2⟩, fun a xs h => st a xs (m.pit a xs h)⟩
    · have : a ≠ l := fun z => hF (by rw [← z]; exact h)
      rw [upd_ne this]
      exact m.fok a h
    · have : b ≠ l := fun z => by rw [z, lB] at hbo; cases hbo
      rw [upd_ne this]
      exact m.same _ _ hbo
    · have : a ∈ (l :: fl) ++ g := p2.mem_iff.mp (List.mem_append_left _ ha)
      rcases List.mem_append.mp this with z | z
      · rcases List.mem_cons.mp z with rfl | z
        · exact lB
        · rcases List.mem_append.mp (inFl a z) with z | z
          · exact hb a z
          · exact m.own a (h4.mem_iff.mpr (List.mem_append_left _ (List.mem_cons_of_mem _ z)))
      · exact m.own a (h4.mem_iff.mpr (List.mem_append_right _ z))
theorem MReps.set {w : V} {d : D} {fv : List Addr} (mw : MRep K F H w d fv) : ∀ {xs : List V} {ds : List D} {fi : List Addr} (j : Nat), MReps K F H xs ds fi → ∃ fl h, MReps K F H (xs.set j w) (ds.set j d) fl ∧ (fl ++ h).Perm (fv ++ fi)
  | _, _, _, _, .nil => ⟨[], _, .nil, .refl _⟩
  | _, _, _, 0, .cons (f := f0) (g := g0) m1 m2 => ⟨_, f0, .cons mw m2, by rw [List.append_assoc]; exact List.Perm.append_left _ List.perm_append_comm⟩
  | _, _, _, j + 1, .cons (f := f0) (g := g0) m1 m2 => by
    obtain ⟨fl, h, h1, h2⟩ := MReps.set mw j m2
    refine ⟨f0 ++ fl, h, .cons m1 h1, ?_⟩
    rw [List.append_assoc]
    refine (List.Perm.append_left f0 h2).trans ?_
    rw [← List.append_assoc, ← List.append_assoc]
    exact List.Perm.append_right g0 List.perm_append_comm
theorem MReps.snoc {w : V} {d : D} {fv : List Addr} (mw : MRep K F H w d fv) {xs : List V} {ds : List D} {fi : List Addr} (m : MReps K F H xs ds fi) : ∃ fl h, MReps K F H (xs ++ [w]) (ds ++ [d]) fl ∧ (fl ++ h).Perm (fv ++ fi) :=
  ⟨fi ++ (fv ++ []), [], m.append (.cons mw .nil), by rw [List.append_nil, List.append_nil]; exact List.perm_append_comm⟩
end
end L2
namespace L2
open PySem PySem.Spec PyProof.Rows PySem.SeqAt
noncomputable def notTuple : Expr → Bool
  | .Tuple .. => false
  | _ => true
noncomputable def notComp : Expr → Bool
  | .ListComp .. => false
  | .SetComp .. => false
  | .DictComp .. => false
  | _ => true
noncomputable def isName : Expr → Bool
  | .Name .. => true
  | _ => false
noncomputable def isTup : Expr → Bool
  | .Tuple .. => true
  | _ => false
noncomputable def trv : Stmt → (List Stmt → Bool) → Bool
  | .Try b (_ :: _) [] [] _, k => k b
  | _, _ => false
theorem trv_ok {s : Stmt} {k : List Stmt → Bool} (h : trv s k = true) : ∃ b h₀ hs pos, s = .Try b (h₀ :: hs) [] [] pos ∧ k b = true := by
  unfold trv at h
  split at h
  · exact ⟨_, _, _, _, rfl, h⟩
  · cases h
mutual
noncomputable def chkS (Z : Sg) (G : Gm) : IS → Stmt → Bool
  | .asg tg e, .Assign [t] v _ => chkT G tg t && chk Z G e v && (isName t || (isTup t && notTuple v))
  | .app i e, .Expr (.Call (.Attribute (.Name x _) name apos) [v] [] cpos) _ => chkV G i x && name == "append" && apos.endLine == cpos.line && notStar v && chk Z G e v
  | .pass, .Expr (.Constant (.str _) _ _) _ => true
  | .exp e, .Expr v _ => notComp v && chk Z G e v
  | .ret e, .Return (some v) _ => chk Z G e v
  | .retN, .Return none _ => true
  | .if_ t a b, .If c x y _ => chk Z G t c && chkSs Z G a x && chkSs Z G b y
  | .for_ tg s body, .For t it b [] _ => chkT G tg t && chkSr Z G s it && chkSs Z G body b
  | .tryn body, s => trv s fun b => chkSs Z G body b
  | .brk, .Break _ => true
  | .cnt, .Continue _ => true
  | .pass, .Pass _ => true
  | .never, _ => true
  | _, _ => false
noncomputable def chkSs (Z : Sg) (G : Gm) : List IS → List Stmt → Bool
  | [], [] => true
  | a :: as, s :: ss => chkS Z G a s && chkSs Z G as ss
  | _, _ => false
end
section
variable {Z : Sg} {CX : CXT} {cl : Nat → List D → Res D} {xp : XK → Hp → Str → Prop} {X : Cx} {ex : Str → Prop} {G : Gm}
theorem t_asg {tg : Tg} {ga : Ev → Res (D × Ev)} {Dn : Ends} {σ : St} {H : Hp} (h : RS X.K ex (fun τ => bnd (ga τ) fun p => bnd (setT tg p.1 p.2) fun τ' => .ok (.nx τ')) Dn σ H) : tAsg (RO X.K ex ga) (gT X.K tg) Dn σ H := by
  obtain ⟨B, F, τ, f, m, q⟩ := h
  refine m.ro (PO'.bnd q) fun p v H' F' fv f' o hp => ?_
  obtain ⟨m', hb⟩ := m.ow o
  exact m'.gT o.rep o.nod hb (PO'.bnd hp) fun τ' σ' f'' m'' h' => h'.ok _ _ _ _ m''
theorem st_asg (g : GOk Z CX cl xp X ex G) {tg : Tg} {e : IR} {t v : Expr} {pos : Pos} (ht : chkT G tg t = true) (hv : chk Z G e v = true) (hc : (isName t || (isTup t && notTuple v)) = true) : PS X (.Assign [t] v pos) (RS X.K ex (evS cl (.asg tg e))) := by
  have pe := snO e false X ex G v g hv
  have pg := pgT g tg t ht
  cases t with
  | Name x px =>
    cases tg with
    | tp _ => cases ht
    | nm i =>
      have ht' : (G.N[i]? == some x && (G.kd[i]? == some .local || (G.df && G.kd[i]? == some .cell))) = true := ht
      rw [Bool.and_eq_true, Bool.or_eq_true, Bool.and_eq_true] at ht'
      have hx : G.N[i]? = some x := eq_of_beq ht'.1
      have hk := g.kd i x hx
      have hloc : Loc X.env.scope x := ht'.2.elim (fun z => .inl (hk.trans (eq_of_beq z))) fun z => .inr (hk.trans (eq_of_beq z.2))
      have hfn : X.fn x = true ∨ X.env.scope.names.lookup x = some .local := ht'.2.elim (fun z => .inr (hk.trans (eq_of_beq z))) fun z => .inl (g.df z.1 x)
      have plain : swapsWith v (some (.Name x px)) pos.line X.env = pure false → PS X (.Assign [.Name x px] v pos) (RS X.K ex (evS cl (.asg (.nm i) e))) := fun hs =>
        psMono (ps_set (i := i) (by rw [g.N]; exact g.nod) (by rw [g.N]; exact hx) hloc pe hs hfn) fun Dn σ H h => t_asg h
      cases v with
      | ListComp el gens scope vpos =>
        have hsw : swapsWith (.ListComp el gens scope vpos) (some (.Name x px)) pos.line X.env = pure (X.env.blockKind == .function && X.env.kindOf x == some .local && px.line == vpos.line && !(scope.names.any fun (n, k) => n == x && (k == .local || k == .cell))) := rfl
        cases hb : (X.env.blockKind == .function && X.env.kindOf x == some .local && px.line == vpos.line && !(scope.names.any fun (n, k) => n == x && (k == .local || k == .cell))) with
        | false => exact plain (by rw [hsw, hb])
        | true =>
          rw [hb] at hsw
          have hlx : X.env.kindOf x = some .local := by
            simp only [Bool.and_eq_true] at hb
            exact eq_of_beq hb.1.1.2
          cases e with
          | comp G' fr T src ifs elt =>
            have hv : gen1 gens (fun t it fs => chkScope Z G scope G' fr && chkT G' T t && (tgs T).all (fun i => decide (fr.length ≤ i)) && chkSr Z G src it && chks Z G' ifs fs && chk Z G' elt el) = true := hv
            obtain ⟨t, it, fs, rfl, hv⟩ := gen1_ok hv
            have h' : (chkScope Z G scope G' fr && chkT G' T t && (tgs T).all (fun i => decide (fr.length ≤ i)) && chkSr Z G src it && chks Z G' ifs fs && chk Z G' elt el) = true := hv
            simp only [Bool.and_eq_true] at h'
            have hs := scOk_of h'.1.1.1.1.1
            have hT := h'.1.1.1.1.2
            have ha : ∀ i ∈ tgs T, fr.length ≤ i := fun i hi => of_decide_eq_true (List.all_eq_true.mp h'.1.1.1.2 i hi)
            intro pins s' σ H Dn Iv h
            obtain ⟨cl', S⟩ := compSc_of g Iv.ok hs
            have p := ps_comp (py := px) (spos := pos) (i := i) (pos := vpos) (elt := el) (ifs := fs) (tg := t) (g := gT X.K T) (tt := RT X.K nox (varss ifs) (evTs cl ifs)) (te := RD X.K nox (vars elt) (evR cl elt)) g.calm (by rw [g.N]; exact g.nod) (by rw [g.N]; exact hx) hlx S (sndS src X ex G it t g h'.1.1.2) (fun C s H fp => pgT (gok_comp g hs cl' C s H fp) T t hT)
              (fun C s H fp => sndT ifs _ nox G' fs (gok_comp g hs cl' C s H fp) h'.1.2) (fun C s H fp => (snd elt _ nox G' el (gok_comp g hs cl' C s H fp) h'.2).1) hsw (fun x => folded_src h'.1.1.2 X.env x)
            refine p pins s' σ H Dn Iv ?_
            obtain ⟨B, F, τ, f, m, q⟩ := h
            -- as one that is kept
            have q0 : PO' ex (bnd (bnd (evR cl (.comp G' fr T src ifs elt) τ) fun d => .ok (keepD (.comp G' fr T src ifs elt) d τ)) fun p => bnd (setT (.nm i) p.1 p.2) fun τ' => .ok (.nx τ')) (Fk X.K B Dn) := q
            have q1 := PO'.bnd (PO'.bnd q0)
            have fin : ∀ (d : D) (v : V) (H' : Hp) (F' : Addr → Prop) (fv f' : List Addr), Ow X.K F H f F' H' σ v (keepD (.comp G' fr T src ifs elt) d τ).1 fv (keepD (.comp G' fr T src ifs elt) d τ).2 f' → (∀ (p : D × Ev), p = keepD (.comp G' fr T src ifs elt) d τ → PO' ex (bnd (setT (.nm i) p.1 p.2) fun τ' => .ok (.nx τ')) (Fk X.K B Dn)) → Dn.nx (σ.set i (some v)) H' := by
              intro d v H' F' fv f' o hp
              obtain ⟨m', hb'⟩ := m.ow o
              have := m'.gT (t := .nm i) (Q := Dn.nx) o.rep o.nod hb' (PO'.bnd (hp _ rfl)) fun τ' σ' f'' m'' h' => h'.ok _ _ _ _ m''
              exact this
            cases z : evR cl (.comp G' fr T src ifs elt) τ with
            | error er =>
              rw [z] at q1
              cases er with
              | stuck => exact q1.no.elim
              | exc c =>
                refine comp_core (S := fun _ => True) (τ := τ) (ex := ex) (Kt := fun _ => False) hs.fle ha (all_slots m.rps) ?_ fun A ys ds H' e hA hA' mm k => k.elim
                show PO' ex (evR cl (.comp G' fr T src ifs elt) τ) _
                rw [z]
                exact q1
            | ok d =>
              rw [z] at q1
              have q2 := q1.ok.ok
              obtain ⟨o', ds, rfl⟩ : ∃ o ds, d = .lst o ds := by
                have zz := z
                rw [evR_comp] at zz
                obtain ⟨its, _, zz⟩ := bnd_ok zz
                obtain ⟨_, zz⟩ := grd_ok zz
                obtain ⟨ds, _, zz⟩ := bnd_ok zz
                cases zz
                exact ⟨true, ds, rfl⟩
              by_cases hi : lfrees ds = true
              · have hkp : keepD (.comp G' fr T src ifs elt) (.lst o' ds) τ = (.lst true ds, τ) := by
                  unfold keepD
                  rw [if_neg (show ¬ lfree (.lst o' ds) = true by intro z; cases z)]
                  show (if lfrees ds = true then _ else _) = _
                  rw [if_pos hi]
                refine comp_core (S := fun _ => True) (τ := τ) (ex := ex) (Kt := fun d' => ∃ o'', d' = .lst o'' ds) hs.fle ha (all_slots m.rps) ?_ fun A ys ds' H' e hA hA' mm k => ?_
                · show PO' ex (evR cl (.comp G' fr T src ifs elt) τ) _
                  rw [z]
                  exact ⟨o', rfl⟩
                · obtain ⟨o'', k⟩ := k
                  cases k
                  obtain ⟨k1, k2, k3⟩ := grow0 m.fok m.rps e
                  refine fin (.lst o' ds) (.ref A) H' F [A] f ?_ (fun p hp => by subst hp; exact q2)
                  rw [hkp]
                  refine ⟨k3, k1, .lstO (fun zz => m.fok A zz hA) hA' (mm.free hi), k2, ?_, fun a ha => ?_⟩
                  · rw [List.singleton_append, List.nodup_cons]
                    refine ⟨fun zz => ?_, m.nod⟩
                    obtain ⟨_, xs, e⟩ := m.rps.own A zz
                    rw [hA] at e; cases e
                  · rw [List.singleton_append] at ha
                    rcases List.mem_cons.mp ha with rfl | ha
                    · exact .inr hA
                    · exact .inl ha
              · have hkp : keepD (.comp G' fr T src ifs elt) (.lst o' ds) τ = (.lst true (ers ds), frz (vars (.comp G' fr T src ifs elt)) τ) := by
                  unfold keepD
                  rw [if_neg (show ¬ lfree (.lst o' ds) = true by intro z; cases z)]
                  show (if lfrees ds = true then _ else _) = _
                  rw [if_neg hi]
                obtain ⟨F1, gg, b1, b2, b3, b4, b5, b6⟩ := freeze1 (vars (.comp G' fr T src ifs elt)) m.fok m.rps m.nod
                refine comp_core (S := F1) (τ := τ) (ex := ex) (Kt := fun d' => ∃ o'', d' = .lst o'' ds) hs.fle ha b6 ?_ fun A ys ds' H' e hA hA' mm k => ?_
                · show PO' ex (evR cl (.comp G' fr T src ifs elt) τ) _
                  rw [z]
                  exact ⟨o', rfl⟩
                · obtain ⟨o'', k⟩ := k
                  cases k
                  obtain ⟨c1, c2, c3⟩ := grow (fun a => a ≠ A) b1 b2 e
                  have m2 : HReps X.K (fun a => F1 a ∨ (a ≠ A ∧ H a = none ∧ H' a ≠ none)) H' ys ds := mm.step (fun a xs h r => ⟨h.1.elim (fun z => .inl z) fun z => .inr ⟨h.2, z, r.some⟩, r⟩) fun a xs h => h
                  refine fin (.lst o' ds) (.ref A) H' (fun a => F1 a ∨ (a ≠ A ∧ H a = none ∧ H' a ≠ none)) [A] gg ?_ (fun p hp => by subst hp; exact q2)
                  rw [hkp]
                  refine ⟨b4.trans c3 (fun x hx => .inl (b5 x hx)), c1, .lstO (fun zz => ?_) hA' m2.frozen, c2, ?_, fun a ha => ?_⟩
                  · rcases zz with zz | zz
                    · exact b1 A zz hA
                    · exact zz.1 rfl
                  · rw [List.singleton_append, List.nodup_cons]
                    refine ⟨fun zz => ?_, b3⟩
                    obtain ⟨_, xs, e⟩ := b2.own A zz
                    rw [hA] at e; cases e
                  · rw [List.singleton_append] at ha
                    rcases List.mem_cons.mp ha with rfl | ha
                    · exact .inr hA
                    · exact .inl (b5 a ha)
          | _ => first | exact no_h hv | cases hv
      | SetComp _ _ _ _ => cases e <;> first | exact no_h hv | cases hv
      | DictComp _ _ _ _ _ => cases e <;> first | exact no_h hv | cases hv
      | _ => exact plain rfl
  | Tuple ts k px =>
    have hc' : notTuple v = true := hc
    refine psMono (ps_asg pe pg ?_ ?_ rfl) fun Dn σ H h => t_asg h
    · cases v <;> rfl
    · cases v <;> first | rfl | cases hc'
  | _ => cases hc
end
end L2
namespace L2
open PySem PySem.Spec PyProof.Rows PySem.SeqAt
section
variable {Z : Sg} {CX : CXT} {cl : Nat → List D → Res D} {xp : XK → Hp → Str → Prop} {X : Cx} {ex : Str → Prop} {G : Gm}
theorem own_at {K : PySem.W.Frag} {F : Addr → Prop} {H : Hp} {σ : St} {τ : Ev} {f : List Addr} {i : Nat} {ds : List D} (r : Rps K F H σ τ f) (hs : slotD τ i = some (.lst true ds)) : ∃ l xs, σ[i]? = some (some (.ref l)) ∧ H l = some (.lst xs) ∧ xs.length = ds.length := by
  obtain ⟨v, fs, g, h1, h2, h3, h4⟩ := r.at hs
  cases h2 with
  | lstO hF hH hm => exact ⟨_, _, h1, hH, hm.length⟩
theorem st_app (g : GOk Z CX cl xp X ex G) {i : Nat} {e : IR} {x : Str} {p apos cpos pos : Pos} {v : Expr} (h1 : chkV G i x = true) (h2 : (apos.endLine == cpos.line) = true) (h3 : notStar v = true) (h4 : chk Z G e v = true) :
    PS X (.Expr (.Call (.Attribute (.Name x p) "append" apos) [v] [] cpos) pos) (RS X.K ex (evS cl (.app i e))) := by
  have pa : PA X [v] (tCons (RO X.K ex (evO cl false e)) tNil) := pa_cons (snO e false X ex G v g h4) pa_nil (star_cons h3 _ _)
  have hfew : ((backTo cpos (starEach [v] X.env)).all (fun x => !x.1) && (backToKw cpos (keywordEach [] X.env)).all (fun x => x.1.isSome) && decide ([v].length + ([] : List Keyword).length + (if ([] : List Keyword).isEmpty then 0 else 1) < 30)) = true := by
    rw [star_cons h3]
    rfl
  refine psMono (ps_expr (pe_bm PySem.F.plainAttrs_list PySem.F.slot_list_append PySem.F.type_list_append mt_append (pv_of g h1) pa rfl hfew h2 (star_cons h3 _ _) rfl)) fun Dn σ H h => ?_
  obtain ⟨B, F, τ, f, m, q⟩ := h
  have q0 : PO' ex (match slotD τ i with | some (.lst _ _) => (bnd (evO cl false e τ) fun p => (match slotD p.2 i with | some (.lst true ds) => grd (szLt ds.length) (.ok (.nx (p.2.set i (some (.lst true (ds ++ [p.1])))))) | _ => stk)) | _ => stk) (Fk X.K B Dn) := q
  cases z0 : slotD τ i with
  | none => rw [z0] at q0; exact q0.no.elim
  | some d0 =>
    rw [z0] at q0
    cases d0 with
    | lst o0 ds0 =>
      obtain ⟨v0, fv0, g0, a1, a2, a3, a4⟩ := m.rps.at z0
      have hq : ∃ l xs, v0 = .ref l ∧ SqL X.K H l xs := by
        cases a2 with
        | lstS _ b1 _ => exact ⟨_, _, rfl, .inl b1⟩
        | lstK b1 _ => exact ⟨_, _, rfl, b1.sq⟩
        | lstO _ b1 _ => exact ⟨_, _, rfl, .inl (.inl b1)⟩
      obtain ⟨l, xs0, rfl, hq⟩ := hq
      refine ⟨.ref l, a1, .inl ⟨rfl, xs0, hq⟩, m.ro (PO'.bnd q0) fun p v H' F' fv f' o hp => ?_⟩
      obtain ⟨m', hb⟩ := m.ow o
      cases zs : slotD p.2 i with
      | none => rw [zs] at hp; exact hp.no.elim
      | some d =>
        rw [zs] at hp
        cases d with
        | lst ow ds =>
          cases ow with
          | false => exact hp.no.elim
          | true =>
            obtain ⟨gd, hp⟩ := PO'.grd hp
            obtain ⟨l', xs, hσ, hl, hlen⟩ := own_at m'.rps zs
            rw [a1] at hσ
            cases hσ
            obtain ⟨f'', m3⟩ := m'.write (ys := xs ++ [v]) (ds' := ds ++ [p.1]) zs a1 hl o.rep o.nod hb fun fi hm => hm.snoc o.rep
            exact ⟨l, xs, v, rfl, rfl, hl, by rw [hlen]; exact szLt_lt gd, hp.ok _ _ _ _ m3⟩
        | _ => exact hp.no.elim
    | _ => exact q0.no.elim
theorem MReps.rev {K : PySem.W.Frag} {F : Addr → Prop} {H : Hp} : ∀ {xs : List V} {ds : List D} {fi : List Addr}, MReps K F H xs ds fi → ∃ fl, MReps K F H xs.reverse ds.reverse fl ∧ fl.Perm fi
  | _, _, _, .nil => ⟨[], .nil, .refl _⟩
  | _, _, _, .cons h1 h2 => by
    obtain ⟨fl, h3, h4⟩ := MReps.rev h2
    rw [List.reverse_cons, List.reverse_cons]
    exact ⟨_, h3.append (.cons h1 .nil), by rw [List.append_nil]; exact List.perm_append_comm.trans (h4.append_left _)⟩
theorem Fk.rt_of {K : PySem.W.Frag} {B : Bs} {F F' : Addr → Prop} {H H' : Hp} {σ : St} {τ τ' : Ev} {f f' : List Addr} {v : V} {d : D} {fv : List Addr} (m : Frm K B F H σ τ f) (o : Ow K F H f F' H' σ v d fv τ' f') : Out K B.F B.H F' H' v d fv := by
  obtain ⟨m', hb⟩ := m.ow o
  exact ⟨m'.fok, m'.same, o.rep, (List.nodup_append.mp o.nod).1, hb, m'.inn, m'.out⟩
theorem st_ret (g : GOk Z CX cl xp X ex G) {e : IR} {v : Expr} {pos : Pos} (h : chk Z G e v = true) : PS X (.Return (some v) pos) (RS X.K ex (evS cl (.ret e))) := by
  refine psMono (ps_ret (snO e true X ex G v g h)) fun Dn σ H ⟨B, F, τ, f, m, q⟩ => ?_
  exact m.ro (PO'.bnd q) fun p v H' F' fv f' o hp => hp.ok _ _ _ _ (Fk.rt_of m o)
theorem st_retN {pos : Pos} : PS X (.Return none pos) (RS X.K ex (evS cl .retN)) :=
  psMono ps_retN fun Dn σ H ⟨B, F, τ, f, m, q⟩ => q.ok .non H F [] ⟨m.fok, m.same, .non, List.nodup_nil, fun a ha => absurd ha (by simp), m.inn, m.out⟩
theorem st_exp (g : GOk Z CX cl xp X ex G) {e : IR} {v : Expr} {pos : Pos} (hc : notComp v = true) (h : chk Z G e v = true) : PS X (.Expr v pos) (RS X.K ex (evS cl (.exp e))) := by
  refine psMono (ps_expr (snd e X ex G v g h).1 (by cases v <;> first | rfl | cases hc)) fun Dn σ H ⟨B, F, τ, f, m, q⟩ => ?_
  exact m.rd (PO'.bnd q) fun d v H' m' _ _ hd => hd.ok _ _ _ _ m'
theorem st_if {c : Expr} {x y : List Stmt} {pos : Pos} {t : IR} {a b : List IS} (hc : PT X c (RT X.K ex (vars t) fun τ => bnd (evR cl t τ) truD)) (ha : PSs X x (RS X.K ex (evSs cl a))) (hb : PSs X y (RS X.K ex (evSs cl b))) : PS X (.If c x y pos) (RS X.K ex (evS cl (.if_ t a b))) := by
  refine psMono (ps_if hc ha hb) fun Dn σ H ⟨B, F, τ, f, m, q⟩ => ?_
  refine m.rt (PO'.bnd q) fun r H' m' _ hr => ?_
  cases r with
  | true => rw [if_pos rfl] at hr ⊢; exact ⟨B, F, τ, f, m', hr⟩
  | false => rw [if_neg Bool.false_ne_true] at hr ⊢; exact ⟨B, F, τ, f, m', hr⟩
theorem Frm.less {K : PySem.W.Frag} {B : Bs} {L T : Addr → List V → Prop} {F : Addr → Prop} {H : Hp} {σ : St} {τ : Ev} {f : List Addr} (m : Frm K ⟨B.F, B.H, fun a xs => B.L a xs ∨ L a xs, fun a xs => B.T a xs ∨ T a xs⟩ F H σ τ f) : Frm K B F H σ τ f :=
  ⟨m.fok, m.rps, m.nod, m.same, m.own, m.inn, m.out, fun a xs h => m.pin a xs (.inl h), fun a xs h => m.pit a xs (.inl h)⟩
theorem ers_drop : ∀ (ds : List D) (i : Nat), (ers ds).drop i = ers (ds.drop i) := by
  intro ds i
  rw [ers_map, ers_map, List.map_drop]
theorem for_core {J : It} {K : PySem.W.Frag} {B : Bs} {F : Addr → Prop} {H : Hp} {σ : St} {τ : Ev} {f : List Addr} {T : Tg} {body : List IS} {its : List D} {Dn : Ends} (m : Frm K B F H σ τ f) (w : Wlk K F H J its)
    (q : PO' ex (forM (fun x τ => bnd (setT T x τ) fun τ' => evSs cl body τ') (ers its) τ) (Fk K B Dn)) :
    ∃ W : Nat → Nat → St → Hp → Prop, (∃ m, W 0 m σ H) ∧ ∀ i m σ H, W i m σ H → (J.stop i H ∧ Dn.nx σ H) ∨ (J.go i H ∧ ∃ N : St → Hp → Prop, (∀ σ' H', N σ' H' → ∃ m', m' < m ∧ W (i + 1) m' σ' H') ∧
      ∀ x H', J.yld i H x H' → gT K T x σ H' fun σ2 H2 => RS K ex (evSs cl body) { Dn with nx := N, ct := N, bk := Dn.nx } σ2 H2) := by
  let B' : Bs := ⟨B.F, B.H, fun a xs => B.L a xs ∨ (F a ∧ Rd H a (.lst xs)), fun a xs => B.T a xs ∨ SqT K H a xs⟩
  have m0 : Frm K B' F H σ τ f := ⟨m.fok, m.rps, m.nod, m.same, m.own, m.inn, m.out, fun a xs h => h.elim (m.pin a xs) id, fun a xs h => h.elim (m.pit a xs) id⟩
  let bd : D → Ev → Res Fl := fun x τ => bnd (setT T x τ) fun τ' => evSs cl body τ'
  refine ⟨fun i n σ H => n = its.length - i ∧ i ≤ its.length ∧ ∃ F τ f, Frm K B' F H σ τ f ∧ PO' ex (forM bd ((ers its).drop i) τ) (Fk K B Dn), ⟨its.length, by simp, Nat.zero_le _, F, τ, f, m0, by rw [List.drop_zero]; exact q⟩, ?_⟩
  rintro i n σ1 H1 ⟨rfl, hi, F1, τ1, f1, m1, q1⟩
  have w1 : Wlk K F1 H1 J its := w.step (fun a xs h r => m1.pin a xs (.inr ⟨h, r⟩)) fun a xs h => m1.pit a xs (.inr h)
  by_cases hlt : i < its.length
  · refine .inr ⟨w1.go hlt, fun σ H => ∃ F τ f, Frm K B' F H σ τ f ∧ PO' ex (forM bd ((ers its).drop (i + 1)) τ) (Fk K B Dn), fun σ' H' h => ⟨its.length - (i + 1), by omega, rfl, hlt, h⟩, fun x H' y => ?_⟩
    obtain ⟨eH, mx⟩ := w1.yld y (d := its[i]) (by simp [hlt])
    subst eH
    have hd : (ers its).drop i = er its[i] :: (ers its).drop (i + 1) := by
      rw [ers_drop, List.drop_eq_getElem_cons hlt, ers, ers_drop]
    rw [hd] at q1
    have q2 := PO'.bnd q1
    refine m1.gT mx.frozen (by simpa using m1.nod) (fun a ha => absurd ha (by simp)) (PO'.bnd q2) fun τ' σ' f' m' h' => ?_
    refine ⟨B', F1, τ', f', m', h'.mono fun r hr => ?_⟩
    cases r with
    | nx τ' => exact fun σ' H' F' f' m'' => ⟨F', τ', f', m'', hr⟩
    | ct τ' => exact fun σ' H' F' f' m'' => ⟨F', τ', f', m'', hr⟩
    | bk τ' => exact fun σ' H' F' f' m'' => hr.ok _ _ _ _ m''.less
    | rt d => exact fun v H' F' fv o => hr.ok _ _ _ _ o
  · have e : i = its.length := by omega
    subst e
    refine .inl ⟨w1.stop (Nat.le_refl _), ?_⟩
    have : (ers its).drop its.length = [] := by rw [← ers_length its, List.drop_length]
    rw [this] at q1
    exact q1.ok _ _ _ _ m1.less
theorem ers_rng (a b : Int) : ers (rngD a b) = rngD a b := by
  unfold rngD
  rw [ers_map, List.map_map]
  rfl
noncomputable def evRng (cl : Nat → List D → Res D) : Sr → Ev → Res (Int × Int)
  | .rng1 n, τ => bnd (evR cl n τ) fun | .int i => grd (rngOk i) (.ok (0, i)) | _ => stk
  | .rng2 a b, τ => bnd (evR cl a τ) fun x => bnd (evR cl b τ) fun y => match x, y with | .int i, .int j => grd (rngOk i && rngOk j) (.ok (i, j)) | _, _ => stk
  | _, _ => stk
noncomputable def RIr (K : PySem.W.Frag) (ex : Str → Prop) (is : List Nat) (f : Ev → Res (Int × Int)) : TI := fun σ H R => ∃ S τ, Slots K S H σ τ is ∧ PO' ex (f τ) fun p => ∀ H', Same H H' → R (Itr p.1 (p.2 - p.1).toNat) H'
noncomputable def isRng : Sr → Bool
  | .rng1 _ => true
  | .rng2 _ _ => true
  | _ => false
theorem evSr_rng {s : Sr} (h : isRng s = true) {τ : Ev} {k : List D → Prop} (q : PO' ex (evSr cl s τ) k) : PO' ex (evRng cl s τ) fun p => k (rngD p.1 p.2) := by
  cases s with
  | rng1 n =>
    refine PO'.mk ((PO'.bnd (show PO' ex (bnd (evR cl n τ) fun | .int i => grd (rngOk i) (.ok (rngD 0 i)) | _ => stk) k from q)).mono fun d hd => ?_)
    cases d with
    | int i =>
      obtain ⟨gd, hd⟩ := PO'.grd hd
      show PO' ex (grd (rngOk i) (.ok (0, i))) _
      unfold grd
      rw [if_pos gd]
      exact hd.ok
    | _ => exact hd.no.elim
  | rng2 a b =>
    refine PO'.mk ((PO'.bnd (show PO' ex (bnd (evR cl a τ) fun x => bnd (evR cl b τ) fun y => match x, y with | .int i, .int j => grd (rngOk i && rngOk j) (.ok (rngD i j)) | _, _ => stk) k from q)).mono fun d hd => PO'.mk ((PO'.bnd hd).mono fun e he => ?_))
    cases d with
    | int i =>
      cases e with
      | int j =>
        obtain ⟨gd, he⟩ := PO'.grd he
        show PO' ex (grd (rngOk i && rngOk j) (.ok (i, j))) _
        unfold grd
        rw [if_pos gd]
        exact he.ok
      | _ => exact he.no.elim
    | _ => cases e <;> exact he.no.elim
  | _ => first | exact no_h h | cases h
theorem sndR : ∀ (s : Sr) (X : Cx) (ex : Str → Prop) (G : Gm) (e tg : Expr), GOk Z CX cl xp X ex G → chkSr Z G s e = true → isRng s = true → PI X tg e (RIr X.K ex (varsS s) (evRng cl s)) := by
  intro s X ex G e tg g h hr
  cases s with
  | rng1 n =>
    cases e with
    | Call fn args kws pos =>
      cases fn with
      | Name x p =>
        match args, kws, h with
        | [a], [], h =>
          have h' : (x == "range" && G.gl.contains 15 && notStar a && chk Z G n a) = true := h
          simp only [Bool.and_eq_true] at h'
          have e1 : x = "range" := eq_of_beq h'.1.1.1
          subst e1
          obtain ⟨k1, k2, _, _⟩ := gb_of g (show bnames[15]? = some ("range" : Str) from rfl) h'.1.1.2
          refine piMono (pi_range1 k1 k2 (pa_cons (snd n X ex G a g h'.2).1 pa_nil (star_cons h'.1.2 _ _)) (star_cons h'.1.2 _ _)) fun σ H Q ⟨S, τ, hs, q⟩ => ?_
          refine rdAt (.refl _) hs (PO'.bnd q) fun x v H1 e1 _ m1 q1 => ?_
          cases x with
          | int i =>
            cases m1.intR
            obtain ⟨gd, q1⟩ := PO'.grd q1
            have gd' : -(2 ^ 62) ≤ i ∧ i < 2 ^ 62 := of_decide_eq_true gd
            refine ⟨i, rfl, gd'.1, gd'.2, ?_⟩
            have := q1.ok _ e1
            rw [show (0, i).2 - (0, i).1 = i from Int.sub_zero i] at this
            exact this
          | _ => exact q1.no.elim
        | [], _, h => first | exact no_h h | cases h
        | [_], _ :: _, h => first | exact no_h h | cases h
        | _ :: _ :: _, _, h => first | exact no_h h | cases h
      | _ => first | exact no_h h | cases h
    | _ => first | exact no_h h | cases h
  | rng2 a b =>
    cases e with
    | Call fn args kws pos =>
      cases fn with
      | Name x p =>
        match args, kws, h with
        | [l, r], [], h =>
          have h' : (x == "range" && G.gl.contains 15 && notStar l && notStar r && chk Z G a l && chk Z G b r) = true := h
          simp only [Bool.and_eq_true] at h'
          have e1 : x = "range" := eq_of_beq h'.1.1.1.1.1
          subst e1
          obtain ⟨k1, k2, _, _⟩ := gb_of g (show bnames[15]? = some ("range" : Str) from rfl) h'.1.1.1.1.2
          have hn := h'.1.1.1.2
          have hn' := h'.1.1.2
          refine piMono (pi_range2 k1 k2 (pa_cons (snd a X ex G l g h'.1.2).1 (pa_cons (snd b X ex G r g h'.2).1 pa_nil (star_cons hn' _ _)) (star_cons hn _ _)) (by rw [star_cons hn, star_cons hn']; rfl) (star_cons hn' _ _)) fun σ H Q ⟨S, τ, hs, q⟩ => ?_
          refine rdAt (.refl _) hs.left (PO'.bnd q) fun x v H1 e1 _ m1 q1 => ?_
          refine rdAt e1 hs.right (PO'.bnd q1) fun y w H2 e2 e2' m2 q2 => ?_
          cases x with
          | int i =>
            cases y with
            | int j =>
              cases m1.intR; cases m2.intR
              obtain ⟨gd, q2⟩ := PO'.grd q2
              rw [Bool.and_eq_true] at gd
              have g1 : -(2 ^ 62) ≤ i ∧ i < 2 ^ 62 := of_decide_eq_true gd.1
              have g2 : -(2 ^ 62) ≤ j ∧ j < 2 ^ 62 := of_decide_eq_true gd.2
              exact ⟨i, j, rfl, ⟨g1.1, g1.2, g2.1, g2.2⟩, q2.ok _ e2⟩
            | _ => exact q2.no.elim
          | _ => cases y <;> exact q2.no.elim
        | [], _, h => first | exact no_h h | cases h
        | [_], _, h => first | exact no_h h | cases h
        | [_, _], _ :: _, h => first | exact no_h h | cases h
        | _ :: _ :: _ :: _, _, h => first | exact no_h h | cases h
      | _ => first | exact no_h h | cases h
    | _ => first | exact no_h h | cases h
  | _ => cases hr
theorem st_for (g : GOk Z CX cl xp X ex G) {t it : Expr} {x : List Stmt} {pos : Pos} {T : Tg} {s : Sr} {a : List IS} (hT : chkT G T t = true) (hs : chkSr Z G s it = true) (ha : PSs X x (RS X.K ex (evSs cl a))) : PS X (.For t it x [] pos) (RS X.K ex (evS cl (.for_ T s a))) := by
  by_cases hr : isRng s = true
  · refine psMono (ps_for g.own g.calm (sndR s X ex G it t g hs hr) (pgT g T t hT) ha (fun x => folded_src hs X.env x)) fun Dn σ H ⟨B, F, τ, f, m, q⟩ => ?_
    have q0 : PO' ex (bnd (srcO cl s τ) fun p => forM (fun x τ => bnd (setT T x τ) fun τ' => evSs cl a τ') p.1 p.2) (Fk X.K B Dn) := q
    have base : PO' ex (evSr cl s τ) fun its => PO' ex (forM (fun x τ => bnd (setT T x τ) fun τ' => evSs cl a τ') its τ) (Fk X.K B Dn) := by
      cases s with
      | rng1 u => exact (PO'.bnd (show PO' ex (bnd (evSr cl (.rng1 u) τ) fun its => .ok (its, τ)) _ from PO'.bnd q0)).mono fun its h => h.ok
      | rng2 u v => exact (PO'.bnd (show PO' ex (bnd (evSr cl (.rng2 u v) τ) fun its => .ok (its, τ)) _ from PO'.bnd q0)).mono fun its h => h.ok
      | _ => cases hr
    exact ⟨fun _ => True, τ, all_slots m.rps, (evSr_rng hr base).mono fun p hp H1 e1 => for_core (m.grow e1) (.rng p.1 p.2) (by rw [ers_rng]; exact hp)⟩
  · refine psMono (ps_for g.own g.calm (sndS s X ex G it t g hs) (pgT g T t hT) ha (fun x => folded_src hs X.env x)) fun Dn σ H ⟨B, F, τ, f, m, q⟩ => ?_
    have q0 : PO' ex (bnd (srcO cl s τ) fun p => forM (fun x τ => bnd (setT T x τ) fun τ' => evSs cl a τ') p.1 p.2) (Fk X.K B Dn) := q
    have q1 := PO'.bnd q0
    have hsrc : srcO cl s τ = (bnd (evSr cl s τ) fun its => .ok (ers its, frz (varsS s) τ)) := by
      cases s with
      | val u => rfl
      | rev u => rfl
      | _ => exact absurd rfl hr
    rw [hsrc] at q1
    obtain ⟨F1, gg, b1, b2, b3, b4, b5, b6⟩ := freeze1 (varsS s) m.fok m.rps m.nod
    refine riAt (.refl _) b6 (PO'.bnd q1) fun its J H1 e1 _ w1 hk => ?_
    obtain ⟨c1, c2, c3⟩ := grow (fun _ => True) b1 b2 e1
    have m2 : Frm X.K B (fun a => F1 a ∨ (True ∧ H a = none ∧ H1 a ≠ none)) H1 σ (frz (varsS s) τ) gg := m.stp (b4.trans c3 (fun x hx => .inl (b5 x hx))) c1 c2 b3 fun a ha => .inl (b5 a ha)
    exact for_core m2 (w1.step (fun a xs h r => ⟨h.elim (fun z => .inl z) fun z => .inr ⟨trivial, z, r.some⟩, r⟩) fun a xs h => h) hk.ok
theorem gok_nox (g : GOk Z CX cl xp X ex G) : GOk Z CX cl xp X.nox nox G where
  N := g.N
  nod := g.nod
  calm := g.calm
  fk := g.fk
  un := g.un
  own := PassesOwn.never
  kd := g.kd
  noD := g.noD
  gl := g.gl
  nam := g.nam
  df := g.df
  blt := g.blt
  cst := g.cst
  fns := g.fns
  exs := ⟨fun _ _ _ => False, fun pins σ H s e s' _ h => (g.exn _ _ _ _ _ h).elim, fun c _ z => z.elim⟩
  exn := g.exn
theorem st_tryn {body : List IS} {b : List Stmt} {h₀ : ExceptHandler} {hs : List ExceptHandler} {pos : Pos} (hb : PSs X.nox b (RS X.K nox (evSs cl body))) : PS X (.Try b (h₀ :: hs) [] [] pos) (RS X.K ex (evS cl (.tryn body))) := by
  intro pins s σ H Dn I ⟨B, F, τ, f, m, q⟩
  refine wpAny_Try_except ?_
  have q : PO' ex (bnd (noX (evSs cl body τ)) fun | .nx τ' => .ok (.nx τ') | _ => stk) (Fk X.K B Dn) := q
  cases z : evSs cl body τ with
  | error er => rw [z] at q; exact q.no.elim
  | ok rr =>
    rw [z] at q
    cases rr with
    | nx τ' =>
      have q : Fk X.K B Dn (.nx τ') := PO'.ok q
      refine wpAny_mono (hb pins s σ H Dn (I.wish _) ⟨B, F, τ, f, m, by rw [z]; exact q⟩) (fun fw s' hs => ?_) fun _ _ z => False.elim z
      have hs := SP.unwish hs
      cases fw with
      | next => exact wpAny_execs_nil hs
      | _ => exact hs
    | _ => exact q.no.elim
mutual
theorem snS : ∀ (a : IS) (X : Cx) (ex : Str → Prop) (G : Gm) (s : Stmt), GOk Z CX cl xp X ex G → chkS Z G a s = true → PS X s (RS X.K ex (evS cl a))
  | .asg tg e, X, ex, G, s, g, h => by
    cases s with
    | Assign ts v pos =>
      match ts, h with
      | [t], h =>
        have h' : (chkT G tg t && chk Z G e v && (isName t || (isTup t && notTuple v))) = true := h
        simp only [Bool.and_eq_true] at h'
        exact st_asg g h'.1.1 h'.1.2 h'.2
      | [], h => first | exact no_h h | cases h
      | _ :: _ :: _, h => first | exact no_h h | cases h
    | _ => first | exact no_h h | cases h
  | .app i e, X, ex, G, s, g, h => by
    cases s with
    | Expr v pos =>
      cases v with
      | Call fn args kws cpos =>
        cases fn with
        | Attribute o name apos =>
          cases o with
          | Name x p =>
            match args, kws, h with
            | [v], [], h =>
              have h' : (chkV G i x && name == "append" && apos.endLine == cpos.line && notStar v && chk Z G e v) = true := h
              simp only [Bool.and_eq_true] at h'
              have e1 : name = "append" := eq_of_beq h'.1.1.1.2
              subst e1
              exact st_app g h'.1.1.1.1 h'.1.1.2 h'.1.2 h'.2
            | [], _, h => first | exact no_h h | cases h
            | [_], _ :: _, h => first | exact no_h h | cases h
            | _ :: _ :: _, _, h => first | exact no_h h | cases h
          | _ => first | exact no_h h | cases h
        | _ => first | exact no_h h | cases h
      | _ => first | exact no_h h | cases h
    | _ => first | exact no_h h | cases h
  | .exp e, X, ex, G, s, g, h => by
    cases s with
    | Expr v pos =>
      have h' : (notComp v && chk Z G e v) = true := by cases v <;> first | exact h | (rename_i c _ _; cases c <;> exact h)
      simp only [Bool.and_eq_true] at h'
      exact st_exp g h'.1 h'.2
    | _ => first | exact no_h h | cases h
  | .ret e, X, ex, G, s, g, h => by
    cases s with
    | Return v pos =>
      cases v with
      | none => first | exact no_h h | cases h
      | some v => exact st_ret g h
    | _ => first | exact no_h h | cases h
  | .retN, X, ex, G, s, g, h => by
    cases s with
    | Return v pos =>
      cases v with
      | none => exact st_retN
      | some v => first | exact no_h h | cases h
    | _ => first | exact no_h h | cases h
  | .if_ t a b, X, ex, G, s, g, h => by
    cases s with
    | If c x y pos =>
      have h' : (chk Z G t c && chkSs Z G a x && chkSs Z G b y) = true := h
      simp only [Bool.and_eq_true] at h'
      exact st_if (snd t X ex G c g h'.1.1).2 (snSs a X ex G x g h'.1.2) (snSs b X ex G y g h'.2)
    | _ => first | exact no_h h | cases h
  | .for_ tg s body, X, ex, G, st, g, h => by
    cases st with
    | For t it b els pos =>
      cases els with
      | cons _ _ => first | exact no_h h | cases h
      | nil =>
        have h' : (chkT G tg t && chkSr Z G s it && chkSs Z G body b) = true := h
        simp only [Bool.and_eq_true] at h'
        exact st_for g h'.1.1 h'.1.2 (snSs body X ex G b g h'.2)
    | _ => first | exact no_h h | cases h
  | .tryn body, X, ex, G, s, g, h => by
    have h : trv s (fun b => chkSs Z G body b) = true := by cases s <;> exact h
    obtain ⟨b, h₀, hs, pos, rfl, h⟩ := trv_ok h
    exact st_tryn (snSs body X.nox nox G b (gok_nox g) h)
  | .brk, X, ex, G, s, g, h => by
    cases s with
    | Break pos => exact psMono ps_break fun Dn σ H ⟨B, F, τ, f, m, q⟩ => q.ok _ _ _ _ m
    | _ => first | exact no_h h | cases h
  | .cnt, X, ex, G, s, g, h => by
    cases s with
    | Continue pos => exact psMono ps_continue fun Dn σ H ⟨B, F, τ, f, m, q⟩ => q.ok _ _ _ _ m
    | _ => first | exact no_h h | cases h
  | .pass, X, ex, G, s, g, h => by
    cases s with
    | Pass pos => exact psMono ps_pass fun Dn σ H ⟨B, F, τ, f, m, q⟩ => q.ok _ _ _ _ m
    | Expr v pos =>
      cases v with
      | Constant c j p =>
        cases c with
        | str z => exact psMono ps_doc fun Dn σ H ⟨B, F, τ, f, m, q⟩ => q.ok _ _ _ _ m
        | _ => first | exact no_h h | cases h
      | _ => first | exact no_h h | cases h
    | _ => first | exact no_h h | cases h
  | .never, X, ex, G, s, g, h => psMono ps_never fun Dn σ H ⟨B, F, τ, f, m, q⟩ => q.no.elim
theorem snSs : ∀ (as : List IS) (X : Cx) (ex : Str → Prop) (G : Gm) (ss : List Stmt), GOk Z CX cl xp X ex G → chkSs Z G as ss = true → PSs X ss (RS X.K ex (evSs cl as))
  | [], X, ex, G, ss, g, h => by
    cases ss with
    | nil => exact pssMono pss_nil fun Dn σ H ⟨B, F, τ, f, m, q⟩ => q.ok _ _ _ _ m
    | cons _ _ => first | exact no_h h | cases h
  | a :: as, X, ex, G, ss, g, h => by
    cases ss with
    | nil => first | exact no_h h | cases h
    | cons s ss =>
      have h' : (chkS Z G a s && chkSs Z G as ss) = true := h
      simp only [Bool.and_eq_true] at h'
      refine pssMono (pss_cons (snS a X ex G s g h'.1) (snSs as X ex G ss g h'.2)) fun Dn σ H ⟨B, F, τ, f, m, q⟩ => ?_
      refine ⟨B, F, τ, f, m, (PO'.bnd q).mono fun r hr => ?_⟩
      cases r with
      | nx τ' => exact fun σ' H' F' f' m' => ⟨B, F', τ', f', m', hr⟩
      | ct τ' => exact hr.ok
      | bk τ' => exact hr.ok
      | rt d => exact hr.ok
end
end
end L2
namespace L2
open PySem PySem.Spec PyProof.Rows PySem.SeqAt
noncomputable def chkDef (Z : Sg) (fn : Fn) (ps : List Str) (st : Stmt) : Bool :=
  (defScope st).kind == .function && !(defScope st).isCoroutine && !(defScope st).isGenerator && decide (fn.G.N.Nodup) && fn.G.N.take ps.length == ps
  && ps.all (fun x => (defScope st).names.lookup x == some .local || (defScope st).names.lookup x == some .cell) && (defScope st).names.all (fun y => y.2 != .free)
  && (List.range fn.G.N.length).all (fun i => (fn.G.N[i]?).bind ((defScope st).names.lookup ·) == fn.G.kd[i]?)
  && fn.G.N.all (fun x => !(x == "__debug__") && !(x == "__classdict__"))
  && fn.G.gl.all (fun n => match Z.name n with | some x => (defScope st).names.lookup x == some .globalImplicit | none => false)
  && decide (ps.length = fn.np) && chkSs Z fn.G fn.body (defBody st)
structure DefSc (Z : Sg) (fn : Fn) (ps : List Str) (st : Stmt) : Prop where
  sc : FnScope fn.G.N ps (defScope st)
  kd : ∀ (i : Nat) (x : Str), fn.G.N[i]? = some x → (defScope st).names.lookup x = fn.G.kd[i]?
  noD : ∀ x ∈ fn.G.N, (x == ("__debug__" : Str)) = false ∧ (x == ("__classdict__" : Str)) = false
  gl : ∀ n ∈ fn.G.gl, ∀ x, Z.name n = some x → (defScope st).names.lookup x = some .globalImplicit
  np : ps.length = fn.np
  body : chkSs Z fn.G fn.body (defBody st) = true
theorem defSc_of {Z : Sg} {fn : Fn} {ps : List Str} {st : Stmt} (h : chkDef Z fn ps st = true) : DefSc Z fn ps st := by
  unfold chkDef at h
  simp only [Bool.and_eq_true] at h
  obtain ⟨⟨⟨⟨⟨⟨⟨⟨⟨⟨⟨h1, h2⟩, h3⟩, h4⟩, h5⟩, h6⟩, h7⟩, h8⟩, h9⟩, h10⟩, h11⟩, h12⟩ := h
  rw [List.all_eq_true] at h6 h7 h8 h9 h10
  refine ⟨⟨eq_of_beq h1, by simpa using h2, by simpa using h3, of_decide_eq_true h4, eq_of_beq h5, fun x hx => ?_, fun y hy => by simpa using h7 y hy⟩, fun i x hx => ?_, fun x hx => by simpa using h9 x hx, fun n hn x hx => ?_, of_decide_eq_true h11, h12⟩
  · have := h6 x hx
    rw [Bool.or_eq_true] at this
    exact this.elim (fun z => .inl (eq_of_beq z)) fun z => .inr (eq_of_beq z)
  · have hlt : i < fn.G.N.length := (List.getElem?_eq_some_iff.mp hx).1
    have := eq_of_beq (h8 i (List.mem_range.mpr hlt))
    rw [hx] at this
    exact this
  · have := h10 n hn
    rw [hx] at this
    exact eq_of_beq this
structure DefOk (K : PySem.W.Frag) (mg : Str → Option Value) (Z : Sg) (T : Tb) (f : Nat) (x : Str) : Prop where
  ex : ∃ (fn : Fn) (st : Stmt) (fa : Addr) (fd : FuncData) (ps : List Str), T f = some fn ∧ Fun K x x st fa fd ∧ mg x = some (.ref fa) ∧ Binds K fd ps [] ∧ DefSc Z fn ps st
noncomputable abbrev xp0 : XK → Hp → Str → Prop := fun _ _ _ => False
section
variable {P : Program} {w : World} {K : PySem.W.Frag} {mg : Str → Option Value} {base : Heap} {Z : Sg} {T : Tb}
structure TopOk (K : PySem.W.Frag) (mg : Str → Option Value) (Z : Sg) (T : Tb) : Prop where
  nam : ∀ n x, Z.name n = some x → x ≠ "__name__" ∧ (x == ("__debug__" : Str)) = false
  blt : ∀ (n : Nat) (x : Str), bnames[n]? = some x → mg x = none
  cst : ∀ n d x, (n, d) ∈ Z.kst → Z.name n = some x → ∃ u v, mg x = some u ∧ RelV v u ∧ ∀ S H, HRep K S H v d
  fns : ∀ f ∈ Z.fns, ∀ x, Z.name f = some x → DefOk K mg Z T f x
theorem start_rps {F : Addr → Prop} {H : Hp} : ∀ {vs : List V} {ds : List D} (n : Nat), HReps K F H vs ds → Rps K F H (vs.map some ++ List.replicate n none) ((ers ds).map some ++ List.replicate n none) []
  | [], [], n, .nil => by
    induction n with
    | zero => exact .nil
    | succ n ih => exact .none ih
  | v :: vs, d :: ds, n, .cons h1 h2 => .some (f := []) h1.frozen (start_rps n h2)
theorem fnc_all (t : TopOk K mg Z T) : ∀ (n : Nat) (A : Around), Room n A → ∀ f ∈ Z.fns, ∀ x, Z.name f = some x → FnC P w K mg base CX0 A (callF T n) xp0 f x
  | 0, A, hr, f, hf, x, hx => by
    obtain ⟨fn, st, fa, fd, ps, h1, h2, h3, h4, h5⟩ := (t.fns f hf x hx).ex
    have no : ∀ vs H Q E, ¬ spF K (callF T 0) xp0 f ps vs H Q E := fun vs H Q E ⟨_, F, ds, _, _, h⟩ => h
    exact ⟨0, fa, fd, ps, h3, h2.kp, h4, ⟨fun vs H Q E h => h.1, fun A outer s H args us vs Q E _ _ _ _ h => (no _ _ _ _ h).elim⟩, hr, fun ex ds k h => h.elim⟩
  | n + 1, A, hr, f, hf, x, hx => by
    obtain ⟨fn, st, fa, fd, ps, h1, h2, h3, h4, h5⟩ := (t.fns f hf x hx).ex
    have hcall : ∀ ds, callF T (n + 1) f ds = runF (callF T n) fn ds := fun ds => by
      show (match T f with | some fn => runF (callF T n) fn ds | none => stk) = _
      rw [h1]
    refine ⟨n + 1, fa, fd, ps, h3, h2.kp, h4, ?_, hr, fun ex ds k h => ?_⟩
    · refine h2.ok h5.sc (fun vs H Q E h => h.1) fun cdv A outer s H vs Q E hr hsp => ?_
      refine ⟨_, snSs (Z := Z) (CX := CX0) (cl := callF T n) (xp := xp0) fn.body _ nox fn.G (defBody st) ?_ h5.body, ?_⟩
      · refine ⟨rfl, h5.sc.nd, rfl, h5.sc.kind, ?_, PassesOwn.never, fun i y hy => h5.kd i y hy, fun i y hy => h5.noD y (List.mem_of_getElem? hy), fun m hm y hy => h5.gl m hm y hy, t.nam, fun _ _ => rfl, t.blt, t.cst, ?_, ?_, ?_⟩
        · have := hr.un
          show (A.deeper _).units + 42 < cLine
          omega
        · exact fun f' hf' x' hx' => fnc_all t n _ hr f' hf' x' hx'
        · exact ⟨E0, pass0, fun c H z => z.elim⟩
        · exact fun H outer s e s' h => h
      · obtain ⟨hl, F, ds, fok, m, q⟩ := hsp
        rw [hcall] at q
        obtain ⟨gd, q⟩ := PO'.grd q
        have gd' : (ers ds).length = fn.np := of_decide_eq_true gd
        have hn : fn.G.N.length - vs.length = fn.G.N.length - fn.np := by rw [m.length, ← ers_length ds, gd']
        refine ⟨⟨F, H, fun _ _ => False, fun _ _ => False⟩, F, (ers ds).map some ++ List.replicate (fn.G.N.length - fn.np) none, [], ⟨fok, ?_, List.nodup_nil, .refl _, fun a ha => absurd ha (by simp), fun a h => h, fun a h => .inl h, fun a xs h => h.elim, fun a xs h => h.elim⟩, (PO'.bnd q).mono fun r hr => ?_⟩
        · show Rps K F H (start fn.G.N vs) _ []
          unfold start
          rw [hn]
          exact start_rps _ m
        · cases r with
          | nx τ' => exact fun σ' H' F' f' m' => hr.ok .non H' F' [] ⟨m'.fok, m'.same, .non, List.nodup_nil, fun a ha => absurd ha (by simp), m'.inn, m'.out⟩
          | rt d => exact fun v H' F' fv o => hr.ok v H' F' fv o
          | bk τ' => exact hr.no.elim
          | ct τ' => exact hr.no.elim
    · rw [hcall] at h
      obtain ⟨gd, _⟩ := PO'.grd h
      rw [of_decide_eq_true gd, h5.np]
end
end L2
namespace L2
open PySem PySem.Spec PyProof.Rows PySem.SeqAt
section
variable {P : Program} {w : World} {K : PySem.W.Frag} {mg : Str → Option Value} {base : Heap} {Z : Sg} {T : Tb}
theorem def_fn (t : TopOk K mg Z T) (n : Nat) {f : Nat} {fn : Fn} {x : Str} {st : Stmt} {fa : Addr} {fd : FuncData} {ps : List Str} (h1 : T f = some fn) (h2 : Fun K x x st fa fd) (h5 : DefSc Z fn ps st) : FnOk P w K mg base CX0 (n + 1) fa fd ps (spF K (callF T (n + 1)) xp0 f ps) := by
  have hcall : ∀ ds, callF T (n + 1) f ds = runF (callF T n) fn ds := fun ds => by
    show (match T f with | some fn => runF (callF T n) fn ds | none => stk) = _
    rw [h1]
  refine h2.ok h5.sc (fun vs H Q E h => h.1) fun cdv A outer s H vs Q E hr hsp => ?_
  refine ⟨_, snSs (Z := Z) (CX := CX0) (cl := callF T n) (xp := xp0) fn.body _ nox fn.G (defBody st) ?_ h5.body, ?_⟩
  · refine ⟨rfl, h5.sc.nd, rfl, h5.sc.kind, ?_, PassesOwn.never, fun i y hy => h5.kd i y hy, fun i y hy => h5.noD y (List.mem_of_getElem? hy), fun m hm y hy => h5.gl m hm y hy, t.nam, fun _ _ => rfl, t.blt, t.cst, ?_, ?_, ?_⟩
    · have := hr.un
      show (A.deeper _).units + 42 < cLine
      omega
    · exact fun f' hf' x' hx' => fnc_all t n _ hr f' hf' x' hx'
    · exact ⟨E0, pass0, fun c H z => z.elim⟩
    · exact fun H outer s e s' h => h
  · obtain ⟨hl, F, ds, fok, m, q⟩ := hsp
    rw [hcall] at q
    obtain ⟨gd, q⟩ := PO'.grd q
    have gd' : (ers ds).length = fn.np := of_decide_eq_true gd
    have hn : fn.G.N.length - vs.length = fn.G.N.length - fn.np := by rw [m.length, ← ers_length ds, gd']
    refine ⟨⟨F, H, fun _ _ => False, fun _ _ => False⟩, F, (ers ds).map some ++ List.replicate (fn.G.N.length - fn.np) none, [], ⟨fok, ?_, List.nodup_nil, .refl _, fun a ha => absurd ha (by simp), fun a h => h, fun a h => .inl h, fun a xs h => h.elim, fun a xs h => h.elim⟩, (PO'.bnd q).mono fun r hr => ?_⟩
    · show Rps K F H (start fn.G.N vs) _ []
      unfold start
      rw [hn]
      exact start_rps _ m
    · cases r with
      | nx τ' => exact fun σ' H' F' f' m' => hr.ok .non H' F' [] ⟨m'.fok, m'.same, .non, List.nodup_nil, fun a ha => absurd ha (by simp), m'.inn, m'.out⟩
      | rt d => exact fun v H' F' fv o => hr.ok v H' F' fv o
      | bk τ' => exact hr.no.elim
      | ct τ' => exact hr.no.elim
theorem law_sp {f n : Nat} {x : Str} {a : Addr} {H : Hp} {ns : List Int} (hS : Ls K H a (ns.map V.int)) (hl : callF T n f [.lst false (ns.map .int)] = .ok (.bl true)) :
    spF K (callF T n) xp0 f [x] [.ref a] H (fun v _ => v = .bl true) fun _ _ _ => False := by
  have m : HReps K (fun a => H a ≠ none) H [.ref a] [.lst false (ns.map .int)] := by
    refine .cons ?_ .nil
    rcases hS with hS | hS
    · exact .lst hS.some hS (HReps.ofInts ns)
    · exact .lstK hS (HReps.ofInts ns)
  refine ⟨rfl, fun a => H a ≠ none, [.lst false (ns.map .int)], fun a h => h, m, ?_⟩
  have he : ers [.lst false (ns.map .int)] = [D.lst false (ns.map .int)] := by
    rw [ers, ers, er, ers_map, List.map_map]
    rfl
  rw [he, hl]
  intro v H' F' fv o
  cases o.rep
  rfl
theorem law_walk {l : PySem.W.OpenLaw} {q : Program} {loose : List Str} {XP : (Str → Option Value) → Heap → Prop} {YP : World → Heap → Prop} {d : DefRec} {K : Params → PySem.W.Frag} {T : Tb} {n f : Nat} {x : Str} (hn : l.most = some 63) (hdf : d.params.defaults = []) (hr : Room (n + 1) callerA)
    (hY : ∀ (w : World) (h : Heap), YP w h → (K w.params).In h)
    (F : ∀ (w : World) (mg : Str → Option Value) (fa : Addr) (h : Heap), (K w.params).In h → h.Ns mainGlobals mg → mg d.name = some (.ref fa) →
      ∃ fd : FuncData, (∀ (s : Shared) (u : Value), BindsTo s fd ⟨[u], []⟩ [(x, u)]) ∧ ∀ base : Heap, (K w.params).In base → base.Ns mainGlobals mg → FnOk l.prog w (K w.params) mg base CX0 (n + 1) fa fd [x] (spF (K w.params) (callF T (n + 1)) xp0 f [x]))
    (hl : ∀ ns : List Int, ns.length ≤ 63 → callF T (n + 1) f [.lst false (ns.map .int)] = .ok (.bl true)) :
    PySem.W.WalkO q loose XP YP l.row.toRowW d [] (fun f vs => PySem.call f vs) :=
  L2.walk_of (n := 63) (k := n + 1) (x := x) (CX := fun _ => CX0) (sp := fun w => spF (K w.params) (callF T (n + 1)) xp0 f [x]) hn (by decide) hdf hr hY F (fun w H a ns h1 _ hS => law_sp hS (hl ns h1)) fun _ _ _ _ _ z => z
end
end L2
namespace L2
open PySem PySem.Spec PyProof.Rows PySem.SeqAt
namespace Ev
section
variable {α β : Type} {cl : Nat → List D → Res D} {τ : Ev} {mv : Bool}
theorem bnd_k {a : α} {f : α → Res β} : bnd (.ok a) f = f a := rfl
theorem grd_t {x : Res α} : grd true x = x := rfl
theorem if_t {a b : α} : (if true = true then a else b) = a := rfl
theorem if_f {a b : α} : (if false = true then a else b) = b := rfl
theorem r_c {d : D} : evR cl (.c d) τ = .ok d := rfl
theorem r_g {n : Nat} {d : D} : evR cl (.g n d) τ = .ok d := rfl
theorem r_v {i : Nat} : evR cl (.v i) τ = (match slotD τ i with | some d => .ok d | none => stk) := rfl
noncomputable def binK (cl : Nat → List D → Res D) (op : BOp) (b : IR) (τ : Ev) (x : D) : Res D := bnd (evR cl b τ) (opB op x)
theorem binK_k {op : BOp} {b : IR} {x : D} : binK cl op b τ x = bnd (evR cl b τ) (opB op x) := rfl
theorem r_bin {op : BOp} {a b : IR} : evR cl (.bin op a b) τ = bnd (evR cl a τ) (binK cl op b τ) := rfl
noncomputable def negD : D → Res D
  | .int i => .ok (.int (-i))
  | _ => stk
theorem r_neg {a : IR} : evR cl (.neg a) τ = bnd (evR cl a τ) negD := rfl
theorem negD_i {i : Int} : negD (.int i) = .ok (.int (-i)) := rfl
noncomputable def blK (r : Bool) : Res D := .ok (.bl r)
theorem blK_k {r : Bool} : blK r = .ok (.bl r) := rfl
noncomputable def cmpK2 (op : COp) (x y : D) : Res D := bnd (opC op x y) blK
theorem cmpK2_k {op : COp} {x y : D} : cmpK2 op x y = bnd (opC op x y) blK := rfl
noncomputable def cmpK (cl : Nat → List D → Res D) (op : COp) (b : IR) (τ : Ev) (x : D) : Res D := bnd (evR cl b τ) (cmpK2 op x)
theorem cmpK_k {op : COp} {b : IR} {x : D} : cmpK cl op b τ x = bnd (evR cl b τ) (cmpK2 op x) := rfl
theorem r_cmp {op : COp} {a b : IR} : evR cl (.cmp op a b) τ = bnd (evR cl a τ) (cmpK cl op b τ) := rfl
noncomputable def chK3 (cl : Nat → List D → Res D) (op' : COp) (c : IR) (τ : Ev) (y : D) (r : Bool) : Res D := if r = true then bnd (evR cl c τ) (cmpK2 op' y) else .ok (.bl false)
theorem chK3_k {op' : COp} {c : IR} {y : D} {r : Bool} : chK3 cl op' c τ y r = if r = true then bnd (evR cl c τ) (cmpK2 op' y) else .ok (.bl false) := rfl
noncomputable def chK2 (cl : Nat → List D → Res D) (op op' : COp) (c : IR) (τ : Ev) (x y : D) : Res D := bnd (opC op x y) (chK3 cl op' c τ y)
theorem chK2_k {op op' : COp} {c : IR} {x y : D} : chK2 cl op op' c τ x y = bnd (opC op x y) (chK3 cl op' c τ y) := rfl
noncomputable def chK (cl : Nat → List D → Res D) (op op' : COp) (b c : IR) (τ : Ev) (x : D) : Res D := bnd (evR cl b τ) (chK2 cl op op' c τ x)
theorem chK_k {op op' : COp} {b c : IR} {x : D} : chK cl op op' b c τ x = bnd (evR cl b τ) (chK2 cl op op' c τ x) := rfl
theorem r_chain {op op' : COp} {a b c : IR} : evR cl (.chain op op' a b c) τ = bnd (evR cl a τ) (chK cl op op' b c τ) := rfl
noncomputable def andK2 (cl : Nat → List D → Res D) (b : IR) (τ : Ev) (x : D) (r : Bool) : Res D := if r = true then evR cl b τ else .ok x
theorem andK2_k {b : IR} {x : D} {r : Bool} : andK2 cl b τ x r = if r = true then evR cl b τ else .ok x := rfl
noncomputable def andK (cl : Nat → List D → Res D) (b : IR) (τ : Ev) (x : D) : Res D := bnd (truD x) (andK2 cl b τ x)
theorem andK_k {b : IR} {x : D} : andK cl b τ x = bnd (truD x) (andK2 cl b τ x) := rfl
theorem r_and {a b : IR} : evR cl (.and_ a b) τ = bnd (evR cl a τ) (andK cl b τ) := rfl
noncomputable def orK2 (cl : Nat → List D → Res D) (b : IR) (τ : Ev) (x : D) (r : Bool) : Res D := if r = true then .ok x else evR cl b τ
theorem orK2_k {b : IR} {x : D} {r : Bool} : orK2 cl b τ x r = if r = true then .ok x else evR cl b τ := rfl
noncomputable def orK (cl : Nat → List D → Res D) (b : IR) (τ : Ev) (x : D) : Res D := bnd (truD x) (orK2 cl b τ x)
theorem orK_k {b : IR} {x : D} : orK cl b τ x = bnd (truD x) (orK2 cl b τ x) := rfl
theorem r_or {a b : IR} : evR cl (.or_ a b) τ = bnd (evR cl a τ) (orK cl b τ) := rfl
noncomputable def notK2 (r : Bool) : Res D := .ok (.bl !r)
theorem notK2_k {r : Bool} : notK2 r = .ok (.bl !r) := rfl
noncomputable def notK (x : D) : Res D := bnd (truD x) notK2
theorem notK_k {x : D} : notK x = bnd (truD x) notK2 := rfl
theorem r_not {a : IR} : evR cl (.not_ a) τ = bnd (evR cl a τ) notK := rfl
noncomputable def iteK2 (cl : Nat → List D → Res D) (a b : IR) (τ : Ev) (r : Bool) : Res D := if r = true then evR cl a τ else evR cl b τ
theorem iteK2_k {a b : IR} {r : Bool} : iteK2 cl a b τ r = if r = true then evR cl a τ else evR cl b τ := rfl
noncomputable def iteK (cl : Nat → List D → Res D) (a b : IR) (τ : Ev) (x : D) : Res D := bnd (truD x) (iteK2 cl a b τ)
theorem iteK_k {a b : IR} {x : D} : iteK cl a b τ x = bnd (truD x) (iteK2 cl a b τ) := rfl
theorem r_ite {t a b : IR} : evR cl (.ite t a b) τ = bnd (evR cl t τ) (iteK cl a b τ) := rfl
noncomputable def tupK (ds : List D) : Res D := grd (szOk ds.length) (.ok (.tup ds))
theorem tupK_k {ds : List D} : tupK ds = grd (szOk ds.length) (.ok (.tup ds)) := rfl
theorem r_tup {es : List IR} : evR cl (.tup es) τ = bnd (evRs cl es τ) tupK := rfl
noncomputable def lstK (ds : List D) : Res D := grd (szOk ds.length) (.ok (.lst true ds))
theorem lstK_k {ds : List D} : lstK ds = grd (szOk ds.length) (.ok (.lst true ds)) := rfl
theorem r_lst {es : List IR} : evR cl (.lst es) τ = bnd (evRs cl es τ) lstK := rfl
noncomputable def idxK (cl : Nat → List D → Res D) (i : IR) (τ : Ev) (x : D) : Res D := bnd (evR cl i τ) (opIx x)
theorem idxK_k {i : IR} {x : D} : idxK cl i τ x = bnd (evR cl i τ) (opIx x) := rfl
theorem r_idx {a i : IR} : evR cl (.idx a i) τ = bnd (evR cl a τ) (idxK cl i τ) := rfl
noncomputable def slK2 (cl : Nat → List D → Res D) (hi : Option IR) (τ : Ev) (x : D) (l : Option Int) : Res D := bnd (evRO cl hi τ) (opSl x l)
theorem slK2_k {hi : Option IR} {x : D} {l : Option Int} : slK2 cl hi τ x l = bnd (evRO cl hi τ) (opSl x l) := rfl
noncomputable def slK (cl : Nat → List D → Res D) (lo hi : Option IR) (τ : Ev) (x : D) : Res D := bnd (evRO cl lo τ) (slK2 cl hi τ x)
theorem slK_k {lo hi : Option IR} {x : D} : slK cl lo hi τ x = bnd (evRO cl lo τ) (slK2 cl hi τ x) := rfl
theorem r_sl {a : IR} {lo hi : Option IR} : evR cl (.sl a lo hi) τ = bnd (evR cl a τ) (slK cl lo hi τ) := rfl
noncomputable def callK (cl : Nat → List D → Res D) (f : Nat) (ds : List D) : Res D := cl f (ers ds)
theorem callK_k {f : Nat} {ds : List D} : callK cl f ds = cl f (ers ds) := rfl
theorem r_call {f : Nat} {es : List IR} : evR cl (.call f es) τ = bnd (evRs cl es τ) (callK cl f) := rfl
theorem r_bi {f : Bi} {es : List IR} : evR cl (.bi f es) τ = bnd (evRs cl es τ) (opBi f) := rfl
noncomputable def isiK (k : Kd) (x : D) : Res D := .ok (.bl (isiD k x))
theorem isiK_k {k : Kd} {x : D} : isiK k x = .ok (.bl (isiD k x)) := rfl
theorem r_ftx {x : Str} {a : IR} : evR cl (.ftx x a) τ = bnd (evR cl a τ) (ftxD x) := rfl
theorem ftx_s {x y : Str} : ftxD x (.str y) = grd (szOk (x.length + y.length)) (.ok (.str (x ++ y))) := rfl
theorem r_isi {a : IR} {k : Kd} : evR cl (.isi a k) τ = bnd (evR cl a τ) (isiK k) := rfl
noncomputable def mthK (cl : Nat → List D → Res D) (m : Mt) (es : List IR) (τ : Ev) (x : D) : Res D := grd (isStrD x) (bnd (evRs cl es τ) (opMt m x))
theorem mthK_k {m : Mt} {es : List IR} {x : D} : mthK cl m es τ x = grd (isStrD x) (bnd (evRs cl es τ) (opMt m x)) := rfl
theorem r_mth {m : Mt} {o : IR} {es : List IR} : evR cl (.mth m o es) τ = bnd (evR cl o τ) (mthK cl m es τ) := rfl
noncomputable def lstT (ds : List D) : Res D := .ok (.lst true ds)
theorem lstT_k {ds : List D} : lstT ds = .ok (.lst true ds) := rfl
noncomputable def compK (cl : Nat → List D → Res D) (G : Gm) (fr : List Nat) (T : Tg) (I : List IR) (E : IR) (τ : Ev) (its : List D) : Res D := grd (szLt its.length) (bnd (noX (fmapM (bodyM cl T I E (blk G fr τ)) its)) lstT)
theorem compK_k {G : Gm} {fr : List Nat} {T : Tg} {I : List IR} {E : IR} {its : List D} : compK cl G fr T I E τ its = grd (szLt its.length) (bnd (noX (fmapM (bodyM cl T I E (blk G fr τ)) its)) lstT) := rfl
theorem r_comp {G : Gm} {fr : List Nat} {T : Tg} {s : Sr} {I : List IR} {E : IR} : evR cl (.comp G fr T s I E) τ = bnd (evSr cl s τ) (compK cl G fr T I E τ) := rfl
theorem rs_n : evRs cl [] τ = .ok [] := rfl
noncomputable def consK (d : D) (ds : List D) : Res (List D) := .ok (d :: ds)
theorem consK_k {d : D} {ds : List D} : consK d ds = .ok (d :: ds) := rfl
noncomputable def rsK (cl : Nat → List D → Res D) (es : List IR) (τ : Ev) (d : D) : Res (List D) := bnd (evRs cl es τ) (consK d)
theorem rsK_k {es : List IR} {d : D} : rsK cl es τ d = bnd (evRs cl es τ) (consK d) := rfl
theorem rs_c {e : IR} {es : List IR} : evRs cl (e :: es) τ = bnd (evR cl e τ) (rsK cl es τ) := rfl
noncomputable def intO : D → Res (Option Int)
  | .int i => .ok (some i)
  | _ => stk
theorem intO_i {i : Int} : intO (.int i) = .ok (some i) := rfl
theorem ro_n : evRO cl none τ = .ok none := rfl
theorem ro_s {e : IR} : evRO cl (some e) τ = bnd (evR cl e τ) intO := rfl
theorem ts_n : evTs cl [] τ = .ok true := rfl
noncomputable def tsK (cl : Nat → List D → Res D) (es : List IR) (τ : Ev) (r : Bool) : Res Bool := if r = true then evTs cl es τ else .ok false
theorem tsK_k {es : List IR} {r : Bool} : tsK cl es τ r = if r = true then evTs cl es τ else .ok false := rfl
theorem ts_c {e : IR} {es : List IR} : evTs cl (e :: es) τ = bnd (bnd (evR cl e τ) truD) (tsK cl es τ) := rfl
noncomputable def rng1D : D → Res (List D)
  | .int i => grd (rngOk i) (.ok (rngD 0 i))
  | _ => stk
noncomputable def rng2D : D → D → Res (List D)
  | .int i, .int j => grd (rngOk i && rngOk j) (.ok (rngD i j))
  | _, _ => stk
theorem rng1D_i {i : Int} : rng1D (.int i) = grd (rngOk i) (.ok (rngD 0 i)) := rfl
theorem rng2D_i {i j : Int} : rng2D (.int i) (.int j) = grd (rngOk i && rngOk j) (.ok (rngD i j)) := rfl
theorem s_r1 {n : IR} : evSr cl (.rng1 n) τ = bnd (evR cl n τ) rng1D := rfl
noncomputable def r2K (cl : Nat → List D → Res D) (b : IR) (τ : Ev) (x : D) : Res (List D) := bnd (evR cl b τ) (rng2D x)
theorem r2K_k {b : IR} {x : D} : r2K cl b τ x = bnd (evR cl b τ) (rng2D x) := rfl
theorem s_r2 {a b : IR} : evSr cl (.rng2 a b) τ = bnd (evR cl a τ) (r2K cl b τ) := rfl
theorem s_val {e : IR} : evSr cl (.val e) τ = bnd (evR cl e τ) itemsD := rfl
theorem it_l {o : Bool} {ds : List D} : itemsD (.lst o ds) = .ok ds := rfl
theorem it_t {ds : List D} : itemsD (.tup ds) = .ok ds := rfl
theorem it_s {x : Str} : itemsD (.str x) = grd (szOk x.length) (.ok (charsD x)) := rfl
theorem t_t {t : IR} : evT cl t τ = bnd (evR cl t τ) truD := rfl
theorem o_v {i : Nat} : evO cl mv (.v i) τ = (match slotD τ i with | some d => if mv = true then .ok (d, τ.set i none) else .ok (er d, τ.set i (some (er d))) | none => stk) := rfl
noncomputable def otupK (p : List D × Ev) : Res (D × Ev) := grd (szOk p.1.length) (.ok (.tup p.1, p.2))
theorem otupK_k {p : List D × Ev} : otupK p = grd (szOk p.1.length) (.ok (.tup p.1, p.2)) := rfl
theorem o_tup {es : List IR} : evO cl mv (.tup es) τ = bnd (evOs cl mv es τ) otupK := rfl
noncomputable def olstK (p : List D × Ev) : Res (D × Ev) := grd (szOk p.1.length) (.ok (.lst true p.1, p.2))
theorem olstK_k {p : List D × Ev} : olstK p = grd (szOk p.1.length) (.ok (.lst true p.1, p.2)) := rfl
theorem o_lst {es : List IR} : evO cl mv (.lst es) τ = bnd (evOs cl mv es τ) olstK := rfl
noncomputable def oiteK (cl : Nat → List D → Res D) (mv : Bool) (a b : IR) (τ : Ev) (r : Bool) : Res (D × Ev) := if r = true then evO cl mv a τ else evO cl mv b τ
theorem oiteK_k {a b : IR} {r : Bool} : oiteK cl mv a b τ r = if r = true then evO cl mv a τ else evO cl mv b τ := rfl
theorem o_ite {t a b : IR} : evO cl mv (.ite t a b) τ = bnd (evT cl t τ) (oiteK cl mv a b τ) := rfl
noncomputable def ocallK2 (es : List IR) (τ : Ev) (d : D) : Res (D × Ev) := if lfree d = true then .ok (d, τ) else .ok (d, frz (varss es) τ)
theorem ocallK2_k {es : List IR} {d : D} : ocallK2 es τ d = if lfree d = true then .ok (d, τ) else .ok (d, frz (varss es) τ) := rfl
noncomputable def ocallK (cl : Nat → List D → Res D) (f : Nat) (es : List IR) (τ : Ev) (ds : List D) : Res (D × Ev) := bnd (cl f (ers ds)) (ocallK2 es τ)
theorem ocallK_k {f : Nat} {es : List IR} {ds : List D} : ocallK cl f es τ ds = bnd (cl f (ers ds)) (ocallK2 es τ) := rfl
theorem o_call {f : Nat} {es : List IR} : evO cl mv (.call f es) τ = bnd (evRs cl es τ) (ocallK cl f es τ) := rfl
noncomputable def keepK (e : IR) (τ : Ev) (d : D) : Res (D × Ev) := .ok (keepD e d τ)
theorem keepK_k {e : IR} {d : D} : keepK e τ d = .ok (keepD e d τ) := rfl
theorem o_c {d : D} : evO cl mv (.c d) τ = bnd (evR cl (.c d) τ) (keepK (.c d) τ) := rfl
theorem o_g {n : Nat} {d : D} : evO cl mv (.g n d) τ = bnd (evR cl (.g n d) τ) (keepK (.g n d) τ) := rfl
theorem o_bin {op : BOp} {a b : IR} : evO cl mv (.bin op a b) τ = bnd (evR cl (.bin op a b) τ) (keepK (.bin op a b) τ) := rfl
theorem o_neg {a : IR} : evO cl mv (.neg a) τ = bnd (evR cl (.neg a) τ) (keepK (.neg a) τ) := rfl
theorem o_cmp {op : COp} {a b : IR} : evO cl mv (.cmp op a b) τ = bnd (evR cl (.cmp op a b) τ) (keepK (.cmp op a b) τ) := rfl
theorem o_chain {op op' : COp} {a b c : IR} : evO cl mv (.chain op op' a b c) τ = bnd (evR cl (.chain op op' a b c) τ) (keepK (.chain op op' a b c) τ) := rfl
theorem o_and {a b : IR} : evO cl mv (.and_ a b) τ = bnd (evR cl (.and_ a b) τ) (keepK (.and_ a b) τ) := rfl
theorem o_or {a b : IR} : evO cl mv (.or_ a b) τ = bnd (evR cl (.or_ a b) τ) (keepK (.or_ a b) τ) := rfl
theorem o_not {a : IR} : evO cl mv (.not_ a) τ = bnd (evR cl (.not_ a) τ) (keepK (.not_ a) τ) := rfl
theorem o_idx {a i : IR} : evO cl mv (.idx a i) τ = bnd (evR cl (.idx a i) τ) (keepK (.idx a i) τ) := rfl
theorem o_sl {a : IR} {lo hi : Option IR} : evO cl mv (.sl a lo hi) τ = bnd (evR cl (.sl a lo hi) τ) (keepK (.sl a lo hi) τ) := rfl
theorem o_bi {f : Bi} {es : List IR} : evO cl mv (.bi f es) τ = bnd (evR cl (.bi f es) τ) (keepK (.bi f es) τ) := rfl
theorem o_ftx {x : Str} {a : IR} : evO cl mv (.ftx x a) τ = bnd (evR cl (.ftx x a) τ) (keepK (.ftx x a) τ) := rfl
theorem o_isi {a : IR} {k : Kd} : evO cl mv (.isi a k) τ = bnd (evR cl (.isi a k) τ) (keepK (.isi a k) τ) := rfl
theorem o_mth {m : Mt} {o : IR} {es : List IR} : evO cl mv (.mth m o es) τ = bnd (evR cl (.mth m o es) τ) (keepK (.mth m o es) τ) := rfl
theorem o_comp {G : Gm} {fr : List Nat} {T : Tg} {s : Sr} {I : List IR} {E : IR} : evO cl mv (.comp G fr T s I E) τ = bnd (evR cl (.comp G fr T s I E) τ) (keepK (.comp G fr T s I E) τ) := rfl
theorem os_n : evOs cl mv [] τ = .ok ([], τ) := rfl
noncomputable def osK2 (d : D) (q : List D × Ev) : Res (List D × Ev) := .ok (d :: q.1, q.2)
theorem osK2_k {d : D} {q : List D × Ev} : osK2 d q = .ok (d :: q.1, q.2) := rfl
noncomputable def osK (cl : Nat → List D → Res D) (mv : Bool) (es : List IR) (p : D × Ev) : Res (List D × Ev) := bnd (evOs cl mv es p.2) (osK2 p.1)
theorem osK_k {es : List IR} {p : D × Ev} : osK cl mv es p = bnd (evOs cl mv es p.2) (osK2 p.1) := rfl
theorem os_c {e : IR} {es : List IR} : evOs cl mv (e :: es) τ = bnd (evO cl mv e τ) (osK cl mv es) := rfl
noncomputable def smK (d : D) : Res (Option D) := .ok (some d)
theorem smK_k {d : D} : smK d = .ok (some d) := rfl
noncomputable def bdK2 (cl : Nat → List D → Res D) (E : IR) (τ : Ev) (r : Bool) : Res (Option D) := if r = true then bnd (evR cl E τ) smK else .ok none
theorem bdK2_k {E : IR} {r : Bool} : bdK2 cl E τ r = if r = true then bnd (evR cl E τ) smK else .ok none := rfl
noncomputable def bdK (cl : Nat → List D → Res D) (I : List IR) (E : IR) (τ : Ev) : Res (Option D) := bnd (evTs cl I τ) (bdK2 cl E τ)
theorem bdK_k {I : List IR} {E : IR} : bdK cl I E τ = bnd (evTs cl I τ) (bdK2 cl E τ) := rfl
theorem body_eq {T : Tg} {I : List IR} {E : IR} {x : D} : bodyM cl T I E τ x = bnd (setT T x τ) (bdK cl I E) := rfl
theorem blk_eq {G : Gm} {fr : List Nat} : blk G fr τ = fr.map (slotD τ) ++ List.replicate (G.N.length - fr.length) none := rfl
theorem k_i {e : IR} {i : Int} : keepD e (.int i) τ = (.int i, τ) := rfl
theorem k_s {e : IR} {x : Str} : keepD e (.str x) τ = (.str x, τ) := rfl
theorem k_b {e : IR} {b : Bool} : keepD e (.bl b) τ = (.bl b, τ) := rfl
theorem k_n {e : IR} : keepD e .non τ = (.non, τ) := rfl
noncomputable def nxK (τ' : Ev) : Res Fl := .ok (.nx τ')
theorem nxK_k : nxK τ = .ok (.nx τ) := rfl
noncomputable def asgK (tg : Tg) (p : D × Ev) : Res Fl := bnd (setT tg p.1 p.2) nxK
theorem asgK_k {tg : Tg} {p : D × Ev} : asgK tg p = bnd (setT tg p.1 p.2) nxK := rfl
theorem st_asg {tg : Tg} {e : IR} : evS cl (.asg tg e) τ = bnd (evO cl false e τ) (asgK tg) := rfl
noncomputable def appD (i : Nat) (p : D × Ev) : Option D → Res Fl
  | some (.lst true ds) => grd (szLt ds.length) (.ok (.nx (p.2.set i (some (.lst true (ds ++ [p.1]))))))
  | _ => stk
noncomputable def appK (i : Nat) (p : D × Ev) : Res Fl := appD i p (slotD p.2 i)
theorem appK_k {i : Nat} {p : D × Ev} : appK i p = appD i p (slotD p.2 i) := rfl
noncomputable def app0 (cl : Nat → List D → Res D) (i : Nat) (e : IR) (τ : Ev) : Option D → Res Fl
  | some (.lst _ _) => bnd (evO cl false e τ) (appK i)
  | _ => stk
theorem app0_t {i : Nat} {e : IR} {o : Bool} {ds : List D} : app0 cl i e τ (some (.lst o ds)) = bnd (evO cl false e τ) (appK i) := rfl
theorem appD_t {i : Nat} {p : D × Ev} {ds : List D} : appD i p (some (.lst true ds)) = grd (szLt ds.length) (.ok (.nx (p.2.set i (some (.lst true (ds ++ [p.1])))))) := rfl
theorem st_app {i : Nat} {e : IR} : evS cl (.app i e) τ = app0 cl i e τ (slotD τ i) := rfl
noncomputable def expK (τ : Ev) (d : D) : Res Fl := .ok (.nx τ)
theorem expK_k {d : D} : expK τ d = .ok (.nx τ) := rfl
theorem st_exp {e : IR} : evS cl (.exp e) τ = bnd (evR cl e τ) (expK τ) := rfl
noncomputable def rtK (p : D × Ev) : Res Fl := .ok (.rt p.1)
theorem rtK_k {p : D × Ev} : rtK p = .ok (.rt p.1) := rfl
theorem st_ret {e : IR} : evS cl (.ret e) τ = bnd (evO cl true e τ) rtK := rfl
theorem st_retN : evS cl .retN τ = .ok (.rt .non) := rfl
noncomputable def ifK (cl : Nat → List D → Res D) (a b : List IS) (τ : Ev) (r : Bool) : Res Fl := if r = true then evSs cl a τ else evSs cl b τ
theorem ifK_k {a b : List IS} {r : Bool} : ifK cl a b τ r = if r = true then evSs cl a τ else evSs cl b τ := rfl
theorem st_if {t : IR} {a b : List IS} : evS cl (.if_ t a b) τ = bnd (evT cl t τ) (ifK cl a b τ) := rfl
noncomputable def turn (cl : Nat → List D → Res D) (tg : Tg) (body : List IS) (x : D) (τ : Ev) : Res Fl := bnd (setT tg x τ) (evSs cl body)
theorem turn_eq {tg : Tg} {body : List IS} {x : D} : turn cl tg body x τ = bnd (setT tg x τ) (evSs cl body) := rfl
noncomputable def forK (cl : Nat → List D → Res D) (tg : Tg) (body : List IS) (p : List D × Ev) : Res Fl := forM (turn cl tg body) p.1 p.2
theorem forK_k {tg : Tg} {body : List IS} {p : List D × Ev} : forK cl tg body p = forM (turn cl tg body) p.1 p.2 := rfl
theorem st_for {tg : Tg} {s : Sr} {body : List IS} : evS cl (.for_ tg s body) τ = bnd (srcO cl s τ) (forK cl tg body) := rfl
noncomputable def tryK : Fl → Res Fl
  | .nx τ' => .ok (.nx τ')
  | _ => stk
theorem st_tryn {body : List IS} : evS cl (.tryn body) τ = bnd (noX (evSs cl body τ)) tryK := rfl
theorem tryK_k : tryK (.nx τ) = .ok (.nx τ) := rfl
theorem noX_f {a : Fl} : noX (.ok a : Res Fl) = .ok a := rfl
theorem st_brk : evS cl .brk τ = .ok (.bk τ) := rfl
theorem st_cnt : evS cl .cnt τ = .ok (.ct τ) := rfl
theorem st_pass : evS cl .pass τ = .ok (.nx τ) := rfl
noncomputable def seqF (f : Ev → Res Fl) : Fl → Res Fl
  | .nx τ' => f τ'
  | .ct τ' => .ok (.ct τ')
  | .bk τ' => .ok (.bk τ')
  | .rt d => .ok (.rt d)
theorem ss_n : evSs cl [] τ = .ok (.nx τ) := rfl
theorem ss_c {s : IS} {r : List IS} : evSs cl (s :: r) τ = bnd (evS cl s τ) (seqF (evSs cl r)) := rfl
theorem sq_nx {f : Ev → Res Fl} : seqF f (.nx τ) = f τ := rfl
theorem sq_ct {f : Ev → Res Fl} : seqF f (.ct τ) = .ok (.ct τ) := rfl
theorem sq_bk {f : Ev → Res Fl} : seqF f (.bk τ) = .ok (.bk τ) := rfl
theorem sq_rt {f : Ev → Res Fl} {d : D} : seqF f (.rt d) = .ok (.rt d) := rfl
noncomputable def srcK (τ : Ev) (its : List D) : Res (List D × Ev) := .ok (its, τ)
theorem srcK_k {its : List D} : srcK τ its = .ok (its, τ) := rfl
noncomputable def srcvK (e : IR) (τ : Ev) (its : List D) : Res (List D × Ev) := .ok (ers its, frz (vars e) τ)
theorem srcvK_k {e : IR} {its : List D} : srcvK e τ its = .ok (ers its, frz (vars e) τ) := rfl
theorem src_1 {n : IR} : srcO cl (.rng1 n) τ = bnd (evSr cl (.rng1 n) τ) (srcK τ) := rfl
theorem src_2 {a b : IR} : srcO cl (.rng2 a b) τ = bnd (evSr cl (.rng2 a b) τ) (srcK τ) := rfl
theorem src_v {e : IR} : srcO cl (.val e) τ = bnd (evSr cl (.val e) τ) (srcvK e τ) := rfl
noncomputable def forF (body : D → Ev → Res Fl) (xs : List D) : Fl → Res Fl
  | .nx τ' => forM body xs τ'
  | .ct τ' => forM body xs τ'
  | .bk τ' => .ok (.nx τ')
  | .rt d => .ok (.rt d)
theorem for_n {body : D → Ev → Res Fl} : forM body [] τ = .ok (.nx τ) := rfl
theorem for_c {body : D → Ev → Res Fl} {x : D} {xs : List D} : forM body (x :: xs) τ = bnd (body x τ) (forF body xs) := rfl
theorem ff_nx {body : D → Ev → Res Fl} {xs : List D} : forF body xs (.nx τ) = forM body xs τ := rfl
theorem ff_ct {body : D → Ev → Res Fl} {xs : List D} : forF body xs (.ct τ) = forM body xs τ := rfl
theorem ff_bk {body : D → Ev → Res Fl} {xs : List D} : forF body xs (.bk τ) = .ok (.nx τ) := rfl
theorem ff_rt {body : D → Ev → Res Fl} {xs : List D} {d : D} : forF body xs (.rt d) = .ok (.rt d) := rfl
theorem t_nm {i : Nat} {d : D} : setT (.nm i) d τ = .ok (τ.set i (some d)) := rfl
theorem t_tp {ts : List Tg} {ds : List D} : setT (.tp ts) (.tup ds) τ = grd (decide (ds.length = ts.length)) (setTs ts ds τ) := rfl
theorem t_tl {ts : List Tg} {o : Bool} {ds : List D} : setT (.tp ts) (.lst o ds) τ = grd (decide (ds.length = ts.length)) (setTs ts ds τ) := rfl
theorem ts'_n : setTs [] [] τ = .ok τ := rfl
theorem ts'_c {t : Tg} {ts : List Tg} {d : D} {ds : List D} : setTs (t :: ts) (d :: ds) τ = bnd (setT t d τ) (setTs ts ds) := rfl
theorem sl_0 {o : Option D} : slotD (o :: τ) 0 = o := by unfold slotD; simp
theorem sl_s {o : Option D} {i : Nat} : slotD (o :: τ) (i + 1) = slotD τ i := slotD_cons
theorem set_0 {o p : Option D} : (o :: τ).set 0 p = p :: τ := rfl
theorem set_s {o p : Option D} {i : Nat} : (o :: τ).set (i + 1) p = o :: τ.set i p := rfl
theorem b_add {a b : Int} : opB .add (.int a) (.int b) = .ok (.int (a + b)) := rfl
theorem b_adds {a b : Str} : opB .add (.str a) (.str b) = grd (szOk (a.length + b.length)) (.ok (.str (a ++ b))) := rfl
theorem b_addl {o o' : Bool} {a b : List D} : opB .add (.lst o a) (.lst o' b) = grd (szOk (a.length + b.length)) (.ok (.lst true (a ++ b))) := rfl
theorem b_sub {a b : Int} : opB .sub (.int a) (.int b) = .ok (.int (a - b)) := rfl
theorem b_mul {a b : Int} : opB .mul (.int a) (.int b) = grd (decide (-(2 ^ 64) < a ∧ a < 2 ^ 64) || decide (-(2 ^ 64) < b ∧ b < 2 ^ 64)) (.ok (.int (a * b))) := rfl
theorem b_fdiv {a b : Int} : opB .fdiv (.int a) (.int b) = grd (decide (0 < b ∧ b < 1073741824)) (.ok (.int (a / b))) := rfl
theorem b_mod {a b : Int} : opB .mod (.int a) (.int b) = grd (decide (0 < b)) (.ok (.int (a % b))) := rfl
theorem x_l {o : Bool} {ds : List D} {i : Int} : opIx (.lst o ds) (.int i) = (match atI ds i with | some d => .ok d | none => stk) := rfl
theorem x_t {ds : List D} {i : Int} : opIx (.tup ds) (.int i) = (match atI ds i with | some d => .ok d | none => stk) := rfl
theorem x_s {z : Str} {i : Int} : opIx (.str z) (.int i) = grd (szOk z.length) (match atI z.cps.toList i with | some c => .ok (.str ⟨#[c]⟩) | none => stk) := rfl
theorem sl_l {o : Bool} {ds : List D} {lo hi : Option Int} : opSl (.lst o ds) lo hi = .ok (.lst true (cutG ds lo hi)) := rfl
theorem sl_t {z : Str} {lo hi : Option Int} : opSl (.str z) lo hi = grd (szOk z.length) (.ok (.str (Txt.slice z lo hi))) := rfl
theorem sl_u {ds : List D} {lo hi : Option Int} : opSl (.tup ds) lo hi = grd (prop (HT.sIx ds.length 0 lo) (HT.sIx ds.length ds.length hi) ds.length) (.ok (.tup (cutG ds lo hi))) := rfl
theorem tr_n : truD .non = .ok false := rfl
theorem tr_b {b : Bool} : truD (.bl b) = .ok b := rfl
theorem tr_i {i : Int} : truD (.int i) = .ok (i != 0) := rfl
theorem c_eq {a b : D} : opC .eq a b = eqN 40 a b := by cases a <;> cases b <;> rfl
noncomputable def notB (r : Bool) : Res Bool := .ok !r
theorem notB_k {r : Bool} : notB r = .ok !r := rfl
theorem c_ne {a b : D} : opC .ne a b = bnd (eqN 40 a b) notB := by cases a <;> cases b <;> rfl
theorem e_ii {n : Nat} {a b : Int} : eqN (n + 1) (.int a) (.int b) = .ok (a == b) := rfl
theorem e_ss {n : Nat} {a b : Str} : eqN (n + 1) (.str a) (.str b) = .ok (a == b) := rfl
theorem e_bb {n : Nat} {a b : Bool} : eqN (n + 1) (.bl a) (.bl b) = .ok (a == b) := rfl
theorem e_nn {n : Nat} : eqN (n + 1) .non .non = .ok true := rfl
theorem e_ni {n : Nat} {a : Int} : eqN (n + 1) .non (.int a) = .ok false := rfl
theorem e_in {n : Nat} {a : Int} : eqN (n + 1) (.int a) .non = .ok false := rfl
theorem ej_nb {n : Nat} {b' : Bool} : eqN (n + 1) (.non) (.bl b') = .ok false := rfl
theorem ej_ni {n : Nat} {i' : Int} : eqN (n + 1) (.non) (.int i') = .ok false := rfl
theorem ej_ns {n : Nat} {x' : Str} : eqN (n + 1) (.non) (.str x') = .ok false := rfl
theorem ej_nt {n : Nat} {ds' : List D} : eqN (n + 1) (.non) (.tup ds') = .ok false := rfl
theorem ej_nl {n : Nat} {o' : Bool} {ds' : List D} : eqN (n + 1) (.non) (.lst o' ds') = .ok false := rfl
theorem ej_bn {n : Nat} {b : Bool} : eqN (n + 1) (.bl b) (.non) = .ok false := rfl
theorem ej_bs {n : Nat} {b : Bool} {x' : Str} : eqN (n + 1) (.bl b) (.str x') = .ok false := rfl
theorem ej_bt {n : Nat} {b : Bool} {ds' : List D} : eqN (n + 1) (.bl b) (.tup ds') = .ok false := rfl
theorem ej_bl {n : Nat} {b : Bool} {o' : Bool} {ds' : List D} : eqN (n + 1) (.bl b) (.lst o' ds') = .ok false := rfl
theorem ej_in {n : Nat} {i : Int} : eqN (n + 1) (.int i) (.non) = .ok false := rfl
theorem ej_is {n : Nat} {i : Int} {x' : Str} : eqN (n + 1) (.int i) (.str x') = .ok false := rfl
theorem ej_it {n : Nat} {i : Int} {ds' : List D} : eqN (n + 1) (.int i) (.tup ds') = .ok false := rfl
theorem ej_il {n : Nat} {i : Int} {o' : Bool} {ds' : List D} : eqN (n + 1) (.int i) (.lst o' ds') = .ok false := rfl
theorem ej_sn {n : Nat} {x : Str} : eqN (n + 1) (.str x) (.non) = .ok false := rfl
theorem ej_sb {n : Nat} {x : Str} {b' : Bool} : eqN (n + 1) (.str x) (.bl b') = .ok false := rfl
theorem ej_si {n : Nat} {x : Str} {i' : Int} : eqN (n + 1) (.str x) (.int i') = .ok false := rfl
theorem ej_st {n : Nat} {x : Str} {ds' : List D} : eqN (n + 1) (.str x) (.tup ds') = .ok false := rfl
theorem ej_sl {n : Nat} {x : Str} {o' : Bool} {ds' : List D} : eqN (n + 1) (.str x) (.lst o' ds') = .ok false := rfl
theorem ej_tn {n : Nat} {ds : List D} : eqN (n + 1) (.tup ds) (.non) = .ok false := rfl
theorem ej_tb {n : Nat} {ds : List D} {b' : Bool} : eqN (n + 1) (.tup ds) (.bl b') = .ok false := rfl
theorem ej_ti {n : Nat} {ds : List D} {i' : Int} : eqN (n + 1) (.tup ds) (.int i') = .ok false := rfl
theorem ej_ts {n : Nat} {ds : List D} {x' : Str} : eqN (n + 1) (.tup ds) (.str x') = .ok false := rfl
theorem ej_tl {n : Nat} {ds : List D} {o' : Bool} {ds' : List D} : eqN (n + 1) (.tup ds) (.lst o' ds') = .ok false := rfl
theorem ej_ln {n : Nat} {o : Bool} {ds : List D} : eqN (n + 1) (.lst o ds) (.non) = .ok false := rfl
theorem ej_lb {n : Nat} {o : Bool} {ds : List D} {b' : Bool} : eqN (n + 1) (.lst o ds) (.bl b') = .ok false := rfl
theorem ej_li {n : Nat} {o : Bool} {ds : List D} {i' : Int} : eqN (n + 1) (.lst o ds) (.int i') = .ok false := rfl
theorem ej_ls {n : Nat} {o : Bool} {ds : List D} {x' : Str} : eqN (n + 1) (.lst o ds) (.str x') = .ok false := rfl
theorem ej_lt {n : Nat} {o : Bool} {ds : List D} {ds' : List D} : eqN (n + 1) (.lst o ds) (.tup ds') = .ok false := rfl
theorem e_tt {n : Nat} {a b : List D} : eqN (n + 1) (.tup a) (.tup b) = eqsG (eqN n) a b := rfl
theorem e_ll {n : Nat} {o o' : Bool} {a b : List D} : eqN (n + 1) (.lst o a) (.lst o' b) = eqsG (eqN n) a b := rfl
theorem es_n {f : D → D → Res Bool} : eqsG f [] [] = .ok true := rfl
noncomputable def andB (x y : Bool) : Res Bool := .ok (x && y)
theorem andB_k {x y : Bool} : andB x y = .ok (x && y) := rfl
noncomputable def esK (f : D → D → Res Bool) (r s : List D) (x : Bool) : Res Bool := bnd (eqsG f r s) (andB x)
theorem esK_k {f : D → D → Res Bool} {r s : List D} {x : Bool} : esK f r s x = bnd (eqsG f r s) (andB x) := rfl
theorem es_c {f : D → D → Res Bool} {a b : D} {r s : List D} : eqsG f (a :: r) (b :: s) = bnd (f a b) (esK f r s) := rfl
theorem es_l {f : D → D → Res Bool} {a : D} {r : List D} : eqsG f (a :: r) [] = .ok false := rfl
theorem es_r {f : D → D → Res Bool} {b : D} {s : List D} : eqsG f [] (b :: s) = .ok false := rfl
theorem c_lt {a b : Int} : opC .lt (.int a) (.int b) = .ok (decide (a < b)) := rfl
theorem c_le {a b : Int} : opC .le (.int a) (.int b) = .ok (decide (a ≤ b)) := rfl
theorem c_gt {a b : Int} : opC .gt (.int a) (.int b) = .ok (decide (b < a)) := rfl
theorem c_ge {a b : Int} : opC .ge (.int a) (.int b) = .ok (decide (b ≤ a)) := rfl
theorem c_ins {y x : Str} : opC .in_ (.str y) (.str x) = .ok (inStr x y) := rfl
theorem c_nins {y x : Str} : opC .nin (.str y) (.str x) = .ok (!inStr x y) := rfl
theorem c_inl {a : D} {o : Bool} {ds : List D} : opC .in_ a (.lst o ds) = anyN a ds := by cases a <;> rfl
theorem c_ninl {a : D} {o : Bool} {ds : List D} : opC .nin a (.lst o ds) = bnd (anyN a ds) notB := by cases a <;> rfl
theorem c_is {a : D} : opC .is_ a .non = .ok (isNon a) := by cases a <;> rfl
theorem c_isn {a : D} : opC .isn a .non = .ok (!isNon a) := by cases a <;> rfl
theorem n_n : isNon .non = true := rfl
theorem n_i {i : Int} : isNon (.int i) = false := rfl
theorem n_s {i : Str} : isNon (.str i) = false := rfl
theorem n_b {b : Bool} : isNon (.bl b) = false := rfl
theorem n_t {ds : List D} : isNon (.tup ds) = false := rfl
theorem n_l {o : Bool} {ds : List D} : isNon (.lst o ds) = false := rfl
theorem c_int {a : D} {ds : List D} : opC .in_ a (.tup ds) = anyN a ds := by cases a <;> rfl
theorem c_nint {a : D} {ds : List D} : opC .nin a (.tup ds) = bnd (anyN a ds) notB := by cases a <;> rfl
theorem an_n {d : D} : anyN d [] = .ok false := rfl
noncomputable def orBB (x y : Bool) : Res Bool := .ok (x || y)
theorem orBB_k {x y : Bool} : orBB x y = .ok (x || y) := rfl
noncomputable def anK (d : D) (r : List D) (x : Bool) : Res Bool := bnd (anyN d r) (orBB x)
theorem anK_k {d : D} {r : List D} {x : Bool} : anK d r x = bnd (anyN d r) (orBB x) := rfl
theorem an_c {d e : D} {r : List D} : anyN d (e :: r) = bnd (eqN 40 e d) (anK d r) := rfl
theorem bi_ls {x : Str} : opBi .len [.str x] = grd (szOk x.length) (.ok (.int x.length)) := rfl
theorem bi_lt {ds : List D} : opBi .len [.tup ds] = .ok (.int ds.length) := rfl
theorem bi_ll {o : Bool} {ds : List D} : opBi .len [.lst o ds] = .ok (.int ds.length) := rfl
theorem bi_min {a b : Int} : opBi .min2 [.int a, .int b] = .ok (.int (if b < a then b else a)) := rfl
theorem bi_max {a b : Int} : opBi .max2 [.int a, .int b] = .ok (.int (if b > a then b else a)) := rfl
theorem bi_inti {i : Int} : opBi .int [.int i] = .ok (.int i) := rfl
theorem bi_intb {b : Bool} : opBi .int [.bl b] = .ok (.int (if b then 1 else 0)) := rfl
theorem bi_listl {o : Bool} {ds : List D} : opBi .list [.lst o ds] = .ok (.lst true ds) := rfl
theorem bi_lists {x : Str} : opBi .list [.str x] = grd (szOk x.length) (.ok (.lst true (charsD x))) := rfl
theorem bi_listt {ds : List D} : opBi .list [.tup ds] = .ok (.lst true ds) := rfl
theorem asStrs_i (ns : List Str) : asStrs (ns.map .str) = some ns := by
  induction ns with
  | nil => rfl
  | cons n ns ih =>
    show (asStrs (ns.map .str)).map (n :: ·) = _
    rw [ih]
    rfl
theorem asBls_i (ns : List Bool) : asBls (ns.map .bl) = some ns := by
  induction ns with
  | nil => rfl
  | cons n ns ih =>
    show (asBls (ns.map .bl)).map (n :: ·) = _
    rw [ih]
    rfl
theorem bi_str {i : Int} : opBi .str [.int i] = grd (decide (i.natAbs.log2 < 1920)) (.ok (.str (toString i))) := rfl
theorem bi_ints {x : Str} : opBi .int [.str x] = (match intText? x with | some n => grd (decide (x.length ≤ 640)) (.ok (.int n)) | none => stk) := rfl
theorem bi_abs {i : Int} : opBi .abs [.int i] = .ok (.int (if i < 0 then -i else i)) := rfl
theorem bi_any {o : Bool} {bs : List Bool} : opBi .any [.lst o (bs.map .bl)] = .ok (.bl (bs.any id)) := by
  show (match asBls (bs.map .bl) with | some bs => .ok (.bl (bs.any id)) | none => stk) = (_ : Res D)
  rw [asBls_i]
theorem bi_all {o : Bool} {bs : List Bool} : opBi .all [.lst o (bs.map .bl)] = .ok (.bl (bs.all id)) := by
  show (match asBls (bs.map .bl) with | some bs => .ok (.bl (bs.all id)) | none => stk) = (_ : Res D)
  rw [asBls_i]
theorem mt_join {x : Str} {o : Bool} {ys : List Str} (h : (ys.map (·.length)).sum + ys.length * x.length ≤ 16777216) : opMt .join (.str x) [.lst o (ys.map .str)] = .ok (.str (Txt.join x ys)) := by
  show (match asStrs (ys.map .str) with | some ys => grd (decide ((ys.map (fun y : Str => y.length)).sum + ys.length * x.length ≤ 16777216)) (.ok (.str (Txt.join x ys))) | none => stk) = (_ : Res D)
  rw [asStrs_i]
  show grd (decide _) _ = _
  rw [decide_eq_true h]
  rfl
theorem mt_split {x y : Str} : opMt .split (.str x) [.str y] = grd (decide (y.length ≠ 0 ∧ x.length + 2 ≤ sizeLine)) (.ok (.lst true ((Txt.split x y).map .str))) := rfl
theorem mt_starts {x y : Str} : opMt .starts (.str x) [.str y] = .ok (.bl (Txt.startswith x y)) := rfl
theorem str_t {x : Str} : isStrD (.str x) = true := rfl
theorem isi_si {x : Str} : isiD .str (.str x) = true := rfl
theorem isi_ii {x : Int} : isiD .int (.int x) = true := rfl
theorem isi_bi {x : Int} : isiD .bool (.int x) = false := rfl
theorem isi_tt {x : List D} : isiD .tuple (.tup x) = true := rfl
theorem isj_strn : isiD .str (.non) = false := rfl
theorem isj_strb {b : Bool} : isiD .str (.bl b) = false := rfl
theorem isj_stri {i : Int} : isiD .str (.int i) = false := rfl
theorem isj_strs {x : Str} : isiD .str (.str x) = true := rfl
theorem isj_strt {ds : List D} : isiD .str (.tup ds) = false := rfl
theorem isj_strl {o : Bool} {ds : List D} : isiD .str (.lst o ds) = false := rfl
theorem isj_intn : isiD .int (.non) = false := rfl
theorem isj_intb {b : Bool} : isiD .int (.bl b) = true := rfl
theorem isj_inti {i : Int} : isiD .int (.int i) = true := rfl
theorem isj_ints {x : Str} : isiD .int (.str x) = false := rfl
theorem isj_intt {ds : List D} : isiD .int (.tup ds) = false := rfl
theorem isj_intl {o : Bool} {ds : List D} : isiD .int (.lst o ds) = false := rfl
theorem isj_booln : isiD .bool (.non) = false := rfl
theorem isj_boolb {b : Bool} : isiD .bool (.bl b) = true := rfl
theorem isj_booli {i : Int} : isiD .bool (.int i) = false := rfl
theorem isj_bools {x : Str} : isiD .bool (.str x) = false := rfl
theorem isj_boolt {ds : List D} : isiD .bool (.tup ds) = false := rfl
theorem isj_booll {o : Bool} {ds : List D} : isiD .bool (.lst o ds) = false := rfl
theorem isj_listn : isiD .list (.non) = false := rfl
theorem isj_listb {b : Bool} : isiD .list (.bl b) = false := rfl
theorem isj_listi {i : Int} : isiD .list (.int i) = false := rfl
theorem isj_lists {x : Str} : isiD .list (.str x) = false := rfl
theorem isj_listt {ds : List D} : isiD .list (.tup ds) = false := rfl
theorem isj_listl {o : Bool} {ds : List D} : isiD .list (.lst o ds) = true := rfl
theorem isj_tuplen : isiD .tuple (.non) = false := rfl
theorem isj_tupleb {b : Bool} : isiD .tuple (.bl b) = false := rfl
theorem isj_tuplei {i : Int} : isiD .tuple (.int i) = false := rfl
theorem isj_tuples {x : Str} : isiD .tuple (.str x) = false := rfl
theorem isj_tuplet {ds : List D} : isiD .tuple (.tup ds) = true := rfl
theorem isj_tuplel {o : Bool} {ds : List D} : isiD .tuple (.lst o ds) = false := rfl
theorem isi_ll {o : Bool} {x : List D} : isiD .list (.lst o x) = true := rfl
theorem lf_i (ns : List Int) : lfrees (ns.map .int) = true := by
  rw [lfrees_all, List.all_map, List.all_eq_true]
  intro x _
  rfl
theorem lf_s (ns : List Str) : lfrees (ns.map .str) = true := by
  rw [lfrees_all, List.all_map, List.all_eq_true]
  intro x _
  rfl
theorem er_i {i : Int} : er (.int i) = .int i := by rw [er]
theorem er_s {i : Str} : er (.str i) = .str i := by rw [er]
theorem er_b {i : Bool} : er (.bl i) = .bl i := by rw [er]
theorem er_n : er .non = .non := by rw [er]
theorem er_t {ds : List D} : er (.tup ds) = .tup (ers ds) := by rw [er]
theorem er_l {o : Bool} {ds : List D} : er (.lst o ds) = .lst false (ers ds) := by rw [er]
theorem ers_n : ers [] = [] := by rw [ers]
theorem ers_c {d : D} {ds : List D} : ers (d :: ds) = er d :: ers ds := by rw [ers]
theorem ers_ii (ns : List Int) : ers (ns.map .int) = ns.map .int := ers_lfrees (lf_i ns)
theorem ers_ss (ns : List Str) : ers (ns.map .str) = ns.map .str := ers_lfrees (lf_s ns)
theorem lfr_i {i : Int} : lfree (.int i) = true := rfl
theorem lfr_s {i : Str} : lfree (.str i) = true := rfl
theorem lfr_b {i : Bool} : lfree (.bl i) = true := rfl
theorem lfr_n : lfree .non = true := rfl
theorem lfr_t {ds : List D} : lfree (.tup ds) = lfrees ds := rfl
theorem lfr_l {o : Bool} {ds : List D} : lfree (.lst o ds) = false := rfl
theorem lfrs_n : lfrees [] = true := rfl
theorem lfrs_c {d : D} {ds : List D} : lfrees (d :: ds) = (lfree d && lfrees ds) := rfl
noncomputable def retF : Fl → Res D
  | .nx _ => .ok .non
  | .rt d => .ok d
  | _ => stk
theorem run {fn : Fn} {ds : List D} (h : ds.length = fn.np) : runF cl fn ds = bnd (evSs cl fn.body (ds.map some ++ List.replicate (fn.G.N.length - fn.np) none)) retF := by
  unfold runF
  rw [decide_eq_true h]
  rfl
theorem ret_nx : retF (.nx τ) = .ok .non := rfl
theorem ret_rt {d : D} : retF (.rt d) = .ok d := rfl
theorem call {T : Tb} {n f : Nat} {fn : Fn} {ds : List D} (h : T f = some fn) : callF T (n + 1) f ds = runF (callF T n) fn ds := by
  show (match T f with | some fn => runF (callF T n) fn ds | none => stk) = _
  rw [h]
theorem go {T : Tb} {n f : Nat} {fn : Fn} {ds : List D} {m k : Nat} {body : List IS} (h : T f = some fn) (h1 : fn.np = m) (h2 : fn.G.N.length = k) (h3 : fn.body = body) (hl : ds.length = m) :
    callF T (n + 1) f ds = bnd (evSs (callF T n) body (ds.map some ++ List.replicate (k - m) none)) retF := by
  rw [call h, run (by rw [hl, h1]), h1, h2, h3]
end
end Ev
end L2
namespace L2
open PySem PySem.Spec PyProof.Rows PySem.SeqAt
namespace Ev
section
variable {cl : Nat → List D → Res D} {τ : Ev}
theorem line : sizeLine = 16777216 := sizeLine_eq
theorem c_mulL {a b : Int} (h1 : -18446744073709551616 < a) (h2 : a < 18446744073709551616) : opB .mul (.int a) (.int b) = .ok (.int (a * b)) := by
  rw [b_mul, decide_eq_true (show -(2 ^ 64) < a ∧ a < 2 ^ 64 from ⟨by omega, by omega⟩)]
  rfl
theorem c_mulR {a b : Int} (h1 : -18446744073709551616 < b) (h2 : b < 18446744073709551616) : opB .mul (.int a) (.int b) = .ok (.int (a * b)) := by
  rw [b_mul, decide_eq_true (show -(2 ^ 64) < b ∧ b < 2 ^ 64 from ⟨by omega, by omega⟩), Bool.or_true]
  rfl
theorem c_fdiv {a b : Int} (h1 : 0 < b) (h2 : b < 1073741824) : opB .fdiv (.int a) (.int b) = .ok (.int (a / b)) := by
  rw [b_fdiv, decide_eq_true ⟨h1, h2⟩]
  rfl
theorem c_mod {a b : Int} (h1 : 0 < b) : opB .mod (.int a) (.int b) = .ok (.int (a % b)) := by
  rw [b_mod, decide_eq_true h1]
  rfl
theorem szOk_t {n : Nat} (h : n ≤ 16777216) : szOk n = true := decide_eq_true (by rw [line]; exact h)
theorem szLt_t {n : Nat} (h : n < 16777216) : szLt n = true := decide_eq_true (by rw [line]; exact h)
theorem rngOk_t {i : Int} (h1 : -4611686018427387904 ≤ i) (h2 : i < 4611686018427387904) : rngOk i = true := decide_eq_true ⟨by omega, by omega⟩
theorem atI_map {α β : Type} (f : α → β) (xs : List α) (i : Int) : atI (xs.map f) i = (atI xs i).map f := by
  unfold atI
  rw [List.length_map]
  cases ixN xs.length i with
  | none => rfl
  | some j => exact List.getElem?_map ..
theorem atI_in {α : Type} {xs : List α} {i : Int} (d : α) (h0 : 0 ≤ i) (h1 : i < xs.length) : atI xs i = some (xs.getD i.toNat d) := by
  unfold atI ixN
  rw [if_pos h0, if_pos h1]
  show xs[i.toNat]? = _
  have : i.toNat < xs.length := by omega
  rw [List.getD_eq_getElem?_getD, List.getElem?_eq_getElem this]
  rfl
theorem x_i {o : Bool} {xs : List Int} {i : Int} (h0 : 0 ≤ i) (h1 : i < xs.length) : opIx (.lst o (xs.map .int)) (.int i) = .ok (.int (xs.getD i.toNat 0)) := by
  rw [x_l, atI_map, atI_in 0 h0 h1]
  rfl
theorem x_ss {o : Bool} {xs : List Str} {i : Int} (h0 : 0 ≤ i) (h1 : i < xs.length) : opIx (.lst o (xs.map .str)) (.int i) = .ok (.str (xs.getD i.toNat ⟨#[]⟩)) := by
  rw [x_l, atI_map, atI_in ⟨#[]⟩ h0 h1]
  rfl
theorem x_c {z : Str} {i : Int} (h0 : 0 ≤ i) (h1 : i < z.length) (hz : z.length ≤ 16777216) : opIx (.str z) (.int i) = .ok (.str ⟨#[z.cps.toList.getD i.toNat 0]⟩) := by
  rw [x_s, szOk_t hz]
  have hl : z.cps.toList.length = z.length := by simp [Str.length]
  rw [atI_in 0 h0 (by rw [hl]; exact h1)]
  rfl
theorem cutG_map {α β : Type} (f : α → β) (xs : List α) (lo hi : Option Int) : cutG (xs.map f) lo hi = (cutG xs lo hi).map f := by
  unfold cutG
  rw [List.length_map, List.map_take, List.map_drop]
theorem cut_to {α : Type} (xs : List α) {m : Int} (h : 0 ≤ m) : cutG xs none (some m) = xs.take m.toNat := by
  unfold cutG HT.sIx
  simp only [List.drop_zero, Nat.sub_zero]
  rw [if_neg (by omega)]
  by_cases hm : m.toNat ≤ xs.length
  · rw [show min m.toNat xs.length = m.toNat from Nat.min_eq_left hm]
  · rw [show min m.toNat xs.length = xs.length from Nat.min_eq_right (by omega), List.take_length, List.take_of_length_le (by omega)]
noncomputable def fz : Bool → Option D → Option D
  | true, some d => some (er d)
  | true, none => none
  | false, o => o
theorem fz_t {d : D} : fz true (some d) = some (er d) := rfl
theorem fz_n : fz true none = none := rfl
theorem fz_f {o : Option D} : fz false o = o := rfl
theorem frz_n {is : List Nat} {k : Nat} : frzA is k [] = [] := rfl
theorem frz_c {is : List Nat} {k : Nat} {o : Option D} {τ : Ev} : frzA is k (o :: τ) = fz (is.contains k) o :: frzA is (k + 1) τ := by
  show (if is.contains k then o.map er else o) :: frzA is (k + 1) τ = _
  cases is.contains k <;> cases o <;> rfl
theorem vr_c {d : D} : vars (.c d) = [] := rfl
theorem vr_g {n : Nat} {d : D} : vars (.g n d) = [] := rfl
theorem vr_v {i : Nat} : vars (.v i) = [i] := rfl
theorem vr_bin {o : BOp} {a b : IR} : vars (.bin o a b) = vars a ++ vars b := rfl
theorem vr_tup {es : List IR} : vars (.tup es) = varss es := rfl
theorem vr_lst {es : List IR} : vars (.lst es) = varss es := rfl
theorem vr_call {f : Nat} {es : List IR} : vars (.call f es) = varss es := rfl
theorem vr_bi {f : Bi} {es : List IR} : vars (.bi f es) = varss es := rfl
theorem vr_idx {a i : IR} : vars (.idx a i) = vars a ++ vars i := rfl
theorem vr_mth {m : Mt} {o : IR} {es : List IR} : vars (.mth m o es) = vars o ++ varss es := rfl
theorem vrs_n : varss [] = [] := rfl
theorem vrs_c {e : IR} {es : List IR} : varss (e :: es) = vars e ++ varss es := rfl
theorem nl_comp {G : Gm} {fr : List Nat} {t : Tg} {s : Sr} {i : List IR} {e : IR} : newList? (.comp G fr t s i e) = true := rfl
theorem nl_add {a b : IR} : newList? (.bin .add a b) = true := rfl
theorem nl_sl {a : IR} {b c : Option IR} : newList? (.sl a b c) = true := rfl
theorem nl_list {es : List IR} : newList? (.bi .list es) = true := rfl
theorem nl_v {i : Nat} : newList? (.v i) = false := rfl
theorem nl_idx {a i : IR} : newList? (.idx a i) = false := rfl
theorem k_ll {e : IR} {o : Bool} {ds : List D} {τ : Ev} : keepD e (.lst o ds) τ = cond (newList? e) (cond (lfrees ds) (.lst true ds, τ) (.lst true (ers ds), frz (vars e) τ)) (.lst false (ers ds), frz (vars e) τ) := by
  unfold keepD
  rw [if_neg (show ¬ lfree (.lst o ds) = true by intro z; cases z)]
  cases newList? e
  · exact Prod.ext (by show er (.lst o ds) = _; rw [er]; rfl) rfl
  · show (if lfrees ds = true then _ else _) = _
    cases lfrees ds <;> rfl
theorem k_tt {e : IR} {ds : List D} {τ : Ev} : keepD e (.tup ds) τ = cond (lfrees ds) (.tup ds, τ) (.tup (ers ds), frz (vars e) τ) := by
  unfold keepD
  cases h : lfrees ds with
  | true => rw [if_pos (show lfree (.tup ds) = true from h)]; rfl
  | false =>
    rw [if_neg (show ¬ lfree (.tup ds) = true by intro z; rw [show lfree (.tup ds) = lfrees ds from rfl, h] at z; cases z)]
    cases newList? e <;> exact Prod.ext (by show er (.tup ds) = _; rw [er]; rfl) rfl
theorem for_inv {body : D → Ev → Res Fl} (P : Nat → Ev → Prop) : ∀ (its : List D) (k : Nat) (τ : Ev), P k τ → (∀ (i : Nat) (x : D) (τ : Ev), its[i]? = some x → P (k + i) τ → ∃ τ', body x τ = .ok (.nx τ') ∧ P (k + i + 1) τ') → ∃ τ', forM body its τ = .ok (.nx τ') ∧ P (k + its.length) τ'
  | [], k, τ, h, _ => ⟨τ, rfl, h⟩
  | x :: xs, k, τ, h, hb => by
    obtain ⟨τ1, e1, h1⟩ := hb 0 x τ rfl h
    obtain ⟨τ2, e2, h2⟩ := for_inv P xs (k + 1) τ1 h1 fun i y σ hy hp => by
      obtain ⟨τ', e', h'⟩ := hb (i + 1) y σ (by simpa using hy) (by rw [show k + (i + 1) = k + 1 + i by omega]; exact hp)
      exact ⟨τ', e', by rw [show k + 1 + i + 1 = k + (i + 1) + 1 by omega]; exact h'⟩
    refine ⟨τ2, ?_, by rw [List.length_cons, show k + (xs.length + 1) = k + 1 + xs.length by omega]; exact h2⟩
    rw [for_c, e1, bnd_k, ff_nx, e2]
theorem for_all {body : D → Ev → Res Fl} (P : Nat → Ev → Prop) {its : List D} {τ : Ev} (h : P 0 τ) (hb : ∀ (i : Nat) (x : D) (τ : Ev), its[i]? = some x → P i τ → ∃ τ', body x τ = .ok (.nx τ') ∧ P (i + 1) τ') : ∃ τ', forM body its τ = .ok (.nx τ') ∧ P its.length τ' := by
  obtain ⟨τ', h1, h2⟩ := for_inv P its 0 τ h fun i x τ hx hp => by
    rw [Nat.zero_add] at hp ⊢
    exact hb i x τ hx hp
  exact ⟨τ', h1, by rw [Nat.zero_add] at h2; exact h2⟩
theorem fmap_all {α β : Type} {g : D → Res (Option D)} (emb : α → D) (out : α → β) (emb' : β → D) : ∀ (xs : List α), (∀ x ∈ xs, g (emb x) = .ok (some (emb' (out x)))) → fmapM g (xs.map emb) = .ok ((xs.map out).map emb')
  | [], _ => rfl
  | x :: xs, h => by
    show bnd (g (emb x)) _ = _
    rw [h x (by simp)]
    show bnd (fmapM g (xs.map emb)) _ = _
    rw [fmap_all emb out emb' xs fun y hy => h y (List.mem_cons_of_mem _ hy)]
    rfl
theorem noX_k {α : Type} {a : α} : noX (.ok a : Res α) = .ok a := rfl
theorem rngD_map (a b : Int) : rngD a b = ((List.range (b - a).toNat).map fun k => a + (k : Nat)).map .int := by
  unfold rngD
  rw [List.map_map]
  rfl
theorem charsD_map (x : Str) : charsD x = (x.cps.toList.map fun c => (⟨#[c]⟩ : Str)).map .str := by
  unfold charsD
  rw [List.map_map]
  rfl
end
end Ev
end L2
namespace L2
open PySem
theorem ev0 : type_of% (And.intro (And.intro (And.intro (And.intro (And.intro (And.intro (And.intro (And.intro @Ev.bnd_k @Ev.grd_t) (And.intro @Ev.if_t (And.intro @Ev.if_f @Ev.r_c))) (And.intro (And.intro @Ev.r_g (And.intro @Ev.r_v @Ev.binK_k)) (And.intro @Ev.r_bin (And.intro @Ev.r_neg @Ev.negD_i)))) (And.intro (And.intro (And.intro @Ev.blK_k (And.intro @Ev.cmpK2_k @Ev.cmpK_k)) (And.intro @Ev.r_cmp (And.intro @Ev.chK3_k @Ev.chK2_k))) (And.intro (And.intro @Ev.chK_k (And.intro @Ev.r_chain @Ev.andK2_k)) (And.intro @Ev.andK_k (And.intro @Ev.r_and @Ev.orK2_k))))) (And.intro (And.intro (And.intro (And.intro @Ev.orK_k (And.intro @Ev.r_or @Ev.notK2_k)) (And.intro @Ev.notK_k (And.intro @Ev.r_not @Ev.iteK2_k))) (And.intro (And.intro @Ev.iteK_k (And.intro @Ev.r_ite @Ev.tupK_k)) (And.intro @Ev.r_tup (And.intro @Ev.lstK_k @Ev.r_lst)))) (And.intro (And.intro (And.intro @Ev.idxK_k (And.intro @Ev.r_idx @Ev.slK2_k)) (And.intro @Ev.slK_k (And.intro @Ev.r_sl @Ev.callK_k))) (And.intro (And.intro @Ev.r_call (And.intro @Ev.r_bi @Ev.isiK_k)) (And.intro @Ev.r_ftx (And.intro @Ev.ftx_s @Ev.r_isi)))))) (And.intro (And.intro (And.intro (And.intro (And.intro @Ev.mthK_k @Ev.r_mth) (And.intro @Ev.lstT_k (And.intro @Ev.compK_k @Ev.r_comp))) (And.intro (And.intro @Ev.rs_n (And.intro @Ev.consK_k @Ev.rsK_k)) (And.intro @Ev.rs_c (And.intro @Ev.intO_i @Ev.ro_n)))) (And.intro (And.intro (And.intro @Ev.ro_s (And.intro @Ev.ts_n @Ev.tsK_k)) (And.intro @Ev.ts_c (And.intro @Ev.rng1D_i @Ev.rng2D_i))) (And.intro (And.intro @Ev.s_r1 (And.intro @Ev.r2K_k @Ev.s_r2)) (And.intro @Ev.s_val (And.intro @Ev.it_l @Ev.it_t))))) (And.intro (And.intro (And.intro (And.intro @Ev.it_s (And.intro @Ev.t_t @Ev.o_v)) (And.intro @Ev.otupK_k (And.intro @Ev.o_tup @Ev.olstK_k))) (And.intro (And.intro @Ev.o_lst (And.intro @Ev.oiteK_k @Ev.o_ite)) (And.intro @Ev.ocallK2_k (And.intro @Ev.ocallK_k @Ev.o_call)))) (And.intro (And.intro (And.intro @Ev.keepK_k (And.intro @Ev.o_c @Ev.o_g)) (And.intro @Ev.o_bin (And.intro @Ev.o_neg @Ev.o_cmp))) (And.intro (And.intro @Ev.o_chain (And.intro @Ev.o_and @Ev.o_or)) (And.intro @Ev.o_not (And.intro @Ev.o_idx @Ev.o_sl))))))) (And.intro (And.intro (And.intro (And.intro (And.intro (And.intro @Ev.o_bi @Ev.o_ftx) (And.intro @Ev.o_isi (And.intro @Ev.o_mth @Ev.o_comp))) (And.intro (And.intro @Ev.os_n (And.intro @Ev.osK2_k @Ev.osK_k)) (And.intro @Ev.os_c (And.intro @Ev.smK_k @Ev.bdK2_k)))) (And.intro (And.intro (And.intro @Ev.bdK_k (And.intro @Ev.body_eq @Ev.blk_eq)) (And.intro @Ev.k_i (And.intro @Ev.k_s @Ev.k_b))) (And.intro (And.intro @Ev.k_n (And.intro @Ev.nxK_k @Ev.asgK_k)) (And.intro @Ev.st_asg (And.intro @Ev.appK_k @Ev.app0_t))))) (And.intro (And.intro (And.intro (And.intro @Ev.appD_t (And.intro @Ev.st_app @Ev.expK_k)) (And.intro @Ev.st_exp (And.intro @Ev.rtK_k @Ev.st_ret))) (And.intro (And.intro @Ev.st_retN (And.intro @Ev.ifK_k @Ev.st_if)) (And.intro @Ev.forK_k (And.intro @Ev.st_for @Ev.st_tryn)))) (And.intro (And.intro (And.intro @Ev.tryK_k (And.intro @Ev.noX_f @Ev.st_brk)) (And.intro @Ev.st_cnt (And.intro @Ev.st_pass @Ev.ss_n))) (And.intro (And.intro @Ev.ss_c (And.intro @Ev.sq_nx @Ev.sq_ct)) (And.intro @Ev.sq_bk (And.intro @Ev.sq_rt @Ev.srcK_k)))))) (And.intro (And.intro (And.intro (And.intro (And.intro @Ev.srcvK_k (And.intro @Ev.src_1 @Ev.src_2)) (And.intro @Ev.src_v (And.intro @Ev.for_n @Ev.for_c))) (And.intro (And.intro @Ev.ff_nx (And.intro @Ev.ff_ct @Ev.ff_bk)) (And.intro @Ev.ff_rt (And.intro @Ev.t_nm @Ev.t_tp)))) (And.intro (And.intro (And.intro @Ev.t_tl (And.intro @Ev.ts'_n @Ev.ts'_c)) (And.intro @Ev.sl_0 (And.intro @Ev.sl_s @Ev.set_0))) (And.intro (And.intro @Ev.set_s (And.intro @Ev.b_add @Ev.b_adds)) (And.intro @Ev.b_addl (And.intro @Ev.b_sub @Ev.x_t))))) (And.intro (And.intro (And.intro (And.intro @Ev.sl_l (And.intro @Ev.sl_t @Ev.sl_u)) (And.intro @Ev.tr_n (And.intro @Ev.tr_b @Ev.tr_i))) (And.intro (And.intro @Ev.c_eq (And.intro @Ev.notB_k @Ev.c_ne)) (And.intro @Ev.e_ii (And.intro @Ev.e_ss @Ev.e_bb)))) (And.intro (And.intro (And.intro @Ev.e_nn (And.intro @Ev.e_ni @Ev.e_in)) (And.intro @Ev.ej_nb (And.intro @Ev.ej_ni @Ev.ej_ns))) (And.intro (And.intro @Ev.ej_nt (And.intro @Ev.ej_nl @Ev.ej_bn)) (And.intro @Ev.ej_bs (And.intro @Ev.ej_bt @Ev.ej_bl)))))))) (And.intro (And.intro (And.intro (And.intro (And.intro (And.intro (And.intro @Ev.ej_in @Ev.ej_is) (And.intro @Ev.ej_it (And.intro @Ev.ej_il @Ev.ej_sn))) (And.intro (And.intro @Ev.ej_sb (And.intro @Ev.ej_si @Ev.ej_st)) (And.intro @Ev.ej_sl (And.intro @Ev.ej_tn @Ev.ej_tb)))) (And.intro (And.intro (And.intro @Ev.ej_ti (And.intro @Ev.ej_ts @Ev.ej_tl)) (And.intro @Ev.ej_ln (And.intro @Ev.ej_lb @Ev.ej_li))) (And.intro (And.intro @Ev.ej_ls (And.intro @Ev.ej_lt @Ev.e_tt)) (And.intro @Ev.e_ll (And.intro @Ev.es_n @Ev.andB_k))))) (And.intro (And.intro (And.intro (And.intro @Ev.esK_k (And.intro @Ev.es_c @Ev.es_l)) (And.intro @Ev.es_r (And.intro @Ev.c_lt @Ev.c_le))) (And.intro (And.intro @Ev.c_gt (And.intro @Ev.c_ge @Ev.c_ins)) (And.intro @Ev.c_nins (And.intro @Ev.c_inl @Ev.c_ninl)))) (And.intro (And.intro (And.intro @Ev.c_is (And.intro @Ev.c_isn @Ev.n_n)) (And.intro @Ev.n_i (And.intro @Ev.n_s @Ev.n_b))) (And.intro (And.intro @Ev.n_t (And.intro @Ev.n_l @Ev.c_int)) (And.intro @Ev.c_nint (And.intro @Ev.an_n @Ev.orBB_k)))))) (And.intro (And.intro (And.intro (And.intro (And.intro @Ev.anK_k @Ev.an_c) (And.intro @Ev.bi_ls (And.intro @Ev.bi_lt @Ev.bi_ll))) (And.intro (And.intro @Ev.bi_min (And.intro @Ev.bi_max @Ev.bi_inti)) (And.intro @Ev.bi_intb (And.intro @Ev.bi_listl @Ev.bi_lists)))) (And.intro (And.intro (And.intro @Ev.bi_listt (And.intro @Ev.bi_str @Ev.bi_ints)) (And.intro @Ev.bi_abs (And.intro @Ev.bi_any @Ev.bi_all))) (And.intro (And.intro @Ev.mt_split (And.intro @Ev.mt_starts @Ev.str_t)) (And.intro @Ev.isi_si (And.intro @Ev.isi_ii @Ev.isi_bi))))) (And.intro (And.intro (And.intro (And.intro @Ev.isi_tt (And.intro @Ev.isj_strn @Ev.isj_strb)) (And.intro @Ev.isj_stri (And.intro @Ev.isj_strs @Ev.isj_strt))) (And.intro (And.intro @Ev.isj_strl (And.intro @Ev.isj_intn @Ev.isj_intb)) (And.intro @Ev.isj_inti (And.intro @Ev.isj_ints @Ev.isj_intt)))) (And.intro (And.intro (And.intro @Ev.isj_intl (And.intro @Ev.isj_booln @Ev.isj_boolb)) (And.intro @Ev.isj_booli (And.intro @Ev.isj_bools @Ev.isj_boolt))) (And.intro (And.intro @Ev.isj_booll (And.intro @Ev.isj_listn @Ev.isj_listb)) (And.intro @Ev.isj_listi (And.intro @Ev.isj_lists @Ev.isj_listt))))))) (And.intro (And.intro (And.intro (And.intro (And.intro (And.intro @Ev.isj_listl @Ev.isj_tuplen) (And.intro @Ev.isj_tupleb (And.intro @Ev.isj_tuplei @Ev.isj_tuples))) (And.intro (And.intro @Ev.isj_tuplet (And.intro @Ev.isj_tuplel @Ev.isi_ll)) (And.intro @Ev.er_i (And.intro @Ev.er_s @Ev.er_b)))) (And.intro (And.intro (And.intro @Ev.er_n (And.intro @Ev.er_t @Ev.er_l)) (And.intro @Ev.ers_n (And.intro @Ev.ers_c @Ev.ers_ii))) (And.intro (And.intro @Ev.ers_ss (And.intro @Ev.lfr_i @Ev.lfr_s)) (And.intro @Ev.lfr_b (And.intro @Ev.lfr_n @Ev.lfr_t))))) (And.intro (And.intro (And.intro (And.intro @Ev.lfr_l (And.intro @Ev.lfrs_n @Ev.lfrs_c)) (And.intro @Ev.ret_nx (And.intro @Ev.ret_rt @Ev.c_mulL))) (And.intro (And.intro @Ev.c_mulR (And.intro @Ev.c_fdiv @Ev.c_mod)) (And.intro @Ev.szOk_t (And.intro @Ev.szLt_t @Ev.rngOk_t)))) (And.intro (And.intro (And.intro @Ev.x_i (And.intro @Ev.x_ss @Ev.x_c)) (And.intro @Ev.noX_k (And.intro @Ev.fz_t @Ev.fz_n))) (And.intro (And.intro @Ev.fz_f (And.intro @Ev.frz_n @Ev.frz_c)) (And.intro @Ev.vr_c (And.intro @Ev.vr_g @Ev.vr_v)))))) (And.intro (And.intro (And.intro (And.intro (And.intro @Ev.vr_bin (And.intro @Ev.vr_tup @Ev.vr_lst)) (And.intro @Ev.vr_call (And.intro @Ev.vr_bi @Ev.vr_idx))) (And.intro (And.intro @Ev.vr_mth (And.intro @Ev.vrs_n @Ev.vrs_c)) (And.intro @Ev.nl_comp (And.intro @Ev.nl_add @Ev.nl_sl)))) (And.intro (And.intro (And.intro @Ev.nl_list (And.intro @Ev.nl_v @Ev.nl_idx)) (And.intro @Ev.k_ll (And.intro @Ev.k_tt @cond_true.{1}))) (And.intro (And.intro @cond_false.{1} (And.intro @Ev.lf_i @Ev.lf_s)) (And.intro @List.contains_cons.{0} (And.intro @List.contains_nil.{0} @Bool.or_false))))) (And.intro (And.intro (And.intro (And.intro @Bool.or_true (And.intro @Bool.true_or @Bool.false_or)) (And.intro @List.map_cons.{0, 0} (And.intro @List.map_nil.{0, 0} @List.cons_append.{0}))) (And.intro (And.intro @List.nil_append.{0} (And.intro @List.replicate_succ.{0} @List.replicate_zero.{0})) (And.intro @List.length_cons.{0} (And.intro @List.length_nil.{0} @Nat.zero_add)))) (And.intro (And.intro (And.intro @decide_true (And.intro @Bool.and_self @Bool.not_true)) (And.intro @Bool.not_false (And.intro @Bool.and_true @Bool.true_and))) (And.intro (And.intro @Bool.and_false (And.intro @Bool.false_and @beq_self_eq_true.{0})) (And.intro @if_true.{1} (And.intro @if_false.{1} @Bool.false_eq_true))))))))) := ⟨⟨⟨⟨⟨⟨⟨⟨@Ev.bnd_k, @Ev.grd_t⟩, ⟨@Ev.if_t, ⟨@Ev.if_f, @Ev.r_c⟩⟩⟩, ⟨⟨@Ev.r_g, ⟨@Ev.r_v, @Ev.binK_k⟩⟩, ⟨@Ev.r_bin, ⟨@Ev.r_neg, @Ev.negD_i⟩⟩⟩⟩, ⟨⟨⟨@Ev.blK_k, ⟨@Ev.cmpK2_k, @Ev.cmpK_k⟩⟩, ⟨@Ev.r_cmp, ⟨@Ev.chK3_k, @Ev.chK2_k⟩⟩⟩, ⟨⟨@Ev.chK_k, ⟨@Ev.r_chain, @Ev.andK2_k⟩⟩, ⟨@Ev.andK_k, ⟨@Ev.r_and, @Ev.orK2_k⟩⟩⟩⟩⟩, ⟨⟨⟨⟨@Ev.orK_k, ⟨@Ev.r_or, @Ev.notK2_k⟩⟩, ⟨@Ev.notK_k, ⟨@Ev.r_not, @Ev.iteK2_k⟩⟩⟩, ⟨⟨@Ev.iteK_k, ⟨@Ev.r_ite, @Ev.tupK_k⟩⟩, ⟨@Ev.r_tup, ⟨@Ev.lstK_k, @Ev.r_lst⟩⟩⟩⟩, ⟨⟨⟨@Ev.idxK_k, ⟨@Ev.r_idx, @Ev.slK2_k⟩⟩, ⟨@Ev.slK_k, ⟨@Ev.r_sl, @Ev.callK_k⟩⟩⟩, ⟨⟨@Ev.r_call, ⟨@Ev.r_bi, @Ev.isiK_k⟩⟩, ⟨@Ev.r_ftx, ⟨@Ev.ftx_s, @Ev.r_isi⟩⟩⟩⟩⟩⟩, ⟨⟨⟨⟨⟨@Ev.mthK_k, @Ev.r_mth⟩, ⟨@Ev.lstT_k, ⟨@Ev.compK_k, @Ev.r_comp⟩⟩⟩, ⟨⟨@Ev.rs_n, ⟨@Ev.consK_k, @Ev.rsK_k⟩⟩, ⟨@Ev.rs_c, ⟨@Ev.intO_i, @Ev.ro_n⟩⟩⟩⟩, ⟨⟨⟨@Ev.ro_s, ⟨@Ev.ts_n, @Ev.tsK_k⟩⟩, ⟨@Ev.ts_c, ⟨@Ev.rng1D_i, @Ev.rng2D_i⟩⟩⟩, ⟨⟨@Ev.s_r1, ⟨@Ev.r2K_k, @Ev.s_r2⟩⟩, ⟨@Ev.s_val, ⟨@Ev.it_l, @Ev.it_t⟩⟩⟩⟩⟩, ⟨⟨⟨⟨@Ev.it_s, ⟨@Ev.t_t, @Ev.o_v⟩⟩, ⟨@Ev.otupK_k, ⟨@Ev.o_tup, @Ev.olstK_k⟩⟩⟩, ⟨⟨@Ev.o_lst, ⟨@Ev.oiteK_k, @Ev.o_ite⟩⟩, ⟨@Ev.ocallK2_k, ⟨@Ev.ocallK_k, @Ev.o_call⟩⟩⟩⟩, ⟨⟨⟨@Ev.keepK_k, ⟨@Ev.o_c, @Ev.o_g⟩⟩, ⟨@Ev.o_bin, ⟨@Ev.o_neg, @Ev.o_cmp⟩⟩⟩, ⟨⟨@Ev.o_chain, ⟨@Ev.o_and, @Ev.o_or⟩⟩, ⟨@Ev.o_not, ⟨@Ev.o_idx, @Ev.o_sl⟩⟩⟩⟩⟩⟩⟩, ⟨⟨⟨⟨⟨⟨@Ev.o_bi, @Ev.o_ftx⟩, ⟨@Ev.o_isi, ⟨@Ev.o_mth, @Ev.o_comp⟩⟩⟩, ⟨⟨@Ev.os_n, ⟨@Ev.osK2_k, @Ev.osK_k⟩⟩, ⟨@Ev.os_c, ⟨@Ev.smK_k, @Ev.bdK2_k⟩⟩⟩⟩, ⟨⟨⟨@Ev.bdK_k, ⟨@Ev.body_eq, @Ev.blk_eq⟩⟩, ⟨@Ev.k_i, ⟨@Ev.k_s, @Ev.k_b⟩⟩⟩, ⟨⟨@Ev.k_n, ⟨@Ev.nxK_k, @Ev.asgK_k⟩⟩, ⟨@Ev.st_asg, ⟨@Ev.appK_k, @Ev.app0_t⟩⟩⟩⟩⟩, ⟨⟨⟨⟨@Ev.appD_t, ⟨@Ev.st_app, @Ev.expK_k⟩⟩, ⟨@Ev.st_exp, ⟨@Ev.rtK_k, @Ev.st_ret⟩⟩⟩, ⟨⟨@Ev.st_retN, ⟨@Ev.ifK_k, @Ev.st_if⟩⟩, ⟨@Ev.forK_k, ⟨@Ev.st_for, @Ev.st_tryn⟩⟩⟩⟩, ⟨⟨⟨@Ev.tryK_k, ⟨@Ev.noX_f, @Ev.st_brk⟩⟩, ⟨@Ev.st_cnt, ⟨@Ev.st_pass, @Ev.ss_n⟩⟩⟩, ⟨⟨@Ev.ss_c, ⟨@Ev.sq_nx, @Ev.sq_ct⟩⟩, ⟨@Ev.sq_bk, ⟨@Ev.sq_rt, @Ev.srcK_k⟩⟩⟩⟩⟩⟩, ⟨⟨⟨⟨⟨@Ev.srcvK_k, ⟨@Ev.src_1, @Ev.src_2⟩⟩, ⟨@Ev.src_v, ⟨@Ev.for_n, @Ev.for_c⟩⟩⟩, ⟨⟨@Ev.ff_nx, ⟨@Ev.ff_ct, @Ev.ff_bk⟩⟩, ⟨@Ev.ff_rt, ⟨@Ev.t_nm, @Ev.t_tp⟩⟩⟩⟩, ⟨⟨⟨@Ev.t_tl, ⟨@Ev.ts'_n, @Ev.ts'_c⟩⟩, ⟨@Ev.sl_0, ⟨@Ev.sl_s, @Ev.set_0⟩⟩⟩, ⟨⟨@Ev.set_s, ⟨@Ev.b_add, @Ev.b_adds⟩⟩, ⟨@Ev.b_addl, ⟨@Ev.b_sub, @Ev.x_t⟩⟩⟩⟩⟩, ⟨⟨⟨⟨@Ev.sl_l, ⟨@Ev.sl_t, @Ev.sl_u⟩⟩, ⟨@Ev.tr_n, ⟨@Ev.tr_b, @Ev.tr_i⟩⟩⟩, ⟨⟨@Ev.c_eq, ⟨@Ev.notB_k, @Ev.c_ne⟩⟩, ⟨@Ev.e_ii, ⟨@Ev.e_ss, @Ev.e_bb⟩⟩⟩⟩, ⟨⟨⟨@Ev.e_nn, ⟨@Ev.e_ni, @Ev.e_in⟩⟩, ⟨@Ev.ej_nb, ⟨@Ev.ej_ni, @Ev.ej_ns⟩⟩⟩, ⟨⟨@Ev.ej_nt, ⟨@Ev.ej_nl, @Ev.ej_bn⟩⟩, ⟨@Ev.ej_bs, ⟨@Ev.ej_bt, @Ev.ej_bl⟩⟩⟩⟩⟩⟩⟩⟩, ⟨⟨⟨⟨⟨⟨⟨@Ev.ej_in, @Ev.ej_is⟩, ⟨@Ev.ej_it, ⟨@Ev.ej_il, @Ev.ej_sn⟩⟩⟩, ⟨⟨@Ev.ej_sb, ⟨@Ev.ej_si, @Ev.ej_st⟩⟩, ⟨@Ev.ej_sl, ⟨@Ev.ej_tn, @Ev.ej_tb⟩⟩⟩⟩, ⟨⟨⟨@Ev.ej_ti, ⟨@Ev.ej_ts, @Ev.ej_tl⟩⟩, ⟨@Ev.ej_ln, ⟨@Ev.ej_lb, @Ev.ej_li⟩⟩⟩, ⟨⟨@Ev.ej_ls, ⟨@Ev.ej_lt, @Ev.e_tt⟩⟩, ⟨@Ev.e_ll, ⟨@Ev.es_n, @Ev.andB_k⟩⟩⟩⟩⟩, ⟨⟨⟨⟨@Ev.esK_k, ⟨@Ev.es_c, @Ev.es_l⟩⟩, ⟨@Ev.es_r, ⟨@Ev.c_lt, @Ev.c_le⟩⟩⟩, ⟨⟨@Ev.c_gt, ⟨@Ev.c_ge, @Ev.c_ins⟩⟩, ⟨@Ev.c_nins, ⟨@Ev.c_inl, @Ev.c_ninl⟩⟩⟩⟩, ⟨⟨⟨@Ev.c_is, ⟨@Ev.c_isn, @Ev.n_n⟩⟩, ⟨@Ev.n_i, ⟨@Ev.n_s, @Ev.n_b⟩⟩⟩, ⟨⟨@Ev.n_t, ⟨@Ev.n_l, @Ev.c_int⟩⟩, ⟨@Ev.c_nint, ⟨@Ev.an_n, @Ev.orBB_k⟩⟩⟩⟩⟩⟩, ⟨⟨⟨⟨⟨@Ev.anK_k, @Ev.an_c⟩, ⟨@Ev.bi_ls, ⟨@Ev.bi_lt, @Ev.bi_ll⟩⟩⟩, ⟨⟨@Ev.bi_min, ⟨@Ev.bi_max, @Ev.bi_inti⟩⟩, ⟨@Ev.bi_intb, ⟨@Ev.bi_listl, @Ev.bi_lists⟩⟩⟩⟩, ⟨⟨⟨@Ev.bi_listt, ⟨@Ev.bi_str, @Ev.bi_ints⟩⟩, ⟨@Ev.bi_abs, ⟨@Ev.bi_any, @Ev.bi_all⟩⟩⟩, ⟨⟨@Ev.mt_split, ⟨@Ev.mt_starts, @Ev.str_t⟩⟩, ⟨@Ev.isi_si, ⟨@Ev.isi_ii, @Ev.isi_bi⟩⟩⟩⟩⟩, ⟨⟨⟨⟨@Ev.isi_tt, ⟨@Ev.isj_strn, @Ev.isj_strb⟩⟩, ⟨@Ev.isj_stri, ⟨@Ev.isj_strs, @Ev.isj_strt⟩⟩⟩, ⟨⟨@Ev.isj_strl, ⟨@Ev.isj_intn, @Ev.isj_intb⟩⟩, ⟨@Ev.isj_inti, ⟨@Ev.isj_ints, @Ev.isj_intt⟩⟩⟩⟩, ⟨⟨⟨@Ev.isj_intl, ⟨@Ev.isj_booln, @Ev.isj_boolb⟩⟩, ⟨@Ev.isj_booli, ⟨@Ev.isj_bools, @Ev.isj_boolt⟩⟩⟩, ⟨⟨@Ev.isj_booll, ⟨@Ev.isj_listn, @Ev.isj_listb⟩⟩, ⟨@Ev.isj_listi, ⟨@Ev.isj_lists, @Ev.isj_listt⟩⟩⟩⟩⟩⟩⟩, ⟨⟨⟨⟨⟨⟨@Ev.isj_listl, @Ev.isj_tuplen⟩, ⟨@Ev.isj_tupleb, ⟨@Ev.isj_tuplei, @Ev.isj_tuples⟩⟩⟩, ⟨⟨@Ev.isj_tuplet, ⟨@Ev.isj_tuplel, @Ev.isi_ll⟩⟩, ⟨@Ev.er_i, ⟨@Ev.er_s, @Ev.er_b⟩⟩⟩⟩, ⟨⟨⟨@Ev.er_n, ⟨@Ev.er_t, @Ev.er_l⟩⟩, ⟨@Ev.ers_n, ⟨@Ev.ers_c, @Ev.ers_ii⟩⟩⟩, ⟨⟨@Ev.ers_ss, ⟨@Ev.lfr_i, @Ev.lfr_s⟩⟩, ⟨@Ev.lfr_b, ⟨@Ev.lfr_n, @Ev.lfr_t⟩⟩⟩⟩⟩, ⟨⟨⟨⟨@Ev.lfr_l, ⟨@Ev.lfrs_n, @Ev.lfrs_c⟩⟩, ⟨@Ev.ret_nx, ⟨@Ev.ret_rt, @Ev.c_mulL⟩⟩⟩, ⟨⟨@Ev.c_mulR, ⟨@Ev.c_fdiv, @Ev.c_mod⟩⟩, ⟨@Ev.szOk_t, ⟨@Ev.szLt_t, @Ev.rngOk_t⟩⟩⟩⟩, ⟨⟨⟨@Ev.x_i, ⟨@Ev.x_ss, @Ev.x_c⟩⟩, ⟨@Ev.noX_k, ⟨@Ev.fz_t, @Ev.fz_n⟩⟩⟩, ⟨⟨@Ev.fz_f, ⟨@Ev.frz_n, @Ev.frz_c⟩⟩, ⟨@Ev.vr_c, ⟨@Ev.vr_g, @Ev.vr_v⟩⟩⟩⟩⟩⟩, ⟨⟨⟨⟨⟨@Ev.vr_bin, ⟨@Ev.vr_tup, @Ev.vr_lst⟩⟩, ⟨@Ev.vr_call, ⟨@Ev.vr_bi, @Ev.vr_idx⟩⟩⟩, ⟨⟨@Ev.vr_mth, ⟨@Ev.vrs_n, @Ev.vrs_c⟩⟩, ⟨@Ev.nl_comp, ⟨@Ev.nl_add, @Ev.nl_sl⟩⟩⟩⟩, ⟨⟨⟨@Ev.nl_list, ⟨@Ev.nl_v, @Ev.nl_idx⟩⟩, ⟨@Ev.k_ll, ⟨@Ev.k_tt, @cond_true.{1}⟩⟩⟩, ⟨⟨@cond_false.{1}, ⟨@Ev.lf_i, @Ev.lf_s⟩⟩, ⟨@List.contains_cons.{0}, ⟨@List.contains_nil.{0}, @Bool.or_false⟩⟩⟩⟩⟩, ⟨⟨⟨⟨@Bool.or_true, ⟨@Bool.true_or, @Bool.false_or⟩⟩, ⟨@List.map_cons.{0, 0}, ⟨@List.map_nil.{0, 0}, @List.cons_append.{0}⟩⟩⟩, ⟨⟨@List.nil_append.{0}, ⟨@List.replicate_succ.{0}, @List.replicate_zero.{0}⟩⟩, ⟨@List.length_cons.{0}, ⟨@List.length_nil.{0}, @Nat.zero_add⟩⟩⟩⟩, ⟨⟨⟨@decide_true, ⟨@Bool.and_self, @Bool.not_true⟩⟩, ⟨@Bool.not_false, ⟨@Bool.and_true, @Bool.true_and⟩⟩⟩, ⟨⟨@Bool.and_false, ⟨@Bool.false_and, @beq_self_eq_true.{0}⟩⟩, ⟨@if_true.{1}, ⟨@if_false.{1}, @Bool.false_eq_true⟩⟩⟩⟩⟩⟩⟩⟩⟩
end L2
namespace L2
open PySem
namespace Fr
noncomputable def bCell : List IS := [(.if_ (.cmp .lt (.v 1) (.bi .len [(.v 0)])) [(.ret (.idx (.v 0) (.v 1)))] []), (.ret (.c (.int 0)))]
end Fr
end L2
namespace Law
open PySem L2
noncomputable def top (i : Nat) : Stmt := PySem.Challenge.pw_flagroll_k17_shown_and_read.main.body.getD i (.Pass ⟨0, 0, 0, 0⟩)
noncomputable def Z : Sg := { nm := ["LETTERS", "FIGURES", "SIGNS", "WORDS", "MOST_THINGS", "GREATEST_TOLD", "LONGEST_TOLD", "LONGEST_NAME", "MOST_FIGURES", "is_whole", "is_text_of", "is_told_text", "is_told_number", "things_go", "cond_checked", "show_thing", "show_cond", "is_written_number", "read_thing", "read_cond", "_law_cell_at", "_law_stream", "_law_names", "_law_told", "_law_cond", "_law_line", "_law_same", "law"], kst := [(18, (.str "abcdefghijklmnopqrstuvwxyz")), (19, (.str "0123456789")), (20, (.str "abcdefghijklmnopqrstuvwxyz0123456789")), (21, (.tup [(.str "is"), (.str "not"), (.str "begins"), (.str "least"), (.str "most"), (.str "has"), (.str "lacks"), (.str "in"), (.str "out")])), (22, (.int 10)), (23, (.int 999999999)), (24, (.int 8)), (25, (.int 8)), (26, (.int 9))], fns := [27, 28, 29, 30, 31, 32, 33, 34, 35, 36, 37, 38, 39, 40, 41, 42, 43, 44, 45] }
noncomputable def b27 : List IS :=
  [(.ret (.and_ (.isi (.v 0) .int) (.not_ (.isi (.v 0) .bool))))]
noncomputable def d27 : Fn := { np := 1, G := { N := ["thing"], kd := [.local], gl := [14, 8, 16], df := true }, body := b27 }
noncomputable def b28 : List IS :=
  [(.if_ (.not_ (.isi (.v 0) .str)) [(.ret (.c (.bl false)))] []), (.if_ (.not_ (.chain .le .le (.v 2) (.bi .len [(.v 0)]) (.v 3))) [(.ret (.c (.bl false)))] []), (.ret (.bi .all [(.comp { N := ["signs", "sign"], kd := [.cell, .local], gl := [], df := false } [1] (.nm 1) (.val (.v 0)) [] (.cmp .in_ (.v 1) (.v 0)))]))]
noncomputable def d28 : Fn := { np := 4, G := { N := ["thing", "signs", "least", "most"], kd := [.local, .cell, .local, .local], gl := [14, 11, 0, 9], df := true }, body := b28 }
noncomputable def b29 : List IS :=
  [(.ret (.call 28 [(.v 0), (.g 20 (.str "abcdefghijklmnopqrstuvwxyz0123456789")), (.v 1), (.g 24 (.int 8))]))]
noncomputable def d29 : Fn := { np := 2, G := { N := ["thing", "least"], kd := [.local, .local], gl := [28, 20, 24], df := true }, body := b29 }
noncomputable def b30 : List IS :=
  [(.ret (.and_ (.call 27 [(.v 0)]) (.cmp .le (.bi .abs [(.v 0)]) (.g 23 (.int 999999999)))))]
noncomputable def d30 : Fn := { np := 1, G := { N := ["thing"], kd := [.local], gl := [27, 13, 23], df := true }, body := b30 }
noncomputable def b31 : List IS :=
  [(.if_ (.or_ (.cmp .eq (.v 0) (.c (.str "is"))) (.cmp .eq (.v 0) (.c (.str "not")))) [(.asg (.nm 2) (.comp { N := ["thing"], kd := [.local], gl := [29, 30], df := false } [] (.nm 0) (.val (.v 1)) [] (.or_ (.call 29 [(.v 0), (.c (.int 0))]) (.call 30 [(.v 0)])))), (.ret (.and_ (.chain .le .le (.c (.int 1)) (.bi .len [(.v 1)]) (.g 22 (.int 10))) (.bi .all [(.v 2)])))] []), (.if_ (.cmp .eq (.v 0) (.c (.str "begins"))) [(.ret (.and_ (.chain .le .le (.c (.int 1)) (.bi .len [(.v 1)]) (.g 22 (.int 10))) (.bi .all [(.comp { N := ["thing"], kd := [.local], gl := [29], df := false } [] (.nm 0) (.val (.v 1)) [] (.call 29 [(.v 0), (.c (.int 1))]))])))] []), (.if_ (.or_ (.cmp .eq (.v 0) (.c (.str "least"))) (.cmp .eq (.v 0) (.c (.str "most")))) [(.ret (.and_ (.cmp .eq (.bi .len [(.v 1)]) (.c (.int 1))) (.call 30 [(.idx (.v 1) (.c (.int 0)))])))] []), (.ret (.cmp .eq (.v 1) (.lst [])))]
noncomputable def d31 : Fn := { np := 2, G := { N := ["word", "things", "fits"], kd := [.local, .local, .local], gl := [0, 22, 9, 30], df := true }, body := b31 }
noncomputable def b32 : List IS :=
  [(.asg (.nm 2) (.idx (.v 0) (.c (.int 0)))), (.asg (.nm 3) (.idx (.v 0) (.c (.int 1)))), (.if_ (.cmp .nin (.v 3) (.g 21 (.tup [(.str "is"), (.str "not"), (.str "begins"), (.str "least"), (.str "most"), (.str "has"), (.str "lacks"), (.str "in"), (.str "out")]))) [.never] []), (.if_ (.and_ (.or_ (.cmp .eq (.v 3) (.c (.str "in"))) (.cmp .eq (.v 3) (.c (.str "out")))) (.cmp .nin (.v 2) (.v 1))) [.never] []), (.if_ (.not_ (.call 31 [(.v 3), (.idx (.v 0) (.c (.int 2)))])) [.never] []), (.ret (.c (.bl true)))]
noncomputable def d32 : Fn := { np := 2, G := { N := ["cond", "names", "name", "word"], kd := [.local, .local, .local, .local], gl := [21, 31], df := true }, body := b32 }
noncomputable def b33 : List IS :=
  [(.ret (.ite (.isi (.v 0) .str) (.ftx "." (.v 0)) (.bi .str [(.v 0)])))]
noncomputable def d33 : Fn := { np := 1, G := { N := ["thing"], kd := [.local], gl := [14, 11], df := true }, body := b33 }
noncomputable def b34 : List IS :=
  [(.ret (.mth .join (.c (.str " ")) [(.bin .add (.lst [(.idx (.v 0) (.c (.int 0))), (.idx (.v 0) (.c (.int 1)))]) (.comp { N := ["thing"], kd := [.local], gl := [33], df := false } [] (.nm 0) (.val (.idx (.v 0) (.c (.int 2)))) [] (.call 33 [(.v 0)])))]))]
noncomputable def d34 : Fn := { np := 1, G := { N := ["cond"], kd := [.local], gl := [], df := true }, body := b34 }
noncomputable def b35 : List IS :=
  [(.asg (.nm 1) (.ite (.mth .starts (.v 0) [(.c (.str "-"))]) (.sl (.v 0) (some (.c (.int 1))) none) (.v 0))), (.if_ (.not_ (.call 28 [(.v 1), (.g 19 (.str "0123456789")), (.c (.int 1)), (.g 26 (.int 9))])) [(.ret (.c (.bl false)))] []), (.ret (.or_ (.cmp .eq (.v 0) (.c (.str "0"))) (.not_ (.mth .starts (.v 1) [(.c (.str "0"))]))))]
noncomputable def d35 : Fn := { np := 1, G := { N := ["part", "figures"], kd := [.local, .local], gl := [28, 19, 26], df := true }, body := b35 }
noncomputable def b36 : List IS :=
  [(.if_ (.mth .starts (.v 0) [(.c (.str "."))]) [(.ret (.sl (.v 0) (some (.c (.int 1))) none))] []), (.if_ (.not_ (.call 35 [(.v 0)])) [.never] []), (.ret (.bi .int [(.v 0)]))]
noncomputable def d36 : Fn := { np := 1, G := { N := ["part"], kd := [.local], gl := [35, 8], df := true }, body := b36 }
noncomputable def b37 : List IS :=
  [(.asg (.nm 1) (.mth .split (.v 0) [(.c (.str " "))])), (.if_ (.cmp .lt (.bi .len [(.v 1)]) (.c (.int 2))) [.never] []), (.asg (.nm 2) (.idx (.v 1) (.c (.int 0)))), (.if_ (.not_ (.call 28 [(.v 2), (.g 18 (.str "abcdefghijklmnopqrstuvwxyz")), (.c (.int 1)), (.g 25 (.int 8))])) [.never] []), (.asg (.nm 3) (.tup [(.v 2), (.idx (.v 1) (.c (.int 1))), (.comp { N := ["part"], kd := [.local], gl := [36], df := false } [] (.nm 0) (.val (.sl (.v 1) (some (.c (.int 2))) none)) [] (.call 36 [(.v 0)]))])), (.tryn [(.exp (.call 32 [(.v 3), (.lst [(.v 2)])]))]), (.ret (.v 3))]
noncomputable def d37 : Fn := { np := 1, G := { N := ["line", "parts", "name", "cond"], kd := [.local, .local, .local, .local], gl := [0, 28, 18, 25, 32], df := true }, body := b37 }
noncomputable def b38 : List IS :=
  [(.if_ (.cmp .lt (.v 1) (.bi .len [(.v 0)])) [(.ret (.idx (.v 0) (.v 1)))] []), (.ret (.c (.int 0)))]
noncomputable def d38 : Fn := { np := 2, G := { N := ["_law_script", "_law_k"], kd := [.local, .local], gl := [0], df := true }, body := b38 }
noncomputable def b39 : List IS :=
  [(.asg (.nm 2) (.lst [])), (.asg (.nm 3) (.bin .add (.bin .mod (.v 0) (.c (.int 2147483647))) (.c (.int 1)))), (.for_ (.nm 4) (.rng1 (.v 1)) [(.asg (.nm 3) (.bin .mod (.bin .add (.bin .add (.bin .mul (.v 3) (.c (.int 48271))) (.bin .mul (.bin .mul (.c (.int 7)) (.v 4)) (.v 4))) (.c (.int 3))) (.c (.int 2147483647)))), (.app 2 (.bin .fdiv (.v 3) (.c (.int 16))))]), (.ret (.v 2))]
noncomputable def d39 : Fn := { np := 2, G := { N := ["_law_cell", "_law_many", "_law_found", "_law_number", "_law_k"], kd := [.local, .local, .local, .local, .local], gl := [15], df := true }, body := b39 }
noncomputable def b40 : List IS :=
  [(.asg (.nm 2) (.c (.str "abcdefghijklmnopqrstuvwxyz"))), (.asg (.nm 3) (.mth .join (.c (.str "")) [(.comp { N := ["_law_abc", "_law_number"], kd := [.cell, .local], gl := [], df := false } [2] (.nm 1) (.val (.call 39 [(.bin .fdiv (.v 0) (.c (.int 3))), (.c (.int 8))])) [] (.idx (.v 0) (.bin .mod (.v 1) (.c (.int 26)))))])), (.if_ (.and_ (.cmp .eq (.bin .mod (.v 0) (.c (.int 3))) (.c (.int 1))) (.cmp .le (.v 1) (.c (.int 8)))) [(.ret (.comp { N := ["_law_base", "_law_k"], kd := [.cell, .local], gl := [], df := false } [3] (.nm 1) (.rng1 (.v 1)) [] (.sl (.v 0) none (some (.bin .add (.v 1) (.c (.int 1)))))))] []), (.asg (.nm 3) (.sl (.v 3) none (some (.bin .add (.c (.int 1)) (.bin .mod (.bin .fdiv (.v 0) (.c (.int 3))) (.c (.int 8))))))), (.asg (.nm 4) (.bin .mod (.bin .fdiv (.v 0) (.c (.int 24))) (.bi .len [(.v 3)]))), (.ret (.comp { N := ["_law_base", "_law_at", "_law_abc", "_law_cell", "_law_k"], kd := [.cell, .cell, .cell, .cell, .local], gl := [], df := false } [3, 4, 2, 0] (.nm 4) (.rng1 (.v 1)) [] (.bin .add (.bin .add (.sl (.v 0) none (some (.v 1))) (.idx (.v 2) (.bin .mod (.bin .add (.bin .fdiv (.v 3) (.c (.int 3))) (.bin .mul (.c (.int 7)) (.v 4))) (.c (.int 26))))) (.sl (.v 0) (some (.bin .add (.v 1) (.c (.int 1)))) none))))]
noncomputable def d40 : Fn := { np := 2, G := { N := ["_law_cell", "_law_many", "_law_abc", "_law_base", "_law_at"], kd := [.cell, .local, .cell, .cell, .cell], gl := [39, 15, 0], df := true }, body := b40 }
noncomputable def b41 : List IS :=
  [(.asg (.nm 2) (.call 39 [(.v 0), (.c (.int 10))])), (.asg (.nm 3) (.c (.str "abcdefghijklmnopqrstuvwxyz0123456789"))), (.if_ (.or_ (.cmp .eq (.v 1) (.c (.str "number"))) (.and_ (.cmp .eq (.v 1) (.c (.str "any"))) (.cmp .eq (.bin .mod (.idx (.v 2) (.c (.int 0))) (.c (.int 3))) (.c (.int 0))))) [(.asg (.nm 4) (.idx (.lst [(.c (.int 4)), (.c (.int 999999999))]) (.bin .mod (.idx (.v 2) (.c (.int 1))) (.c (.int 2))))), (.ret (.idx (.lst [(.bin .sub (.bin .mod (.idx (.v 2) (.c (.int 2))) (.bin .add (.bin .mul (.c (.int 2)) (.v 4)) (.c (.int 1)))) (.v 4)), (.v 4), (.bin .sub (.c (.int 0)) (.v 4))]) (.bin .mod (.idx (.v 2) (.c (.int 3))) (.c (.int 3)))))] []), (.asg (.nm 5) (.mth .join (.c (.str "")) [(.comp { N := ["_law_signs", "_law_xs", "_law_number"], kd := [.cell, .cell, .local], gl := [], df := false } [3, 2] (.nm 2) (.val (.sl (.v 2) (some (.c (.int 2))) (some (.c (.int 10))))) [] (.idx (.v 0) (.bin .mod (.v 2) (.idx (.lst [(.c (.int 2)), (.c (.int 36))]) (.bin .fdiv (.bin .mod (.idx (.v 1) (.c (.int 1))) (.c (.int 4))) (.c (.int 3)))))))])), (.if_ (.cmp .eq (.v 1) (.c (.str "begins"))) [(.ret (.sl (.v 5) none (some (.bin .add (.c (.int 1)) (.bin .mod (.bin .fdiv (.idx (.v 2) (.c (.int 0))) (.c (.int 3))) (.idx (.lst [(.c (.int 3)), (.c (.int 8))]) (.bin .mod (.idx (.v 2) (.c (.int 2))) (.c (.int 2)))))))))] []), (.ret (.sl (.v 5) none (some (.bin .mod (.bin .fdiv (.idx (.v 2) (.c (.int 0))) (.c (.int 3))) (.idx (.lst [(.c (.int 4)), (.c (.int 9))]) (.bin .mod (.idx (.v 2) (.c (.int 2))) (.c (.int 2))))))))]
noncomputable def d41 : Fn := { np := 2, G := { N := ["_law_cell", "_law_kind", "_law_xs", "_law_signs", "_law_far", "_law_text"], kd := [.local, .local, .cell, .cell, .local, .local], gl := [39], df := true }, body := b41 }
noncomputable def b42 : List IS :=
  [(.asg (.nm 3) (.lst [(.c (.str "is")), (.c (.str "not")), (.c (.str "begins")), (.c (.str "least")), (.c (.str "most")), (.c (.str "has")), (.c (.str "lacks")), (.c (.str "in")), (.c (.str "out"))])), (.asg (.nm 4) (.call 39 [(.v 0), (.c (.int 4))])), (.asg (.nm 5) (.idx (.v 3) (.bin .mod (.idx (.v 4) (.c (.int 0))) (.idx (.lst [(.c (.int 9)), (.c (.int 7))]) (.bi .int [(.cmp .eq (.v 2) (.lst []))]))))), (.asg (.nm 6) (.idx (.v 1) (.bin .mod (.idx (.v 4) (.c (.int 1))) (.bi .len [(.v 1)])))), (.if_ (.or_ (.cmp .eq (.v 5) (.c (.str "in"))) (.cmp .eq (.v 5) (.c (.str "out")))) [(.ret (.tup [(.idx (.v 2) (.bin .mod (.idx (.v 4) (.c (.int 1))) (.bi .len [(.v 2)]))), (.v 5), (.lst [])]))] []), (.if_ (.or_ (.cmp .eq (.v 5) (.c (.str "has"))) (.cmp .eq (.v 5) (.c (.str "lacks")))) [(.ret (.tup [(.v 6), (.v 5), (.lst [])]))] []), (.if_ (.or_ (.cmp .eq (.v 5) (.c (.str "least"))) (.cmp .eq (.v 5) (.c (.str "most")))) [(.ret (.tup [(.v 6), (.v 5), (.lst [(.call 41 [(.bin .fdiv (.v 0) (.c (.int 5))), (.c (.str "number"))])])]))] []), (.asg (.nm 7) (.idx (.lst [(.bin .add (.c (.int 1)) (.bin .mod (.idx (.v 4) (.c (.int 2))) (.c (.int 3)))), (.bin .add (.c (.int 1)) (.bin .mod (.idx (.v 4) (.c (.int 2))) (.c (.int 10))))]) (.bin .fdiv (.bin .mod (.idx (.v 4) (.c (.int 3))) (.c (.int 4))) (.c (.int 3))))), (.asg (.nm 8) (.idx (.lst [(.c (.str "any")), (.c (.str "begins"))]) (.bi .int [(.cmp .eq (.v 5) (.c (.str "begins")))]))), (.ret (.tup [(.v 6), (.v 5), (.comp { N := ["_law_cell", "_law_kind", "_law_k"], kd := [.cell, .cell, .local], gl := [41], df := false } [0, 8] (.nm 2) (.rng1 (.v 7)) [] (.call 41 [(.bin .add (.bin .fdiv (.v 0) (.c (.int 5))) (.bin .mul (.c (.int 31)) (.v 2))), (.v 1)]))]))]
noncomputable def d42 : Fn := { np := 3, G := { N := ["_law_cell", "_law_names_here", "_law_groups", "_law_words", "_law_xs", "_law_word", "_law_name", "_law_many", "_law_kind"], kd := [.cell, .local, .local, .local, .local, .local, .local, .local, .cell], gl := [39, 8, 0, 41, 15], df := true }, body := b42 }
noncomputable def b43 : List IS :=
  [(.asg (.nm 1) (.bin .add (.bin .add (.idx (.v 0) (.c (.int 0))) (.c (.str " "))) (.idx (.v 0) (.c (.int 1))))), (.for_ (.nm 2) (.val (.idx (.v 0) (.c (.int 2)))) [(.if_ (.isi (.v 2) .str) [(.asg (.nm 1) (.bin .add (.bin .add (.v 1) (.c (.str " ."))) (.v 2)))] [(.asg (.nm 1) (.bin .add (.bin .add (.bin .add (.v 1) (.c (.str " "))) (.idx (.lst [(.c (.str "")), (.c (.str "-"))]) (.bi .int [(.cmp .lt (.v 2) (.c (.int 0)))]))) (.bi .str [(.bi .abs [(.v 2)])])))])]), (.ret (.v 1))]
noncomputable def d43 : Fn := { np := 1, G := { N := ["_law_cond_here", "_law_line_here", "_law_thing"], kd := [.local, .local, .local], gl := [14, 11, 8, 13], df := true }, body := b43 }
noncomputable def b44 : List IS :=
  [(.if_ (.or_ (.not_ (.isi (.v 0) .tuple)) (.or_ (.cmp .ne (.bi .len [(.v 0)]) (.c (.int 3))) (.cmp .ne (.sl (.v 0) none (some (.c (.int 2)))) (.sl (.v 1) none (some (.c (.int 2))))))) [(.ret (.c (.bl false)))] []), (.if_ (.or_ (.not_ (.isi (.idx (.v 0) (.c (.int 0))) .str)) (.or_ (.not_ (.isi (.idx (.v 0) (.c (.int 1))) .str)) (.not_ (.isi (.idx (.v 0) (.c (.int 2))) .list)))) [(.ret (.c (.bl false)))] []), (.if_ (.cmp .ne (.comp { N := ["_law_thing"], kd := [.local], gl := [14, 11], df := false } [] (.nm 0) (.val (.idx (.v 0) (.c (.int 2)))) [] (.isi (.v 0) .str)) (.comp { N := ["_law_thing"], kd := [.local], gl := [14, 11], df := false } [] (.nm 0) (.val (.idx (.v 1) (.c (.int 2)))) [] (.isi (.v 0) .str))) [(.ret (.c (.bl false)))] []), (.ret (.and_ (.cmp .eq (.idx (.v 0) (.c (.int 2))) (.idx (.v 1) (.c (.int 2)))) (.cmp .eq (.comp { N := ["_law_thing"], kd := [.local], gl := [14, 16], df := false } [] (.nm 0) (.val (.idx (.v 0) (.c (.int 2)))) [(.isi (.v 0) .bool)] (.v 0)) (.lst []))))]
noncomputable def d44 : Fn := { np := 2, G := { N := ["_law_found", "_law_cond_here"], kd := [.local, .local], gl := [14, 6, 0, 11, 5], df := true }, body := b44 }
noncomputable def b45 : List IS :=
  [(.asg (.nm 1) (.call 40 [(.bin .fdiv (.call 38 [(.v 0), (.c (.int 0))]) (.c (.int 5))), (.c (.int 6))])), (.for_ (.nm 2) (.rng1 (.c (.int 8))) [(.asg (.nm 3) (.call 42 [(.bin .add (.call 38 [(.v 0), (.v 2)]) (.bin .mul (.c (.int 23)) (.v 2))), (.sl (.v 1) none (some (.c (.int 3)))), (.sl (.v 1) (some (.c (.int 3))) none)])), (.asg (.nm 4) (.tup [(.idx (.v 3) (.c (.int 0))), (.idx (.v 3) (.c (.int 1))), (.bi .list [(.idx (.v 3) (.c (.int 2)))])])), (.asg (.nm 5) (.call 34 [(.v 4)])), (.if_ (.or_ (.not_ (.isi (.v 5) .str)) (.or_ (.cmp .ne (.v 5) (.call 43 [(.v 3)])) (.cmp .ne (.v 4) (.v 3)))) [(.ret (.c (.bl false)))] []), (.if_ (.not_ (.call 44 [(.call 37 [(.v 5)]), (.v 3)])) [(.ret (.c (.bl false)))] [])]), (.ret (.c (.bl true)))]
noncomputable def d45 : Fn := { np := 1, G := { N := ["_law_script", "_law_names_here", "_law_k", "_law_cond_here", "_law_handed", "_law_line_here"], kd := [.local, .local, .local, .local, .local, .local], gl := [40, 38, 15, 42, 5, 34, 14, 11, 43, 44, 37], df := true }, body := b45 }
noncomputable def T : Tb := fun n => match n with
  | 27 => some d27
  | 28 => some d28
  | 29 => some d29
  | 30 => some d30
  | 31 => some d31
  | 32 => some d32
  | 33 => some d33
  | 34 => some d34
  | 35 => some d35
  | 36 => some d36
  | 37 => some d37
  | 38 => some d38
  | 39 => some d39
  | 40 => some d40
  | 41 => some d41
  | 42 => some d42
  | 43 => some d43
  | 44 => some d44
  | 45 => some d45
  | _ => none
theorem c27 : chkDef Z d27 ["thing"] (top 10) = true := by decide +kernel
theorem c28 : chkDef Z d28 ["thing", "signs", "least", "most"] (top 11) = true := by decide +kernel
theorem c29 : chkDef Z d29 ["thing", "least"] (top 17) = true := by decide +kernel
theorem c30 : chkDef Z d30 ["thing"] (top 18) = true := by decide +kernel
theorem c31 : chkDef Z d31 ["word", "things"] (top 19) = true := by decide +kernel
theorem c32 : chkDef Z d32 ["cond", "names"] (top 20) = true := by decide +kernel
theorem c33 : chkDef Z d33 ["thing"] (top 24) = true := by decide +kernel
theorem c34 : chkDef Z d34 ["cond"] (top 25) = true := by decide +kernel
theorem c35 : chkDef Z d35 ["part"] (top 26) = true := by decide +kernel
theorem c36 : chkDef Z d36 ["part"] (top 27) = true := by decide +kernel
theorem c37 : chkDef Z d37 ["line"] (top 28) = true := by decide +kernel
theorem c38 : chkDef Z d38 ["_law_script", "_law_k"] (top 30) = true := by decide +kernel
theorem c39 : chkDef Z d39 ["_law_cell", "_law_many"] (top 31) = true := by decide +kernel
theorem c40 : chkDef Z d40 ["_law_cell", "_law_many"] (top 32) = true := by decide +kernel
theorem c41 : chkDef Z d41 ["_law_cell", "_law_kind"] (top 33) = true := by decide +kernel
theorem c42 : chkDef Z d42 ["_law_cell", "_law_names_here", "_law_groups"] (top 34) = true := by decide +kernel
theorem c43 : chkDef Z d43 ["_law_cond_here"] (top 35) = true := by decide +kernel
theorem c44 : chkDef Z d44 ["_law_found", "_law_cond_here"] (top 36) = true := by decide +kernel
theorem c45 : chkDef Z d45 ["_law_script"] (top 37) = true := by decide +kernel
theorem nam_ok : ∀ n x, Z.name n = some x → x ≠ "__name__" ∧ (x == ("__debug__" : Str)) = false := by
  have h : (bnames ++ Z.nm).all (fun x => !(x == "__name__") && !(x == "__debug__")) = true := by decide +kernel
  intro n x hx
  have := List.all_eq_true.mp h x (List.mem_of_getElem? hx)
  simpa using this
theorem ln1 {fd : FuncData} {ps : List Str} (h : ∀ x0 : Value, bindArgs fd ⟨[x0], []⟩ = pure (ps.zip [x0])) (us : List Value) (e : us.length = 1) : bindArgs fd ⟨us, []⟩ = pure (ps.zip us) := by
  match us, e with
  | [x0], _ => exact h x0
theorem ln2 {fd : FuncData} {ps : List Str} (h : ∀ x0 x1 : Value, bindArgs fd ⟨[x0, x1], []⟩ = pure (ps.zip [x0, x1])) (us : List Value) (e : us.length = 2) : bindArgs fd ⟨us, []⟩ = pure (ps.zip us) := by
  match us, e with
  | [x0, x1], _ => exact h x0 x1
theorem ln3 {fd : FuncData} {ps : List Str} (h : ∀ x0 x1 x2 : Value, bindArgs fd ⟨[x0, x1, x2], []⟩ = pure (ps.zip [x0, x1, x2])) (us : List Value) (e : us.length = 3) : bindArgs fd ⟨us, []⟩ = pure (ps.zip us) := by
  match us, e with
  | [x0, x1, x2], _ => exact h x0 x1 x2
theorem ln4 {fd : FuncData} {ps : List Str} (h : ∀ x0 x1 x2 x3 : Value, bindArgs fd ⟨[x0, x1, x2, x3], []⟩ = pure (ps.zip [x0, x1, x2, x3])) (us : List Value) (e : us.length = 4) : bindArgs fd ⟨us, []⟩ = pure (ps.zip us) := by
  match us, e with
  | [x0, x1, x2, x3], _ => exact h x0 x1 x2 x3
theorem top_mk {K : W.Frag} {h : Heap} {mg : Str → Option Value} {f27 f28 f29 f30 f31 f32 f33 f34 f35 f36 f37 f38 f39 f40 f41 f42 f43 f44 f45 : Addr} {od27 an27 od28 an28 od29 an29 od30 an30 od31 an31 od32 an32 od33 an33 od34 an34 od35 an35 od36 an36 od37 an37 od38 an38 od39 an39 od40 an40 od41 an41 od42 an42 od43 an43 od44 an44 od45 an45 : Option Addr} {sl27 sl28 sl29 sl30 sl31 sl32 sl33 sl34 sl35 sl36 sl37 sl38 sl39 sl40 sl41 sl42 sl43 sl44 sl45 : Array (Option Value)} {oc27 kV27 dc27 pm27 cd27 ct27 oc28 kV28 dc28 pm28 cd28 ct28 oc29 kV29 dc29 pm29 cd29 ct29 oc30 kV30 dc30 pm30 cd30 ct30 oc31 kV31 dc31 pm31 cd31 ct31 oc32 kV32 dc32 pm32 cd32 ct32 oc33 kV33 dc33 pm33 cd33 ct33 oc34 kV34 dc34 pm34 cd34 ct34 oc35 kV35 dc35 pm35 cd35 ct35 oc36 kV36 dc36 pm36 cd36 ct36 oc37 kV37 dc37 pm37 cd37 ct37 oc38 kV38 dc38 pm38 cd38 ct38 oc39 kV39 dc39 pm39 cd39 ct39 oc40 kV40 dc40 pm40 cd40 ct40 oc41 kV41 dc41 pm41 cd41 ct41 oc42 kV42 dc42 pm42 cd42 ct42 oc43 kV43 dc43 pm43 cd43 ct43 oc44 kV44 dc44 pm44 cd44 ct44 oc45 kV45 dc45 pm45 cd45 ct45 : Value} {t18 : Tok} {t19 : Tok} {t20 : Tok} {t22 : Tok} {t23 : Tok} {t24 : Tok} {t25 : Tok} {t26 : Tok} {g21 : Addr} {od21 : Option Addr} {nn21 : Nat} {sl21 : Array (Option Value)} {u21_0 u21_1 u21_2 u21_3 u21_4 u21_5 u21_6 u21_7 u21_8 : Tok} (X : K.In h) (G : h.Ns mainGlobals mg)
    (a27 : W.nsIn K mainGlobals "is_whole" = some (some (.ref f27))) (l27 : K.lookup f27 = some ⟨oc27, od27, .func (W.fnOf "is_whole" "is_whole" (defArgs (top 10)) (defBody (top 10)) (defScope (top 10)) .none kV27 dc27 pm27 an27 cd27 ct27), sl27⟩) (e27 : W.codeIn K cd27 "is_whole" = true) (k27 : W.keepIn K (.ref f27) = true)
    (a28 : W.nsIn K mainGlobals "is_text_of" = some (some (.ref f28))) (l28 : K.lookup f28 = some ⟨oc28, od28, .func (W.fnOf "is_text_of" "is_text_of" (defArgs (top 11)) (defBody (top 11)) (defScope (top 11)) .none kV28 dc28 pm28 an28 cd28 ct28), sl28⟩) (e28 : W.codeIn K cd28 "is_text_of" = true) (k28 : W.keepIn K (.ref f28) = true)
    (a29 : W.nsIn K mainGlobals "is_told_text" = some (some (.ref f29))) (l29 : K.lookup f29 = some ⟨oc29, od29, .func (W.fnOf "is_told_text" "is_told_text" (defArgs (top 17)) (defBody (top 17)) (defScope (top 17)) .none kV29 dc29 pm29 an29 cd29 ct29), sl29⟩) (e29 : W.codeIn K cd29 "is_told_text" = true) (k29 : W.keepIn K (.ref f29) = true)
    (a30 : W.nsIn K mainGlobals "is_told_number" = some (some (.ref f30))) (l30 : K.lookup f30 = some ⟨oc30, od30, .func (W.fnOf "is_told_number" "is_told_number" (defArgs (top 18)) (defBody (top 18)) (defScope (top 18)) .none kV30 dc30 pm30 an30 cd30 ct30), sl30⟩) (e30 : W.codeIn K cd30 "is_told_number" = true) (k30 : W.keepIn K (.ref f30) = true)
    (a31 : W.nsIn K mainGlobals "things_go" = some (some (.ref f31))) (l31 : K.lookup f31 = some ⟨oc31, od31, .func (W.fnOf "things_go" "things_go" (defArgs (top 19)) (defBody (top 19)) (defScope (top 19)) .none kV31 dc31 pm31 an31 cd31 ct31), sl31⟩) (e31 : W.codeIn K cd31 "things_go" = true) (k31 : W.keepIn K (.ref f31) = true)
    (a32 : W.nsIn K mainGlobals "cond_checked" = some (some (.ref f32))) (l32 : K.lookup f32 = some ⟨oc32, od32, .func (W.fnOf "cond_checked" "cond_checked" (defArgs (top 20)) (defBody (top 20)) (defScope (top 20)) .none kV32 dc32 pm32 an32 cd32 ct32), sl32⟩) (e32 : W.codeIn K cd32 "cond_checked" = true) (k32 : W.keepIn K (.ref f32) = true)
    (a33 : W.nsIn K mainGlobals "show_thing" = some (some (.ref f33))) (l33 : K.lookup f33 = some ⟨oc33, od33, .func (W.fnOf "show_thing" "show_thing" (defArgs (top 24)) (defBody (top 24)) (defScope (top 24)) .none kV33 dc33 pm33 an33 cd33 ct33), sl33⟩) (e33 : W.codeIn K cd33 "show_thing" = true) (k33 : W.keepIn K (.ref f33) = true)
    (a34 : W.nsIn K mainGlobals "show_cond" = some (some (.ref f34))) (l34 : K.lookup f34 = some ⟨oc34, od34, .func (W.fnOf "show_cond" "show_cond" (defArgs (top 25)) (defBody (top 25)) (defScope (top 25)) .none kV34 dc34 pm34 an34 cd34 ct34), sl34⟩) (e34 : W.codeIn K cd34 "show_cond" = true) (k34 : W.keepIn K (.ref f34) = true)
    (a35 : W.nsIn K mainGlobals "is_written_number" = some (some (.ref f35))) (l35 : K.lookup f35 = some ⟨oc35, od35, .func (W.fnOf "is_written_number" "is_written_number" (defArgs (top 26)) (defBody (top 26)) (defScope (top 26)) .none kV35 dc35 pm35 an35 cd35 ct35), sl35⟩) (e35 : W.codeIn K cd35 "is_written_number" = true) (k35 : W.keepIn K (.ref f35) = true)
    (a36 : W.nsIn K mainGlobals "read_thing" = some (some (.ref f36))) (l36 : K.lookup f36 = some ⟨oc36, od36, .func (W.fnOf "read_thing" "read_thing" (defArgs (top 27)) (defBody (top 27)) (defScope (top 27)) .none kV36 dc36 pm36 an36 cd36 ct36), sl36⟩) (e36 : W.codeIn K cd36 "read_thing" = true) (k36 : W.keepIn K (.ref f36) = true)
    (a37 : W.nsIn K mainGlobals "read_cond" = some (some (.ref f37))) (l37 : K.lookup f37 = some ⟨oc37, od37, .func (W.fnOf "read_cond" "read_cond" (defArgs (top 28)) (defBody (top 28)) (defScope (top 28)) .none kV37 dc37 pm37 an37 cd37 ct37), sl37⟩) (e37 : W.codeIn K cd37 "read_cond" = true) (k37 : W.keepIn K (.ref f37) = true)
    (a38 : W.nsIn K mainGlobals "_law_cell_at" = some (some (.ref f38))) (l38 : K.lookup f38 = some ⟨oc38, od38, .func (W.fnOf "_law_cell_at" "_law_cell_at" (defArgs (top 30)) (defBody (top 30)) (defScope (top 30)) .none kV38 dc38 pm38 an38 cd38 ct38), sl38⟩) (e38 : W.codeIn K cd38 "_law_cell_at" = true) (k38 : W.keepIn K (.ref f38) = true)
    (a39 : W.nsIn K mainGlobals "_law_stream" = some (some (.ref f39))) (l39 : K.lookup f39 = some ⟨oc39, od39, .func (W.fnOf "_law_stream" "_law_stream" (defArgs (top 31)) (defBody (top 31)) (defScope (top 31)) .none kV39 dc39 pm39 an39 cd39 ct39), sl39⟩) (e39 : W.codeIn K cd39 "_law_stream" = true) (k39 : W.keepIn K (.ref f39) = true)
    (a40 : W.nsIn K mainGlobals "_law_names" = some (some (.ref f40))) (l40 : K.lookup f40 = some ⟨oc40, od40, .func (W.fnOf "_law_names" "_law_names" (defArgs (top 32)) (defBody (top 32)) (defScope (top 32)) .none kV40 dc40 pm40 an40 cd40 ct40), sl40⟩) (e40 : W.codeIn K cd40 "_law_names" = true) (k40 : W.keepIn K (.ref f40) = true)
    (a41 : W.nsIn K mainGlobals "_law_told" = some (some (.ref f41))) (l41 : K.lookup f41 = some ⟨oc41, od41, .func (W.fnOf "_law_told" "_law_told" (defArgs (top 33)) (defBody (top 33)) (defScope (top 33)) .none kV41 dc41 pm41 an41 cd41 ct41), sl41⟩) (e41 : W.codeIn K cd41 "_law_told" = true) (k41 : W.keepIn K (.ref f41) = true)
    (a42 : W.nsIn K mainGlobals "_law_cond" = some (some (.ref f42))) (l42 : K.lookup f42 = some ⟨oc42, od42, .func (W.fnOf "_law_cond" "_law_cond" (defArgs (top 34)) (defBody (top 34)) (defScope (top 34)) .none kV42 dc42 pm42 an42 cd42 ct42), sl42⟩) (e42 : W.codeIn K cd42 "_law_cond" = true) (k42 : W.keepIn K (.ref f42) = true)
    (a43 : W.nsIn K mainGlobals "_law_line" = some (some (.ref f43))) (l43 : K.lookup f43 = some ⟨oc43, od43, .func (W.fnOf "_law_line" "_law_line" (defArgs (top 35)) (defBody (top 35)) (defScope (top 35)) .none kV43 dc43 pm43 an43 cd43 ct43), sl43⟩) (e43 : W.codeIn K cd43 "_law_line" = true) (k43 : W.keepIn K (.ref f43) = true)
    (a44 : W.nsIn K mainGlobals "_law_same" = some (some (.ref f44))) (l44 : K.lookup f44 = some ⟨oc44, od44, .func (W.fnOf "_law_same" "_law_same" (defArgs (top 36)) (defBody (top 36)) (defScope (top 36)) .none kV44 dc44 pm44 an44 cd44 ct44), sl44⟩) (e44 : W.codeIn K cd44 "_law_same" = true) (k44 : W.keepIn K (.ref f44) = true)
    (a45 : W.nsIn K mainGlobals "law" = some (some (.ref f45))) (l45 : K.lookup f45 = some ⟨oc45, od45, .func (W.fnOf "law" "law" (defArgs (top 37)) (defBody (top 37)) (defScope (top 37)) .none kV45 dc45 pm45 an45 cd45 ct45), sl45⟩) (e45 : W.codeIn K cd45 "law" = true) (k45 : W.keepIn K (.ref f45) = true)
    (q18 : W.nsIn K mainGlobals "LETTERS" = some (some (.str "abcdefghijklmnopqrstuvwxyz" t18)))
    (q19 : W.nsIn K mainGlobals "FIGURES" = some (some (.str "0123456789" t19)))
    (q20 : W.nsIn K mainGlobals "SIGNS" = some (some (.str "abcdefghijklmnopqrstuvwxyz0123456789" t20)))
    (q21 : W.nsIn K mainGlobals "WORDS" = some (some (.ref g21))) (r21 : K.lookup g21 = some ⟨.type "tuple", od21, .seq #[.str "is" u21_0, .str "not" u21_1, .str "begins" u21_2, .str "least" u21_3, .str "most" u21_4, .str "has" u21_5, .str "lacks" u21_6, .str "in" u21_7, .str "out" u21_8] nn21, sl21⟩)
    (q22 : W.nsIn K mainGlobals "MOST_THINGS" = some (some (.int 10 t22)))
    (q23 : W.nsIn K mainGlobals "GREATEST_TOLD" = some (some (.int 999999999 t23)))
    (q24 : W.nsIn K mainGlobals "LONGEST_TOLD" = some (some (.int 8 t24)))
    (q25 : W.nsIn K mainGlobals "LONGEST_NAME" = some (some (.int 8 t25)))
    (q26 : W.nsIn K mainGlobals "MOST_FIGURES" = some (some (.int 9 t26)))
    (z0 : W.nsIn K mainGlobals "len" = some none)
    (z1 : W.nsIn K mainGlobals "sum" = some none)
    (z2 : W.nsIn K mainGlobals "min" = some none)
    (z3 : W.nsIn K mainGlobals "max" = some none)
    (z4 : W.nsIn K mainGlobals "sorted" = some none)
    (z5 : W.nsIn K mainGlobals "list" = some none)
    (z6 : W.nsIn K mainGlobals "tuple" = some none)
    (z7 : W.nsIn K mainGlobals "ord" = some none)
    (z8 : W.nsIn K mainGlobals "int" = some none)
    (z9 : W.nsIn K mainGlobals "all" = some none)
    (z10 : W.nsIn K mainGlobals "any" = some none)
    (z11 : W.nsIn K mainGlobals "str" = some none)
    (z12 : W.nsIn K mainGlobals "set" = some none)
    (z13 : W.nsIn K mainGlobals "abs" = some none)
    (z14 : W.nsIn K mainGlobals "isinstance" = some none)
    (z15 : W.nsIn K mainGlobals "range" = some none)
    (z16 : W.nsIn K mainGlobals "bool" = some none)
    (z17 : W.nsIn K mainGlobals "reversed" = some none) : TopOk K mg Z T where
  nam := nam_ok
  blt := fun n x hx => by
    have key : ∀ y ∈ bnames, mg y = none := by
      intro y hy
      simp only [bnames, List.mem_cons, List.not_mem_nil, or_false] at hy
      rcases hy with rfl | rfl | rfl | rfl | rfl | rfl | rfl | rfl | rfl | rfl | rfl | rfl | rfl | rfl | rfl | rfl | rfl | rfl
      · exact W.mg_none_of X G z0
      · exact W.mg_none_of X G z1
      · exact W.mg_none_of X G z2
      · exact W.mg_none_of X G z3
      · exact W.mg_none_of X G z4
      · exact W.mg_none_of X G z5
      · exact W.mg_none_of X G z6
      · exact W.mg_none_of X G z7
      · exact W.mg_none_of X G z8
      · exact W.mg_none_of X G z9
      · exact W.mg_none_of X G z10
      · exact W.mg_none_of X G z11
      · exact W.mg_none_of X G z12
      · exact W.mg_none_of X G z13
      · exact W.mg_none_of X G z14
      · exact W.mg_none_of X G z15
      · exact W.mg_none_of X G z16
      · exact W.mg_none_of X G z17
    exact key x (List.mem_of_getElem? hx)
  cst := fun n d x hm hx => by
    have hm' : (n, d) ∈ ([(18, (.str "abcdefghijklmnopqrstuvwxyz")), (19, (.str "0123456789")), (20, (.str "abcdefghijklmnopqrstuvwxyz0123456789")), (21, (.tup [(.str "is"), (.str "not"), (.str "begins"), (.str "least"), (.str "most"), (.str "has"), (.str "lacks"), (.str "in"), (.str "out")])), (22, (.int 10)), (23, (.int 999999999)), (24, (.int 8)), (25, (.int 8)), (26, (.int 9))] : List (Nat × D)) := hm
    simp only [List.mem_cons, List.not_mem_nil, or_false, Prod.mk.injEq] at hm'
    rcases hm' with ⟨rfl, rfl⟩ | ⟨rfl, rfl⟩ | ⟨rfl, rfl⟩ | ⟨rfl, rfl⟩ | ⟨rfl, rfl⟩ | ⟨rfl, rfl⟩ | ⟨rfl, rfl⟩ | ⟨rfl, rfl⟩ | ⟨rfl, rfl⟩
    · cases hx; exact ⟨_, .str _, PySem.W.mg_of X G q18, ⟨_, rfl⟩, fun _ _ => .str _⟩
    · cases hx; exact ⟨_, .str _, PySem.W.mg_of X G q19, ⟨_, rfl⟩, fun _ _ => .str _⟩
    · cases hx; exact ⟨_, .str _, PySem.W.mg_of X G q20, ⟨_, rfl⟩, fun _ _ => .str _⟩
    · cases hx; exact ⟨_, .ref _, PySem.W.mg_of X G q21, rfl, fun _ _ => .tup (strs_in [("is", _), ("not", _), ("begins", _), ("least", _), ("most", _), ("has", _), ("lacks", _), ("in", _), ("out", _)] r21 (Nat.le_of_ble_eq_true rfl)) (.cons (.str _) (.cons (.str _) (.cons (.str _) (.cons (.str _) (.cons (.str _) (.cons (.str _) (.cons (.str _) (.cons (.str _) (.cons (.str _) .nil)))))))))⟩
    · cases hx; exact ⟨_, .int _, PySem.W.mg_of X G q22, ⟨_, rfl⟩, fun _ _ => .int _⟩
    · cases hx; exact ⟨_, .int _, PySem.W.mg_of X G q23, ⟨_, rfl⟩, fun _ _ => .int _⟩
    · cases hx; exact ⟨_, .int _, PySem.W.mg_of X G q24, ⟨_, rfl⟩, fun _ _ => .int _⟩
    · cases hx; exact ⟨_, .int _, PySem.W.mg_of X G q25, ⟨_, rfl⟩, fun _ _ => .int _⟩
    · cases hx; exact ⟨_, .int _, PySem.W.mg_of X G q26, ⟨_, rfl⟩, fun _ _ => .int _⟩
  fns := fun f hf x hx => by
    have hf' : f ∈ ([27, 28, 29, 30, 31, 32, 33, 34, 35, 36, 37, 38, 39, 40, 41, 42, 43, 44, 45] : List Nat) := hf
    simp only [List.mem_cons, List.not_mem_nil, or_false] at hf'
    rcases hf' with rfl | rfl | rfl | rfl | rfl | rfl | rfl | rfl | rfl | rfl | rfl | rfl | rfl | rfl | rfl | rfl | rfl | rfl | rfl
    · cases hx; exact ⟨d27, top 10, f27, _, ["thing"], rfl, fun_mk (st := top 10) l27 e27 k27, PySem.W.mg_of X G a27, (fun_mk (st := top 10) l27 e27 k27).binds (fun _ _ _ _ _ _ us hl => ln1 (fun _ => rfl) us hl), defSc_of c27⟩
    · cases hx; exact ⟨d28, top 11, f28, _, ["thing", "signs", "least", "most"], rfl, fun_mk (st := top 11) l28 e28 k28, PySem.W.mg_of X G a28, (fun_mk (st := top 11) l28 e28 k28).binds (fun _ _ _ _ _ _ us hl => ln4 (fun _ _ _ _ => rfl) us hl), defSc_of c28⟩
    · cases hx; exact ⟨d29, top 17, f29, _, ["thing", "least"], rfl, fun_mk (st := top 17) l29 e29 k29, PySem.W.mg_of X G a29, (fun_mk (st := top 17) l29 e29 k29).binds (fun _ _ _ _ _ _ us hl => ln2 (fun _ _ => rfl) us hl), defSc_of c29⟩
    · cases hx; exact ⟨d30, top 18, f30, _, ["thing"], rfl, fun_mk (st := top 18) l30 e30 k30, PySem.W.mg_of X G a30, (fun_mk (st := top 18) l30 e30 k30).binds (fun _ _ _ _ _ _ us hl => ln1 (fun _ => rfl) us hl), defSc_of c30⟩
    · cases hx; exact ⟨d31, top 19, f31, _, ["word", "things"], rfl, fun_mk (st := top 19) l31 e31 k31, PySem.W.mg_of X G a31, (fun_mk (st := top 19) l31 e31 k31).binds (fun _ _ _ _ _ _ us hl => ln2 (fun _ _ => rfl) us hl), defSc_of c31⟩
    · cases hx; exact ⟨d32, top 20, f32, _, ["cond", "names"], rfl, fun_mk (st := top 20) l32 e32 k32, PySem.W.mg_of X G a32, (fun_mk (st := top 20) l32 e32 k32).binds (fun _ _ _ _ _ _ us hl => ln2 (fun _ _ => rfl) us hl), defSc_of c32⟩
    · cases hx; exact ⟨d33, top 24, f33, _, ["thing"], rfl, fun_mk (st := top 24) l33 e33 k33, PySem.W.mg_of X G a33, (fun_mk (st := top 24) l33 e33 k33).binds (fun _ _ _ _ _ _ us hl => ln1 (fun _ => rfl) us hl), defSc_of c33⟩
    · cases hx; exact ⟨d34, top 25, f34, _, ["cond"], rfl, fun_mk (st := top 25) l34 e34 k34, PySem.W.mg_of X G a34, (fun_mk (st := top 25) l34 e34 k34).binds (fun _ _ _ _ _ _ us hl => ln1 (fun _ => rfl) us hl), defSc_of c34⟩
    · cases hx; exact ⟨d35, top 26, f35, _, ["part"], rfl, fun_mk (st := top 26) l35 e35 k35, PySem.W.mg_of X G a35, (fun_mk (st := top 26) l35 e35 k35).binds (fun _ _ _ _ _ _ us hl => ln1 (fun _ => rfl) us hl), defSc_of c35⟩
    · cases hx; exact ⟨d36, top 27, f36, _, ["part"], rfl, fun_mk (st := top 27) l36 e36 k36, PySem.W.mg_of X G a36, (fun_mk (st := top 27) l36 e36 k36).binds (fun _ _ _ _ _ _ us hl => ln1 (fun _ => rfl) us hl), defSc_of c36⟩
    · cases hx; exact ⟨d37, top 28, f37, _, ["line"], rfl, fun_mk (st := top 28) l37 e37 k37, PySem.W.mg_of X G a37, (fun_mk (st := top 28) l37 e37 k37).binds (fun _ _ _ _ _ _ us hl => ln1 (fun _ => rfl) us hl), defSc_of c37⟩
    · cases hx; exact ⟨d38, top 30, f38, _, ["_law_script", "_law_k"], rfl, fun_mk (st := top 30) l38 e38 k38, PySem.W.mg_of X G a38, (fun_mk (st := top 30) l38 e38 k38).binds (fun _ _ _ _ _ _ us hl => ln2 (fun _ _ => rfl) us hl), defSc_of c38⟩
    · cases hx; exact ⟨d39, top 31, f39, _, ["_law_cell", "_law_many"], rfl, fun_mk (st := top 31) l39 e39 k39, PySem.W.mg_of X G a39, (fun_mk (st := top 31) l39 e39 k39).binds (fun _ _ _ _ _ _ us hl => ln2 (fun _ _ => rfl) us hl), defSc_of c39⟩
    · cases hx; exact ⟨d40, top 32, f40, _, ["_law_cell", "_law_many"], rfl, fun_mk (st := top 32) l40 e40 k40, PySem.W.mg_of X G a40, (fun_mk (st := top 32) l40 e40 k40).binds (fun _ _ _ _ _ _ us hl => ln2 (fun _ _ => rfl) us hl), defSc_of c40⟩
    · cases hx; exact ⟨d41, top 33, f41, _, ["_law_cell", "_law_kind"], rfl, fun_mk (st := top 33) l41 e41 k41, PySem.W.mg_of X G a41, (fun_mk (st := top 33) l41 e41 k41).binds (fun _ _ _ _ _ _ us hl => ln2 (fun _ _ => rfl) us hl), defSc_of c41⟩
    · cases hx; exact ⟨d42, top 34, f42, _, ["_law_cell", "_law_names_here", "_law_groups"], rfl, fun_mk (st := top 34) l42 e42 k42, PySem.W.mg_of X G a42, (fun_mk (st := top 34) l42 e42 k42).binds (fun _ _ _ _ _ _ us hl => ln3 (fun _ _ _ => rfl) us hl), defSc_of c42⟩
    · cases hx; exact ⟨d43, top 35, f43, _, ["_law_cond_here"], rfl, fun_mk (st := top 35) l43 e43 k43, PySem.W.mg_of X G a43, (fun_mk (st := top 35) l43 e43 k43).binds (fun _ _ _ _ _ _ us hl => ln1 (fun _ => rfl) us hl), defSc_of c43⟩
    · cases hx; exact ⟨d44, top 36, f44, _, ["_law_found", "_law_cond_here"], rfl, fun_mk (st := top 36) l44 e44 k44, PySem.W.mg_of X G a44, (fun_mk (st := top 36) l44 e44 k44).binds (fun _ _ _ _ _ _ us hl => ln2 (fun _ _ => rfl) us hl), defSc_of c44⟩
    · cases hx; exact ⟨d45, top 37, f45, _, ["_law_script"], rfl, fun_mk (st := top 37) l45 e45 k45, PySem.W.mg_of X G a45, (fun_mk (st := top 37) l45 e45 k45).binds (fun _ _ _ _ _ _ us hl => ln1 (fun _ => rfl) us hl), defSc_of c45⟩
noncomputable def lawN : Nat := 45
noncomputable def lawX : Str := "_law_script"
theorem all_mk {l : PySem.W.OpenLaw} {w : World} {fa : Addr} {K : W.Frag} {h : Heap} {mg : Str → Option Value} {f27 f28 f29 f30 f31 f32 f33 f34 f35 f36 f37 f38 f39 f40 f41 f42 f43 f44 f45 : Addr} {od27 an27 od28 an28 od29 an29 od30 an30 od31 an31 od32 an32 od33 an33 od34 an34 od35 an35 od36 an36 od37 an37 od38 an38 od39 an39 od40 an40 od41 an41 od42 an42 od43 an43 od44 an44 od45 an45 : Option Addr} {sl27 sl28 sl29 sl30 sl31 sl32 sl33 sl34 sl35 sl36 sl37 sl38 sl39 sl40 sl41 sl42 sl43 sl44 sl45 : Array (Option Value)} {oc27 kV27 dc27 pm27 cd27 ct27 oc28 kV28 dc28 pm28 cd28 ct28 oc29 kV29 dc29 pm29 cd29 ct29 oc30 kV30 dc30 pm30 cd30 ct30 oc31 kV31 dc31 pm31 cd31 ct31 oc32 kV32 dc32 pm32 cd32 ct32 oc33 kV33 dc33 pm33 cd33 ct33 oc34 kV34 dc34 pm34 cd34 ct34 oc35 kV35 dc35 pm35 cd35 ct35 oc36 kV36 dc36 pm36 cd36 ct36 oc37 kV37 dc37 pm37 cd37 ct37 oc38 kV38 dc38 pm38 cd38 ct38 oc39 kV39 dc39 pm39 cd39 ct39 oc40 kV40 dc40 pm40 cd40 ct40 oc41 kV41 dc41 pm41 cd41 ct41 oc42 kV42 dc42 pm42 cd42 ct42 oc43 kV43 dc43 pm43 cd43 ct43 oc44 kV44 dc44 pm44 cd44 ct44 oc45 kV45 dc45 pm45 cd45 ct45 : Value} {t18 : Tok} {t19 : Tok} {t20 : Tok} {t22 : Tok} {t23 : Tok} {t24 : Tok} {t25 : Tok} {t26 : Tok} {g21 : Addr} {od21 : Option Addr} {nn21 : Nat} {sl21 : Array (Option Value)} {u21_0 u21_1 u21_2 u21_3 u21_4 u21_5 u21_6 u21_7 u21_8 : Tok} (X : K.In h) (G : h.Ns mainGlobals mg) (hfa : mg "law" = some (.ref fa))
    (a27 : W.nsIn K mainGlobals "is_whole" = some (some (.ref f27))) (l27 : K.lookup f27 = some ⟨oc27, od27, .func (W.fnOf "is_whole" "is_whole" (defArgs (top 10)) (defBody (top 10)) (defScope (top 10)) .none kV27 dc27 pm27 an27 cd27 ct27), sl27⟩) (e27 : W.codeIn K cd27 "is_whole" = true) (k27 : W.keepIn K (.ref f27) = true)
    (a28 : W.nsIn K mainGlobals "is_text_of" = some (some (.ref f28))) (l28 : K.lookup f28 = some ⟨oc28, od28, .func (W.fnOf "is_text_of" "is_text_of" (defArgs (top 11)) (defBody (top 11)) (defScope (top 11)) .none kV28 dc28 pm28 an28 cd28 ct28), sl28⟩) (e28 : W.codeIn K cd28 "is_text_of" = true) (k28 : W.keepIn K (.ref f28) = true)
    (a29 : W.nsIn K mainGlobals "is_told_text" = some (some (.ref f29))) (l29 : K.lookup f29 = some ⟨oc29, od29, .func (W.fnOf "is_told_text" "is_told_text" (defArgs (top 17)) (defBody (top 17)) (defScope (top 17)) .none kV29 dc29 pm29 an29 cd29 ct29), sl29⟩) (e29 : W.codeIn K cd29 "is_told_text" = true) (k29 : W.keepIn K (.ref f29) = true)
    (a30 : W.nsIn K mainGlobals "is_told_number" = some (some (.ref f30))) (l30 : K.lookup f30 = some ⟨oc30, od30, .func (W.fnOf "is_told_number" "is_told_number" (defArgs (top 18)) (defBody (top 18)) (defScope (top 18)) .none kV30 dc30 pm30 an30 cd30 ct30), sl30⟩) (e30 : W.codeIn K cd30 "is_told_number" = true) (k30 : W.keepIn K (.ref f30) = true)
    (a31 : W.nsIn K mainGlobals "things_go" = some (some (.ref f31))) (l31 : K.lookup f31 = some ⟨oc31, od31, .func (W.fnOf "things_go" "things_go" (defArgs (top 19)) (defBody (top 19)) (defScope (top 19)) .none kV31 dc31 pm31 an31 cd31 ct31), sl31⟩) (e31 : W.codeIn K cd31 "things_go" = true) (k31 : W.keepIn K (.ref f31) = true)
    (a32 : W.nsIn K mainGlobals "cond_checked" = some (some (.ref f32))) (l32 : K.lookup f32 = some ⟨oc32, od32, .func (W.fnOf "cond_checked" "cond_checked" (defArgs (top 20)) (defBody (top 20)) (defScope (top 20)) .none kV32 dc32 pm32 an32 cd32 ct32), sl32⟩) (e32 : W.codeIn K cd32 "cond_checked" = true) (k32 : W.keepIn K (.ref f32) = true)
    (a33 : W.nsIn K mainGlobals "show_thing" = some (some (.ref f33))) (l33 : K.lookup f33 = some ⟨oc33, od33, .func (W.fnOf "show_thing" "show_thing" (defArgs (top 24)) (defBody (top 24)) (defScope (top 24)) .none kV33 dc33 pm33 an33 cd33 ct33), sl33⟩) (e33 : W.codeIn K cd33 "show_thing" = true) (k33 : W.keepIn K (.ref f33) = true)
    (a34 : W.nsIn K mainGlobals "show_cond" = some (some (.ref f34))) (l34 : K.lookup f34 = some ⟨oc34, od34, .func (W.fnOf "show_cond" "show_cond" (defArgs (top 25)) (defBody (top 25)) (defScope (top 25)) .none kV34 dc34 pm34 an34 cd34 ct34), sl34⟩) (e34 : W.codeIn K cd34 "show_cond" = true) (k34 : W.keepIn K (.ref f34) = true)
    (a35 : W.nsIn K mainGlobals "is_written_number" = some (some (.ref f35))) (l35 : K.lookup f35 = some ⟨oc35, od35, .func (W.fnOf "is_written_number" "is_written_number" (defArgs (top 26)) (defBody (top 26)) (defScope (top 26)) .none kV35 dc35 pm35 an35 cd35 ct35), sl35⟩) (e35 : W.codeIn K cd35 "is_written_number" = true) (k35 : W.keepIn K (.ref f35) = true)
    (a36 : W.nsIn K mainGlobals "read_thing" = some (some (.ref f36))) (l36 : K.lookup f36 = some ⟨oc36, od36, .func (W.fnOf "read_thing" "read_thing" (defArgs (top 27)) (defBody (top 27)) (defScope (top 27)) .none kV36 dc36 pm36 an36 cd36 ct36), sl36⟩) (e36 : W.codeIn K cd36 "read_thing" = true) (k36 : W.keepIn K (.ref f36) = true)
    (a37 : W.nsIn K mainGlobals "read_cond" = some (some (.ref f37))) (l37 : K.lookup f37 = some ⟨oc37, od37, .func (W.fnOf "read_cond" "read_cond" (defArgs (top 28)) (defBody (top 28)) (defScope (top 28)) .none kV37 dc37 pm37 an37 cd37 ct37), sl37⟩) (e37 : W.codeIn K cd37 "read_cond" = true) (k37 : W.keepIn K (.ref f37) = true)
    (a38 : W.nsIn K mainGlobals "_law_cell_at" = some (some (.ref f38))) (l38 : K.lookup f38 = some ⟨oc38, od38, .func (W.fnOf "_law_cell_at" "_law_cell_at" (defArgs (top 30)) (defBody (top 30)) (defScope (top 30)) .none kV38 dc38 pm38 an38 cd38 ct38), sl38⟩) (e38 : W.codeIn K cd38 "_law_cell_at" = true) (k38 : W.keepIn K (.ref f38) = true)
    (a39 : W.nsIn K mainGlobals "_law_stream" = some (some (.ref f39))) (l39 : K.lookup f39 = some ⟨oc39, od39, .func (W.fnOf "_law_stream" "_law_stream" (defArgs (top 31)) (defBody (top 31)) (defScope (top 31)) .none kV39 dc39 pm39 an39 cd39 ct39), sl39⟩) (e39 : W.codeIn K cd39 "_law_stream" = true) (k39 : W.keepIn K (.ref f39) = true)
    (a40 : W.nsIn K mainGlobals "_law_names" = some (some (.ref f40))) (l40 : K.lookup f40 = some ⟨oc40, od40, .func (W.fnOf "_law_names" "_law_names" (defArgs (top 32)) (defBody (top 32)) (defScope (top 32)) .none kV40 dc40 pm40 an40 cd40 ct40), sl40⟩) (e40 : W.codeIn K cd40 "_law_names" = true) (k40 : W.keepIn K (.ref f40) = true)
    (a41 : W.nsIn K mainGlobals "_law_told" = some (some (.ref f41))) (l41 : K.lookup f41 = some ⟨oc41, od41, .func (W.fnOf "_law_told" "_law_told" (defArgs (top 33)) (defBody (top 33)) (defScope (top 33)) .none kV41 dc41 pm41 an41 cd41 ct41), sl41⟩) (e41 : W.codeIn K cd41 "_law_told" = true) (k41 : W.keepIn K (.ref f41) = true)
    (a42 : W.nsIn K mainGlobals "_law_cond" = some (some (.ref f42))) (l42 : K.lookup f42 = some ⟨oc42, od42, .func (W.fnOf "_law_cond" "_law_cond" (defArgs (top 34)) (defBody (top 34)) (defScope (top 34)) .none kV42 dc42 pm42 an42 cd42 ct42), sl42⟩) (e42 : W.codeIn K cd42 "_law_cond" = true) (k42 : W.keepIn K (.ref f42) = true)
    (a43 : W.nsIn K mainGlobals "_law_line" = some (some (.ref f43))) (l43 : K.lookup f43 = some ⟨oc43, od43, .func (W.fnOf "_law_line" "_law_line" (defArgs (top 35)) (defBody (top 35)) (defScope (top 35)) .none kV43 dc43 pm43 an43 cd43 ct43), sl43⟩) (e43 : W.codeIn K cd43 "_law_line" = true) (k43 : W.keepIn K (.ref f43) = true)
    (a44 : W.nsIn K mainGlobals "_law_same" = some (some (.ref f44))) (l44 : K.lookup f44 = some ⟨oc44, od44, .func (W.fnOf "_law_same" "_law_same" (defArgs (top 36)) (defBody (top 36)) (defScope (top 36)) .none kV44 dc44 pm44 an44 cd44 ct44), sl44⟩) (e44 : W.codeIn K cd44 "_law_same" = true) (k44 : W.keepIn K (.ref f44) = true)
    (a45 : W.nsIn K mainGlobals "law" = some (some (.ref f45))) (l45 : K.lookup f45 = some ⟨oc45, od45, .func (W.fnOf "law" "law" (defArgs (top 37)) (defBody (top 37)) (defScope (top 37)) .none kV45 dc45 pm45 an45 cd45 ct45), sl45⟩) (e45 : W.codeIn K cd45 "law" = true) (k45 : W.keepIn K (.ref f45) = true)
    (q18 : W.nsIn K mainGlobals "LETTERS" = some (some (.str "abcdefghijklmnopqrstuvwxyz" t18)))
    (q19 : W.nsIn K mainGlobals "FIGURES" = some (some (.str "0123456789" t19)))
    (q20 : W.nsIn K mainGlobals "SIGNS" = some (some (.str "abcdefghijklmnopqrstuvwxyz0123456789" t20)))
    (q21 : W.nsIn K mainGlobals "WORDS" = some (some (.ref g21))) (r21 : K.lookup g21 = some ⟨.type "tuple", od21, .seq #[.str "is" u21_0, .str "not" u21_1, .str "begins" u21_2, .str "least" u21_3, .str "most" u21_4, .str "has" u21_5, .str "lacks" u21_6, .str "in" u21_7, .str "out" u21_8] nn21, sl21⟩)
    (q22 : W.nsIn K mainGlobals "MOST_THINGS" = some (some (.int 10 t22)))
    (q23 : W.nsIn K mainGlobals "GREATEST_TOLD" = some (some (.int 999999999 t23)))
    (q24 : W.nsIn K mainGlobals "LONGEST_TOLD" = some (some (.int 8 t24)))
    (q25 : W.nsIn K mainGlobals "LONGEST_NAME" = some (some (.int 8 t25)))
    (q26 : W.nsIn K mainGlobals "MOST_FIGURES" = some (some (.int 9 t26)))
    (z0 : W.nsIn K mainGlobals "len" = some none)
    (z1 : W.nsIn K mainGlobals "sum" = some none)
    (z2 : W.nsIn K mainGlobals "min" = some none)
    (z3 : W.nsIn K mainGlobals "max" = some none)
    (z4 : W.nsIn K mainGlobals "sorted" = some none)
    (z5 : W.nsIn K mainGlobals "list" = some none)
    (z6 : W.nsIn K mainGlobals "tuple" = some none)
    (z7 : W.nsIn K mainGlobals "ord" = some none)
    (z8 : W.nsIn K mainGlobals "int" = some none)
    (z9 : W.nsIn K mainGlobals "all" = some none)
    (z10 : W.nsIn K mainGlobals "any" = some none)
    (z11 : W.nsIn K mainGlobals "str" = some none)
    (z12 : W.nsIn K mainGlobals "set" = some none)
    (z13 : W.nsIn K mainGlobals "abs" = some none)
    (z14 : W.nsIn K mainGlobals "isinstance" = some none)
    (z15 : W.nsIn K mainGlobals "range" = some none)
    (z16 : W.nsIn K mainGlobals "bool" = some none)
    (z17 : W.nsIn K mainGlobals "reversed" = some none) :
    ∃ fd : FuncData, (∀ (s : Shared) (v : Value), BindsTo s fd ⟨[v], []⟩ [(lawX, v)]) ∧ ∀ base : Heap, K.In base → base.Ns mainGlobals mg → FnOk l.prog w K mg base CX0 (12 + 1) fa fd [lawX] (spF K (callF T (12 + 1)) xp0 lawN [lawX]) := by
  have e := hfa.symm.trans (PySem.W.mg_of X G a45)
  cases e
  have t := top_mk X G a27 l27 e27 k27 a28 l28 e28 k28 a29 l29 e29 k29 a30 l30 e30 k30 a31 l31 e31 k31 a32 l32 e32 k32 a33 l33 e33 k33 a34 l34 e34 k34 a35 l35 e35 k35 a36 l36 e36 k36 a37 l37 e37 k37 a38 l38 e38 k38 a39 l39 e39 k39 a40 l40 e40 k40 a41 l41 e41 k41 a42 l42 e42 k42 a43 l43 e43 k43 a44 l44 e44 k44 a45 l45 e45 k45 q18 q19 q20 q21 r21 q22 q23 q24 q25 q26 z0 z1 z2 z3 z4 z5 z6 z7 z8 z9 z10 z11 z12 z13 z14 z15 z16 z17
  exact ⟨PySem.W.fnOf "law" "law" (defArgs (top 37)) (defBody (top 37)) (defScope (top 37)) .none kV45 dc45 pm45 an45 cd45 ct45, fun s v => .of_eq rfl, fun base _ _ => def_fn t 12 (f := 45) (fn := d45) rfl (fun_mk (st := top 37) l45 e45 k45) (defSc_of c45)⟩
end Law
namespace L2
open PySem PySem.Spec PyProof.Rows PySem.SeqAt
namespace Fr
variable {T : Tb}
theorem cell {f : Nat} {fn : Fn} (hT : T f = some fn) (h1 : fn.np = 2) (h2 : fn.G.N.length = 2) (h3 : fn.body = bCell) (n : Nat) (ns : List Int) (k : Int) (hk : 0 ≤ k) : callF T (n + 1) f [.lst false (ns.map .int), .int k] = .ok (.int (ns.getD k.toNat 0)) := by
  rw [Ev.go hT h1 h2 h3 rfl]
  unfold bCell
  by_cases h : k < (ns.length : Int)
  · have hd : decide (k < (((ns.map D.int).length : Nat) : Int)) = true := decide_eq_true (by rw [List.length_map]; exact h)
    simp -implicitDefEqProofs (disch := omega) only [ev0, Nat.reduceBEq, Nat.reduceSub, Nat.reduceAdd, reduceIte, hd]
  · have hd : decide (k < (((ns.map D.int).length : Nat) : Int)) = false := decide_eq_false (by rw [List.length_map]; exact h)
    simp -implicitDefEqProofs (disch := omega) only [ev0, Nat.reduceBEq, Nat.reduceSub, Nat.reduceAdd, reduceIte, hd]
    rw [List.getD_eq_getElem?_getD, List.getElem?_eq_none (by omega)]
    rfl
noncomputable def tStream : List IS := [(.asg (.nm 3) (.bin .mod (.bin .add (.bin .add (.bin .mul (.v 3) (.c (.int 48271))) (.bin .mul (.bin .mul (.c (.int 7)) (.v 4)) (.v 4))) (.c (.int 3))) (.c (.int 2147483647)))), (.app 2 (.bin .fdiv (.v 3) (.c (.int 16))))]
noncomputable def bStream : List IS := [(.asg (.nm 2) (.lst [])), (.asg (.nm 3) (.bin .add (.bin .mod (.v 0) (.c (.int 2147483647))) (.c (.int 1)))), (.for_ (.nm 4) (.rng1 (.v 1)) tStream), (.ret (.v 2))]
theorem stream {f : Nat} {fn : Fn} (hT : T f = some fn) (h1 : fn.np = 2) (h2 : fn.G.N.length = 5) (h3 : fn.body = bStream) (n : Nat) (c m : Int) (h0 : 0 ≤ m) (hm : m ≤ 1000) :
    ∃ xs : List Int, callF T (n + 1) f [.int c, .int m] = .ok (.lst true (xs.map .int)) ∧ xs.length = m.toNat ∧ ∀ x ∈ xs, 0 ≤ x := by
  rw [Ev.go hT h1 h2 h3 rfl]
  unfold bStream
  obtain ⟨τ', e, xs, num, kk, rfl, hl, hx, hn⟩ := Ev.for_all (its := rngD 0 m) (τ := [some (.int c), some (.int m), some (.lst true []), some (.int (c % 2147483647 + 1)), none]) (body := Ev.turn (callF T n) (.nm 4) tStream)
    (fun i τ => ∃ (xs : List Int) (num : Int) (kk : Option D), τ = [some (.int c), some (.int m), some (.lst true (xs.map .int)), some (.int num), kk] ∧ xs.length = i ∧ (∀ x ∈ xs, 0 ≤ x) ∧ 0 ≤ num)
    ⟨[], _, none, rfl, rfl, fun x hx => absurd hx (by simp), by have := Int.emod_nonneg c (show (2147483647 : Int) ≠ 0 by decide); omega⟩ (by
      rintro i x τ hx ⟨xs, num, kk, rfl, hl, hxs, hn⟩
      have hi : i < m.toNat := by
        have := (List.getElem?_eq_some_iff.mp hx).1
        rw [rngD_len] at this
        omega
      unfold rngD at hx
      rw [List.getElem?_map, List.getElem?_range (by omega)] at hx
      have hx' : D.int (0 + (i : Nat)) = x := Option.some.inj hx
      subst hx'
      refine ⟨[some (.int c), some (.int m), some (.lst true ((xs ++ [(num * 48271 + 7 * (0 + (i : Int)) * (0 + (i : Int)) + 3) % 2147483647 / 16]).map .int)), some (.int ((num * 48271 + 7 * (0 + (i : Int)) * (0 + (i : Int)) + 3) % 2147483647)), some (.int (0 + (i : Nat)))], ?_, _, _, _, rfl, by rw [List.length_append, List.length_singleton, hl], fun x hx => ?_, Int.emod_nonneg _ (by decide)⟩
      · unfold tStream
        simp -implicitDefEqProofs (disch := omega) only [ev0, Nat.reduceBEq, Nat.reduceSub, Nat.reduceAdd, reduceIte, Ev.turn_eq, List.map_append, List.length_map]
      · rcases List.mem_append.mp hx with hx | hx
        · exact hxs x hx
        · rw [List.mem_singleton] at hx
          rw [hx]
          exact Int.ediv_nonneg (Int.emod_nonneg _ (by decide)) (by decide))
  refine ⟨xs, ?_, ?_, hx⟩
  · simp -implicitDefEqProofs (disch := omega) only [ev0, Nat.reduceBEq, Nat.reduceSub, Nat.reduceAdd, reduceIte, e]
  · rw [hl, rngD_len]; omega
noncomputable def one (c : Nat) : Str := ⟨#[c]⟩
noncomputable def sal (cs : List Nat) : Str := ⟨cs.toArray⟩
noncomputable def low (c : Nat) : Prop := 97 ≤ c ∧ c ≤ 122
theorem abc_list : (Str.ofString "abcdefghijklmnopqrstuvwxyz").cps.toList = List.range' 97 26 := by decide +kernel
theorem abc_len : (Str.ofString "abcdefghijklmnopqrstuvwxyz").length = 26 := by decide +kernel
theorem abc_ix {i : Int} (h0 : 0 ≤ i) (h1 : i < 26) : opIx (.str "abcdefghijklmnopqrstuvwxyz") (.int i) = .ok (.str (one (97 + i.toNat))) := by
  rw [Ev.x_c h0 (by rw [abc_len]; exact h1) (by rw [abc_len]; decide), abc_list]
  have : (List.range' 97 26).getD i.toNat 0 = 97 + i.toNat := by
    rw [List.getD_eq_getElem?_getD, List.getElem?_range' (by omega)]
    show 97 + 1 * i.toNat = _
    omega
  rw [this]
  rfl
theorem sal_len (cs : List Nat) : (sal cs).length = cs.length := by unfold sal Str.length; simp
theorem one_len (c : Nat) : (one c).length = 1 := rfl
theorem foldl_one : ∀ (cs : List Nat) (acc : Array Nat), (cs.map one).foldl (fun acc p => acc ++ (Str.ofString "").cps ++ p.cps) acc = acc ++ cs.toArray
  | [], acc => by simp
  | c :: cs, acc => by
    have e : (Str.ofString "").cps = #[] := by decide +kernel
    rw [List.map_cons, List.foldl_cons, foldl_one cs, e]
    show acc ++ #[] ++ #[c] ++ cs.toArray = _
    simp
theorem join_one (cs : List Nat) : Txt.join "" (cs.map one) = sal cs := by
  show (⟨((cs.map one).drop 1).foldl (fun acc p => acc ++ (Str.ofString "").cps ++ p.cps) ((cs.map one).headD Str.empty).cps⟩ : Str) = _
  cases cs with
  | nil => rfl
  | cons c cs =>
    rw [List.map_cons, List.drop_succ_cons, List.drop_zero, List.headD_cons, foldl_one]
    unfold sal one
    simp
theorem sum_one (cs : List Nat) : ((cs.map one).map (fun y : Str => y.length)).sum = cs.length := by
  induction cs with
  | nil => rfl
  | cons c cs ih =>
    rw [List.map_cons, List.map_cons, List.sum_cons, ih, List.length_cons, one_len]
    omega
theorem join_ev {o : Bool} {cs : List Nat} (h : cs.length ≤ 1000) : opMt .join (.str "") [.lst o ((cs.map one).map .str)] = .ok (.str (sal cs)) := by
  have e : (Str.ofString "").length = 0 := by decide +kernel
  rw [Ev.mt_join (by rw [sum_one, List.length_map, e]; omega), join_one]
theorem slice_to {cs : List Nat} {j : Int} (h0 : 0 ≤ j) (h1 : j ≤ cs.length) : Txt.slice (sal cs) none (some j) = sal (cs.take j.toNat) := by
  have := StrLaws.sliceText_to (x := sal cs) (j := j) ⟨h0, by show j ≤ (cs.toArray.toList.length : Nat); simpa using h1⟩
  refine this.trans ?_
  show (⟨((cs.toArray.toList.drop 0).take (j - 0).toNat).toArray⟩ : Str) = ⟨(cs.take j.toNat).toArray⟩
  rw [List.toList_toArray, List.drop_zero, Int.sub_zero]
theorem slice_from {cs : List Nat} {i : Int} (h0 : 0 ≤ i) (h1 : i ≤ cs.length) : Txt.slice (sal cs) (some i) none = sal (cs.drop i.toNat) := by
  have := StrLaws.sliceText_from (x := sal cs) (i := i) ⟨h0, by show i ≤ (cs.toArray.toList.length : Nat); simpa using h1⟩
  refine this.trans ?_
  show (⟨((cs.toArray.toList.drop i.toNat).take ((cs.toArray.toList.length : Int) - i).toNat).toArray⟩ : Str) = ⟨(cs.drop i.toNat).toArray⟩
  rw [List.toList_toArray, List.take_of_length_le (by rw [List.length_drop]; omega)]
theorem sal_app (a b : List Nat) : sal a ++ sal b = sal (a ++ b) := by
  show (⟨a.toArray ++ b.toArray⟩ : Str) = ⟨(a ++ b).toArray⟩
  rw [List.append_toArray]
theorem sal_add {a b : List Nat} (h : a.length + b.length ≤ 1000) : opB .add (.str (sal a)) (.str (sal b)) = .ok (.str (sal (a ++ b))) := by
  rw [Ev.b_adds, Ev.szOk_t (by rw [sal_len, sal_len]; omega), sal_app]
  rfl
end Fr
end L2
namespace Law
open PySem PySem.Spec L2 L2.Fr
theorem sal_inj {a b : List Nat} (h : sal a = sal b) : a = b := by
  unfold sal at h
  injection h with h
  simpa using congrArg Array.toList h
theorem str_lf (fs : List Str) : lfrees (fs.map D.str) = true := Ev.lf_s fs
noncomputable def ch (c k : Int) : Nat := 97 + ((c / 3 + 7 * k) % 26).toNat
noncomputable def ks (m : Int) : List Int := (List.range (m - 0).toNat).map fun k => 0 + ((k : Nat) : Int)
theorem ks_in {m x : Int} (h : x ∈ ks m) : 0 ≤ x ∧ x < m := by
  obtain ⟨k, hk, rfl⟩ := List.mem_map.mp h
  have := List.mem_range.mp hk
  omega
theorem ks_len (m : Int) : (ks m).length = (m - 0).toNat := by unfold ks; rw [List.length_map, List.length_range]
structure Nam (x : Str) : Prop where
  ex : ∃ cs : List Nat, x = sal cs ∧ 1 ≤ cs.length ∧ cs.length ≤ 8 ∧ ∀ c ∈ cs, low c
structure Nms (m : Int) (fs : List Str) : Prop where
  len : fs.length = (m - 0).toNat
  nam : ∀ x ∈ fs, Nam x
theorem names_ok (n : Nat) (c m : Int) (h0 : 0 ≤ m) (h1 : m ≤ 12) : ∃ fs : List Str, callF T (n + 2) 40 [.int c, .int m] = .ok (.lst true (fs.map .str)) ∧ Nms m fs := by
  obtain ⟨xs, ex, lx, px⟩ := stream (show T 39 = some d39 from rfl) rfl rfl rfl n (c / 3) 8 (by omega) (by omega)
  have e1 : fmapM (bodyM (callF T (n + 1)) (.nm 1) [] (.idx (.v 0) (.bin .mod (.v 1) (.c (.int 26)))) [some (.str "abcdefghijklmnopqrstuvwxyz"), none]) (xs.map .int) = .ok (((xs.map fun x => 97 + (x % 26).toNat).map one).map .str) := by
    have hg : (xs.map fun x => 97 + (x % 26).toNat).map one = xs.map fun x : Int => one (97 + (x % 26).toNat) := by
      rw [List.map_map]
      rfl
    rw [hg]
    refine Ev.fmap_all D.int (fun x : Int => one (97 + (x % 26).toNat)) .str _ fun x hx => ?_
    have hx0 := Int.emod_nonneg x (show (26 : Int) ≠ 0 by decide)
    have hx1 := Int.emod_lt_of_pos x (show (0 : Int) < 26 by decide)
    simp -implicitDefEqProofs (disch := omega) only [ev0, Nat.reduceBEq, Nat.reduceSub, Nat.reduceAdd, reduceIte, abc_ix]
  have lb : (xs.map fun x => 97 + (x % 26).toNat).length = 8 := by rw [List.length_map, lx]; rfl
  have hlow : ∀ c ∈ (xs.map fun x => 97 + (x % 26).toNat), low c := by
    intro c hc
    obtain ⟨x, _, rfl⟩ := List.mem_map.mp hc
    have := Int.emod_nonneg x (show (26 : Int) ≠ 0 by decide)
    have := Int.emod_lt_of_pos x (show (0 : Int) < 26 by decide)
    unfold low
    omega
  generalize (xs.map fun x => 97 + (x % 26).toNat) = cs at *
  have lxs : (xs.map D.int).length = 8 := by rw [List.length_map, lx]; rfl
  have je : ∀ o : Bool, opMt .join (.str "") [.lst o ((cs.map one).map .str)] = .ok (.str (sal cs)) := fun o => join_ev (by omega)
  generalize (cs.map one).map D.str = J at *
  generalize xs.map D.int = X at *
  have rk : rngD 0 m = (ks m).map .int := Ev.rngD_map 0 m
  have lk : ((ks m).map D.int).length = (m - 0).toNat := by rw [List.length_map, ks_len]
  by_cases hb : c % 3 = 1 ∧ m ≤ 8
  · have b1 : (c % 3 == 1) = true := by rw [hb.1]; rfl
    have b2 : decide (m ≤ 8) = true := decide_eq_true hb.2
    have e2 : fmapM (bodyM (callF T (n + 1)) (.nm 1) [] (.sl (.v 0) none (some (.bin .add (.v 1) (.c (.int 1))))) [some (.str (sal cs)), none]) ((ks m).map .int) = .ok (((ks m).map fun k => sal (cs.take (k + 1).toNat)).map .str) := by
      refine Ev.fmap_all D.int (fun k : Int => sal (cs.take (k + 1).toNat)) .str _ fun k hk => ?_
      obtain ⟨k0, k1⟩ := ks_in hk
      have es := slice_to (cs := cs) (j := k + 1) (by omega) (by omega)
      have sl := sal_len cs
      have s8 : (sal cs).length ≤ 16777216 := by omega
      simp -implicitDefEqProofs (disch := omega) only [ev0, Nat.reduceBEq, Nat.reduceSub, Nat.reduceAdd, reduceIte, es]
    refine ⟨(ks m).map fun k => sal (cs.take (k + 1).toNat), ?_, by rw [List.length_map, ks_len], fun x hx => ?_⟩
    · rw [Ev.go (show T 40 = some d40 from rfl) (show d40.np = 2 from rfl) (show d40.G.N.length = 5 from rfl) (show d40.body = b40 from rfl) rfl]; unfold b40
      generalize ((ks m).map fun k => sal (cs.take (k + 1).toNat)) = F at *
      have ff := str_lf F
      generalize (ks m).map D.int = KK at *
      simp -implicitDefEqProofs (disch := omega) only [ev0, Nat.reduceBEq, Nat.reduceSub, Nat.reduceAdd, reduceIte, ex, e1, je, b1, b2, rk, e2, lxs, lk, ff]
    · obtain ⟨k, hk, rfl⟩ := List.mem_map.mp hx
      obtain ⟨k0, k1⟩ := ks_in hk
      exact ⟨_, rfl, by rw [List.length_take]; omega, by rw [List.length_take]; omega, fun c hc => hlow c (List.mem_of_mem_take hc)⟩
  · have b3 : ((c % 3 == 1) && decide (m ≤ 8)) = false := by
      rw [Bool.and_eq_false_iff]
      by_cases hc : c % 3 = 1
      · exact .inr (decide_eq_false fun z => hb ⟨hc, z⟩)
      · exact .inl (by simpa using hc)
    have m0 := Int.emod_nonneg (c / 3) (show (8 : Int) ≠ 0 by decide)
    have m1 := Int.emod_lt_of_pos (c / 3) (show (0 : Int) < 8 by decide)
    have es := slice_to (cs := cs) (j := 1 + c / 3 % 8) (by omega) (by omega)
    have lb' : (cs.take (1 + c / 3 % 8).toNat).length = (1 + c / 3 % 8).toNat := by rw [List.length_take]; omega
    have sl := sal_len cs
    have lB : ∀ z ∈ cs.take (1 + c / 3 % 8).toNat, low z := fun z hz => hlow z (List.mem_of_mem_take hz)
    generalize cs.take (1 + c / 3 % 8).toNat = B at *
    have slB := sal_len B
    have hlen : ((sal B).length : Int) = 1 + c / 3 % 8 := by rw [slB]; omega
    have a0 := Int.emod_nonneg (c / 24) (show ((sal B).length : Int) ≠ 0 by omega)
    have a1 := Int.emod_lt_of_pos (c / 24) (show (0 : Int) < ((sal B).length : Int) by omega)
    generalize hat : c / 24 % ((sal B).length : Int) = at' at *
    have es1 := slice_to (cs := B) (j := at') (by omega) (by omega)
    have es2 := slice_from (cs := B) (i := at' + 1) (by omega) (by omega)
    have la : (B.take at'.toNat).length = at'.toNat := by rw [List.length_take]; omega
    have lc : (B.drop (at' + 1).toNat).length = B.length - (at' + 1).toNat := List.length_drop ..
    have lA : ∀ z ∈ B.take at'.toNat, low z := fun z hz => lB z (List.mem_of_mem_take hz)
    have lC : ∀ z ∈ B.drop (at' + 1).toNat, low z := fun z hz => lB z (List.mem_of_mem_drop hz)
    generalize B.take at'.toNat = A at *
    generalize B.drop (at' + 1).toNat = C at *
    have e2 : fmapM (bodyM (callF T (n + 1)) (.nm 4) [] (.bin .add (.bin .add (.sl (.v 0) none (some (.v 1))) (.idx (.v 2) (.bin .mod (.bin .add (.bin .fdiv (.v 3) (.c (.int 3))) (.bin .mul (.c (.int 7)) (.v 4))) (.c (.int 26))))) (.sl (.v 0) (some (.bin .add (.v 1) (.c (.int 1)))) none)) [some (.str (sal B)), some (.int at'), some (.str "abcdefghijklmnopqrstuvwxyz"), some (.int c), none]) ((ks m).map .int) = .ok (((ks m).map fun k => sal (A ++ [ch c k] ++ C)).map .str) := by
      refine Ev.fmap_all D.int (fun k : Int => sal (A ++ [ch c k] ++ C)) .str _ fun k hk => ?_
      obtain ⟨k0, k1⟩ := ks_in hk
      have r0 := Int.emod_nonneg (c / 3 + 7 * k) (show (26 : Int) ≠ 0 by decide)
      have r1 := Int.emod_lt_of_pos (c / 3 + 7 * k) (show (0 : Int) < 26 by decide)
      have f0 := abc_ix r0 r1
      rw [show one (97 + ((c / 3 + 7 * k) % 26).toNat) = sal [ch c k] from rfl] at f0
      have f1 : opB .add (.str (sal A)) (.str (sal [ch c k])) = .ok (.str (sal (A ++ [ch c k]))) := sal_add (by rw [List.length_cons, List.length_nil]; omega)
      have f2 : opB .add (.str (sal (A ++ [ch c k]))) (.str (sal C)) = .ok (.str (sal (A ++ [ch c k] ++ C))) := sal_add (by rw [List.length_append, List.length_cons, List.length_nil]; omega)
      generalize sal (A ++ [ch c k] ++ C) = W3 at *
      generalize sal (A ++ [ch c k]) = W2 at *
      generalize sal [ch c k] = W1 at *
      have s8 : (sal B).length ≤ 16777216 := by omega
      simp -implicitDefEqProofs (disch := omega) only [ev0, Nat.reduceBEq, Nat.reduceSub, Nat.reduceAdd, reduceIte, es1, es2, f0, f1, f2]
    refine ⟨(ks m).map fun k => sal (A ++ [ch c k] ++ C), ?_, by rw [List.length_map, ks_len], fun x hx => ?_⟩
    · rw [Ev.go (show T 40 = some d40 from rfl) (show d40.np = 2 from rfl) (show d40.G.N.length = 5 from rfl) (show d40.body = b40 from rfl) rfl]; unfold b40
      generalize ((ks m).map fun k => sal (A ++ [ch c k] ++ C)) = F at *
      have ff := str_lf F
      generalize (ks m).map D.int = KK at *
      have s8 : (sal cs).length ≤ 16777216 := by omega
      have s9 : (sal B).length ≤ 16777216 := by omega
      have sp : (0 : Int) < ((sal B).length : Int) := by omega
      cases q1 : (c % 3 == 1) with
      | true =>
        cases q2 : decide (m ≤ 8) with
        | true => rw [q1, q2] at b3; cases b3
        | false => simp -implicitDefEqProofs (disch := omega) only [ev0, Nat.reduceBEq, Nat.reduceSub, Nat.reduceAdd, reduceIte, ex, e1, je, q1, q2, rk, e2, lxs, lk, ff, es, hat]
      | false => simp -implicitDefEqProofs (disch := omega) only [ev0, Nat.reduceBEq, Nat.reduceSub, Nat.reduceAdd, reduceIte, ex, e1, je, q1, rk, e2, lxs, lk, ff, es, hat]
    · obtain ⟨k, hk, rfl⟩ := List.mem_map.mp hx
      refine ⟨_, rfl, by rw [List.length_append, List.length_append, List.length_singleton]; omega, by rw [List.length_append, List.length_append, List.length_singleton]; omega, fun z hz => ?_⟩
      rcases List.mem_append.mp hz with hz | hz
      · rcases List.mem_append.mp hz with hz | hz
        · exact lA z hz
        · rw [List.mem_singleton] at hz
          subst hz
          have := Int.emod_nonneg (c / 3 + 7 * k) (show (26 : Int) ≠ 0 by decide)
          have := Int.emod_lt_of_pos (c / 3 + 7 * k) (show (0 : Int) < 26 by decide)
          unfold low ch
          omega
      · exact lC z hz
end Law
namespace Law
open PySem PySem.Spec L2 L2.Fr
noncomputable def Sig (c : Nat) : Prop := (97 ≤ c ∧ c ≤ 122) ∨ (48 ≤ c ∧ c ≤ 57)
inductive Th where
  | txt (cs : List Nat) | num (i : Int)
noncomputable def Th.d : Th → D
  | .txt cs => .str (sal cs)
  | .num i => .int i
noncomputable def Th.ok : Th → Prop
  | .txt cs => cs.length ≤ 8 ∧ ∀ c ∈ cs, Sig c
  | .num i => -999999999 ≤ i ∧ i ≤ 999999999
noncomputable def Th.isBeg : Th → Prop
  | .txt cs => 1 ≤ cs.length
  | .num _ => False
noncomputable def SG : Str := "abcdefghijklmnopqrstuvwxyz0123456789"
noncomputable def sgs : List Nat := List.range' 97 26 ++ List.range' 48 10
theorem sg_list : SG.cps.toList = sgs := by decide +kernel
theorem sg_len : SG.length = 36 := by decide +kernel
noncomputable def sg (i : Int) : Nat := sgs.getD i.toNat 0
theorem sg_sig {i : Int} (h0 : 0 ≤ i) (h1 : i < 36) : Sig (sg i) := by
  have key : ∀ k : Nat, k < 36 → (97 ≤ sgs.getD k 0 ∧ sgs.getD k 0 ≤ 122) ∨ (48 ≤ sgs.getD k 0 ∧ sgs.getD k 0 ≤ 57) := by decide +kernel
  exact key i.toNat (by omega)
theorem sg_ix {i : Int} (h0 : 0 ≤ i) (h1 : i < 36) : opIx (.str SG) (.int i) = .ok (.str (one (sg i))) := by
  rw [Ev.x_c h0 (by rw [sg_len]; exact h1) (by rw [sg_len]; decide), sg_list]
  rfl
theorem ix2 {o : Bool} {a b : Int} {i : Int} (h0 : 0 ≤ i) (h1 : i < 2) : opIx (.lst o [.int a, .int b]) (.int i) = .ok (.int (if i = 0 then a else b)) := by
  rcases (show i = 0 ∨ i = 1 by omega) with rfl | rfl <;> rfl
theorem ix3 {o : Bool} {a b c : Int} {i : Int} (h0 : 0 ≤ i) (h1 : i < 3) : opIx (.lst o [.int a, .int b, .int c]) (.int i) = .ok (.int (if i = 0 then a else if i = 1 then b else c)) := by
  rcases (show i = 0 ∨ i = 1 ∨ i = 2 by omega) with rfl | rfl | rfl <;> rfl
theorem ix2s {o : Bool} {a b : Str} {i : Int} (h0 : 0 ≤ i) (h1 : i < 2) : opIx (.lst o [.str a, .str b]) (.int i) = .ok (.str (if i = 0 then a else b)) := by
  rcases (show i = 0 ∨ i = 1 by omega) with rfl | rfl <;> rfl
theorem getD_nn {xs : List Int} (h : ∀ x ∈ xs, 0 ≤ x) (k : Nat) : 0 ≤ xs.getD k 0 := by
  rw [List.getD_eq_getElem?_getD]
  cases e : xs[k]? with
  | none => exact Int.le_refl _
  | some v => exact h v (List.mem_of_getElem? e)
theorem str10 (n : Nat) (c : Int) : ∃ xs : List Int, callF T (n + 1) 39 [.int c, .int 10] = .ok (.lst true (xs.map .int)) ∧ xs.length = 10 ∧ ∀ k, 0 ≤ xs.getD k 0 := by
  obtain ⟨xs, ex, lx, px⟩ := stream (show T 39 = some d39 from rfl) rfl rfl rfl n c 10 (by omega) (by omega)
  exact ⟨xs, ex, lx, getD_nn px⟩
theorem tn0 : Int.toNat 0 = 0 := rfl
theorem tn1 : Int.toNat 1 = 1 := rfl
theorem tn2 : Int.toNat 2 = 2 := rfl
theorem tn3 : Int.toNat 3 = 3 := rfl
theorem told_num (n : Nat) (c : Int) : ∃ i : Int, callF T (n + 2) 41 [.int c, .str "number"] = .ok (.int i) ∧ -999999999 ≤ i ∧ i ≤ 999999999 := by
  obtain ⟨xs, ex, lx, px⟩ := str10 n c
  have f1 : ((Str.ofString "number") == (Str.ofString "number")) = true := by decide +kernel
  have p1 := px 1
  have i2 := ix2 (o := true) (a := 4) (b := 999999999) (i := xs.getD 1 0 % 2) (by omega) (by omega)
  generalize hf : (if xs.getD 1 0 % 2 = 0 then (4 : Int) else 999999999) = far at i2
  have hfar : far = 4 ∨ far = 999999999 := by
    rw [← hf]
    split <;> simp
  have r0 := Int.emod_nonneg (xs.getD 2 0) (show 2 * far + 1 ≠ 0 by omega)
  have r1 := Int.emod_lt_of_pos (xs.getD 2 0) (show 0 < 2 * far + 1 by omega)
  have m0 : 0 < 2 * far + 1 := by omega
  have i3 := ix3 (o := true) (a := xs.getD 2 0 % (2 * far + 1) - far) (b := far) (c := 0 - far) (i := xs.getD 3 0 % 3) (by omega) (by omega)
  refine ⟨if xs.getD 3 0 % 3 = 0 then xs.getD 2 0 % (2 * far + 1) - far else if xs.getD 3 0 % 3 = 1 then far else 0 - far, ?_, ?_, ?_⟩
  · rw [Ev.go (show T 41 = some d41 from rfl) (show d41.np = 2 from rfl) (show d41.G.N.length = 6 from rfl) (show d41.body = b41 from rfl) rfl]; unfold b41
    simp -implicitDefEqProofs (disch := omega) only [ev0, Nat.reduceBEq, Nat.reduceSub, Nat.reduceAdd, reduceIte, ex, f1, i2, i3, tn0, tn1, tn2, tn3]
  · split
    · omega
    · split <;> omega
  · split
    · omega
    · split <;> omega
theorem cut210 {xs : List Int} (h : xs.length = 10) : cutG (xs.map D.int) (some 2) (some 10) = (xs.drop 2).map .int := by
  rw [Ev.cutG_map]
  congr 1
  unfold cutG HT.sIx
  rw [h]
  show List.take 8 (List.drop 2 xs) = _
  rw [List.take_of_length_le (by rw [List.length_drop]; omega)]
theorem drawn (n : Nat) {xs : List Int} (lx : xs.length = 10) (px : ∀ k, 0 ≤ xs.getD k 0) : ∃ cs : List Nat, cs.length = 8 ∧ (∀ c ∈ cs, Sig c) ∧
    fmapM (bodyM (callF T (n + 1)) (.nm 2) [] (.idx (.v 0) (.bin .mod (.v 2) (.idx (.lst [(.c (.int 2)), (.c (.int 36))]) (.bin .fdiv (.bin .mod (.idx (.v 1) (.c (.int 1))) (.c (.int 4))) (.c (.int 3)))))) [some (.str SG), some (.lst true (xs.map .int)), none]) ((xs.drop 2).map .int) = .ok ((cs.map one).map .str) := by
  have p1 := px 1
  have i2 := ix2 (o := true) (a := 2) (b := 36) (i := xs.getD 1 0 % 4 / 3) (by omega) (by omega)
  generalize hf : (if xs.getD 1 0 % 4 / 3 = 0 then (2 : Int) else 36) = m at i2
  have hm : m = 2 ∨ m = 36 := by
    rw [← hf]
    split <;> simp
  refine ⟨(xs.drop 2).map fun x => sg (x % m), by rw [List.length_map, List.length_drop, lx], fun c hc => ?_, ?_⟩
  · obtain ⟨x, _, rfl⟩ := List.mem_map.mp hc
    have r0 := Int.emod_nonneg x (show m ≠ 0 by omega)
    have r1 := Int.emod_lt_of_pos x (show 0 < m by omega)
    exact sg_sig r0 (by omega)
  · rw [show ((xs.drop 2).map fun x => sg (x % m)).map one = (xs.drop 2).map fun x => one (sg (x % m)) from List.map_map ..]
    refine Ev.fmap_all D.int (fun x => one (sg (x % m))) .str _ fun x hx => ?_
    have r0 := Int.emod_nonneg x (show m ≠ 0 by omega)
    have r1 := Int.emod_lt_of_pos x (show 0 < m by omega)
    have m0 : 0 < m := by omega
    have e := sg_ix (i := x % m) r0 (by omega)
    simp -implicitDefEqProofs (disch := omega) only [ev0, Nat.reduceBEq, Nat.reduceSub, Nat.reduceAdd, reduceIte, i2, e, tn1]
theorem told_any (n : Nat) (c : Int) : ∃ t : Th, callF T (n + 2) 41 [.int c, .str "any"] = .ok t.d ∧ t.ok := by
  obtain ⟨xs, ex, lx, px⟩ := str10 n c
  have f1 : ((Str.ofString "any") == (Str.ofString "number")) = false := by decide +kernel
  have f2 : ((Str.ofString "any") == (Str.ofString "any")) = true := by decide +kernel
  have f3 : ((Str.ofString "any") == (Str.ofString "begins")) = false := by decide +kernel
  have p0 := px 0
  have p1 := px 1
  have p2 := px 2
  by_cases h3 : xs.getD 0 0 % 3 = 0
  · have g3 : (xs.getD 0 0 % 3 == 0) = true := by rw [h3]; rfl
    have i2 := ix2 (o := true) (a := 4) (b := 999999999) (i := xs.getD 1 0 % 2) (by omega) (by omega)
    generalize hf : (if xs.getD 1 0 % 2 = 0 then (4 : Int) else 999999999) = far at i2
    have hfar : far = 4 ∨ far = 999999999 := by
      rw [← hf]
      split <;> simp
    have r0 := Int.emod_nonneg (xs.getD 2 0) (show 2 * far + 1 ≠ 0 by omega)
    have r1 := Int.emod_lt_of_pos (xs.getD 2 0) (show 0 < 2 * far + 1 by omega)
    have m0 : 0 < 2 * far + 1 := by omega
    have i3 := ix3 (o := true) (a := xs.getD 2 0 % (2 * far + 1) - far) (b := far) (c := 0 - far) (i := xs.getD 3 0 % 3) (by omega) (by omega)
    refine ⟨.num (if xs.getD 3 0 % 3 = 0 then xs.getD 2 0 % (2 * far + 1) - far else if xs.getD 3 0 % 3 = 1 then far else 0 - far), ?_, ?_, ?_⟩
    · unfold Th.d
      rw [Ev.go (show T 41 = some d41 from rfl) (show d41.np = 2 from rfl) (show d41.G.N.length = 6 from rfl) (show d41.body = b41 from rfl) rfl]; unfold b41
      simp -implicitDefEqProofs (disch := omega) only [ev0, Nat.reduceBEq, Nat.reduceSub, Nat.reduceAdd, reduceIte, ex, f1, f2, g3, i2, i3, tn0, tn1, tn2, tn3]
    · split
      · omega
      · split <;> omega
    · split
      · omega
      · split <;> omega
  · have g3 : (xs.getD 0 0 % 3 == 0) = false := by simpa using h3
    obtain ⟨cs, lc, sc, ec⟩ := drawn n lx px
    have je : ∀ o : Bool, opMt .join (.str "") [.lst o ((cs.map one).map .str)] = .ok (.str (sal cs)) := fun o => join_ev (by omega)
    have i2 := ix2 (o := true) (a := 4) (b := 9) (i := xs.getD 2 0 % 2) (by omega) (by omega)
    generalize hf : (if xs.getD 2 0 % 2 = 0 then (4 : Int) else 9) = m at i2
    have hm : m = 4 ∨ m = 9 := by
      rw [← hf]
      split <;> simp
    have m0 : 0 < m := by omega
    have r0 := Int.emod_nonneg (xs.getD 0 0 / 3) (show m ≠ 0 by omega)
    have r1 := Int.emod_lt_of_pos (xs.getD 0 0 / 3) (show 0 < m by omega)
    have es := slice_to (cs := cs) (j := xs.getD 0 0 / 3 % m) (by omega) (by omega)
    refine ⟨.txt (cs.take (xs.getD 0 0 / 3 % m).toNat), ?_, by rw [List.length_take]; omega, fun z hz => sc z (List.mem_of_mem_take hz)⟩
    have c10 := cut210 lx
    have l8 : ((xs.drop 2).map D.int).length = 8 := by rw [List.length_map, List.length_drop, lx]
    have sl := sal_len cs
    have s8 : (sal cs).length ≤ 16777216 := by omega
    unfold Th.d
    generalize (cs.map one).map D.str = J at *
    generalize (xs.drop 2).map D.int = XD at *
    unfold SG at ec
    rw [Ev.go (show T 41 = some d41 from rfl) (show d41.np = 2 from rfl) (show d41.G.N.length = 6 from rfl) (show d41.body = b41 from rfl) rfl]; unfold b41
    simp -implicitDefEqProofs (disch := omega) only [ev0, Nat.reduceBEq, Nat.reduceSub, Nat.reduceAdd, reduceIte, ex, f1, f2, f3, g3, i2, c10, ec, je, es, l8, tn0, tn1, tn2, tn3]
theorem told_beg (n : Nat) (c : Int) : ∃ cs : List Nat, callF T (n + 2) 41 [.int c, .str "begins"] = .ok (.str (sal cs)) ∧ 1 ≤ cs.length ∧ cs.length ≤ 8 ∧ ∀ c ∈ cs, Sig c := by
  obtain ⟨xs, ex, lx, px⟩ := str10 n c
  have f1 : ((Str.ofString "begins") == (Str.ofString "number")) = false := by decide +kernel
  have f2 : ((Str.ofString "begins") == (Str.ofString "any")) = false := by decide +kernel
  have f3 : ((Str.ofString "begins") == (Str.ofString "begins")) = true := by decide +kernel
  have p0 := px 0
  have p2 := px 2
  obtain ⟨cs, lc, sc, ec⟩ := drawn n lx px
  have je : ∀ o : Bool, opMt .join (.str "") [.lst o ((cs.map one).map .str)] = .ok (.str (sal cs)) := fun o => join_ev (by omega)
  have i2 := ix2 (o := true) (a := 3) (b := 8) (i := xs.getD 2 0 % 2) (by omega) (by omega)
  generalize hf : (if xs.getD 2 0 % 2 = 0 then (3 : Int) else 8) = m at i2
  have hm : m = 3 ∨ m = 8 := by
    rw [← hf]
    split <;> simp
  have m0 : 0 < m := by omega
  have r0 := Int.emod_nonneg (xs.getD 0 0 / 3) (show m ≠ 0 by omega)
  have r1 := Int.emod_lt_of_pos (xs.getD 0 0 / 3) (show 0 < m by omega)
  have es := slice_to (cs := cs) (j := 1 + xs.getD 0 0 / 3 % m) (by omega) (by omega)
  refine ⟨cs.take (1 + xs.getD 0 0 / 3 % m).toNat, ?_, by rw [List.length_take]; omega, by rw [List.length_take]; omega, fun z hz => sc z (List.mem_of_mem_take hz)⟩
  have c10 := cut210 lx
  have l8 : ((xs.drop 2).map D.int).length = 8 := by rw [List.length_map, List.length_drop, lx]
  have sl := sal_len cs
  have s8 : (sal cs).length ≤ 16777216 := by omega
  generalize (cs.map one).map D.str = J at *
  generalize (xs.drop 2).map D.int = XD at *
  unfold SG at ec
  rw [Ev.go (show T 41 = some d41 from rfl) (show d41.np = 2 from rfl) (show d41.G.N.length = 6 from rfl) (show d41.body = b41 from rfl) rfl]; unfold b41
  simp -implicitDefEqProofs (disch := omega) only [ev0, Nat.reduceBEq, Nat.reduceSub, Nat.reduceAdd, reduceIte, ex, f1, f2, f3, i2, c10, ec, je, es, l8, tn0, tn1, tn2, tn3]
end Law
namespace Law
open PySem PySem.Spec L2 L2.Fr
theorem fmap_ex {α β : Type} {g : D → Res (Option D)} (emb : α → D) (emb' : β → D) (P : β → Prop) : ∀ (xs : List α), (∀ x ∈ xs, ∃ t, g (emb x) = .ok (some (emb' t)) ∧ P t) → ∃ ts : List β, fmapM g (xs.map emb) = .ok (ts.map emb') ∧ ts.length = xs.length ∧ ∀ t ∈ ts, P t
  | [], _ => ⟨[], rfl, rfl, fun t h => absurd h (by simp)⟩
  | x :: xs, h => by
    obtain ⟨t, e, p⟩ := h x (by simp)
    obtain ⟨ts, e', l, ps⟩ := fmap_ex emb emb' P xs fun y hy => h y (List.mem_cons_of_mem _ hy)
    refine ⟨t :: ts, ?_, by rw [List.length_cons, List.length_cons, l], fun z hz => ?_⟩
    · show bnd (g (emb x)) _ = _
      rw [e]
      show bnd (fmapM g (xs.map emb)) _ = _
      rw [e']
      rfl
    · rcases List.mem_cons.mp hz with rfl | hz
      · exact p
      · exact ps z hz
theorem th_lf : ∀ ts : List Th, lfrees (ts.map Th.d) = true
  | [] => rfl
  | t :: ts => by
    rw [List.map_cons]
    show (lfree t.d && lfrees (ts.map Th.d)) = true
    rw [th_lf ts]
    cases t <;> rfl
theorem th_er (ts : List Th) : ers (ts.map Th.d) = ts.map Th.d := ers_lfrees (th_lf ts)
noncomputable def ws : List Str := ["is", "not", "begins", "least", "most", "has", "lacks", "in", "out"]
structure Cnd (nm : List Nat) (w : Str) (ts : List Th) : Prop where
  n1 : 1 ≤ nm.length
  n8 : nm.length ≤ 8
  low : ∀ c ∈ nm, low c
  len : ts.length ≤ 10
  ok : ∀ t ∈ ts, t.ok
  go : ((w = "is" ∨ w = "not") ∧ 1 ≤ ts.length) ∨ (w = "begins" ∧ 1 ≤ ts.length ∧ ∀ t ∈ ts, t.isBeg) ∨ ((w = "least" ∨ w = "most") ∧ ∃ i, ts = [.num i]) ∨ ((w = "has" ∨ w = "lacks" ∨ w = "in" ∨ w = "out") ∧ ts = [])
theorem w9 {k : Nat} (h : k < 9) : (ws.getD k ⟨#[]⟩ = "is" ∨ ws.getD k ⟨#[]⟩ = "not") ∨ ws.getD k ⟨#[]⟩ = "begins" ∨ (ws.getD k ⟨#[]⟩ = "least" ∨ ws.getD k ⟨#[]⟩ = "most") ∨ (ws.getD k ⟨#[]⟩ = "has" ∨ ws.getD k ⟨#[]⟩ = "lacks") ∨ (ws.getD k ⟨#[]⟩ = "in" ∨ ws.getD k ⟨#[]⟩ = "out") := by
  match k, h with
  | 0, _ => exact .inl (.inl rfl)
  | 1, _ => exact .inl (.inr rfl)
  | 2, _ => exact .inr (.inl rfl)
  | 3, _ => exact .inr (.inr (.inl (.inl rfl)))
  | 4, _ => exact .inr (.inr (.inl (.inr rfl)))
  | 5, _ => exact .inr (.inr (.inr (.inl (.inl rfl))))
  | 6, _ => exact .inr (.inr (.inr (.inl (.inr rfl))))
  | 7, _ => exact .inr (.inr (.inr (.inr (.inl rfl))))
  | 8, _ => exact .inr (.inr (.inr (.inr (.inr rfl))))
theorem nam_at {fs : List Str} (h : ∀ x ∈ fs, Nam x) {k : Nat} (hk : k < fs.length) : ∃ cs : List Nat, fs.getD k ⟨#[]⟩ = sal cs ∧ 1 ≤ cs.length ∧ cs.length ≤ 8 ∧ ∀ c ∈ cs, low c := by
  rw [List.getD_eq_getElem?_getD, List.getElem?_eq_getElem hk]
  exact (h _ (List.getElem_mem hk)).ex
theorem cond_ok (n : Nat) (c : Int) {ns gs : List Str} (ln : ns.length = 3) (lg : gs.length = 3) (hn : ∀ x ∈ ns, Nam x) (hg : ∀ x ∈ gs, Nam x) :
    ∃ (nm : List Nat) (w : Str) (ts : List Th), callF T (n + 3) 42 [.int c, .lst false (ns.map .str), .lst false (gs.map .str)] = .ok (.tup [.str (sal nm), .str w, .lst true (ts.map Th.d)]) ∧ Cnd nm w ts := by
  obtain ⟨xs, ex, lx, px'⟩ := stream (show T 39 = some d39 from rfl) rfl rfl rfl (n + 1) c 4 (by omega) (by omega)
  have px := getD_nn px'
  have lx4 : xs.length = 4 := lx
  have p0 := px 0
  have p1 := px 1
  have p2 := px 2
  have p3 := px 3
  have eg : eqsG (eqN 39) (gs.map D.str) [] = .ok false := by
    cases gs with
    | nil => cases lg
    | cons g gs => rfl
  have i9 := ix2 (o := true) (a := 9) (b := 7) (i := 0) (by omega) (by omega)
  rw [if_pos rfl] at i9
  have hw : opIx (.lst true [.str "is", .str "not", .str "begins", .str "least", .str "most", .str "has", .str "lacks", .str "in", .str "out"]) (.int (xs.getD 0 0 % 9)) = .ok (.str (ws.getD (xs.getD 0 0 % 9).toNat ⟨#[]⟩)) := Ev.x_ss (o := true) (xs := ws) (by omega) (by show _ < ((9 : Nat) : Int); omega)
  have hw9 := w9 (k := (xs.getD 0 0 % 9).toNat) (by omega)
  generalize ws.getD (xs.getD 0 0 % 9).toNat ⟨#[]⟩ = w at hw hw9
  have l3 : (ns.map D.str).length = 3 := by rw [List.length_map, ln]
  have l3' : (gs.map D.str).length = 3 := by rw [List.length_map, lg]
  have c3 : ((3 : Nat) : Int) = 3 := rfl
  obtain ⟨nm, en, nm1, nm8, nml⟩ := nam_at hn (k := (xs.getD 1 0 % 3).toNat) (by omega)
  obtain ⟨gm, eg', gm1, gm8, gml⟩ := nam_at hg (k := (xs.getD 1 0 % 3).toNat) (by omega)
  have hx : opIx (.lst false (ns.map .str)) (.int (xs.getD 1 0 % 3)) = .ok (.str (sal nm)) := by rw [Ev.x_ss (by omega) (by omega), en]
  have hx' : opIx (.lst false (gs.map .str)) (.int (xs.getD 1 0 % 3)) = .ok (.str (sal gm)) := by rw [Ev.x_ss (by omega) (by omega), eg']
  generalize ns.map D.str = NS at *
  generalize gs.map D.str = GS at *
  have nf : ∀ {a b : String}, (Str.ofString a == Str.ofString b) = true → ∀ {x : Str}, x = Str.ofString a → (x == Str.ofString b) = true := fun h x e => by rw [e]; exact h
  rcases hw9 with hw9 | hw9 | hw9 | hw9 | hw9
  · have q1 : (w == "in") = false := by rcases hw9 with rfl | rfl <;> decide +kernel
    have q2 : (w == "out") = false := by rcases hw9 with rfl | rfl <;> decide +kernel
    have q3 : (w == "has") = false := by rcases hw9 with rfl | rfl <;> decide +kernel
    have q4 : (w == "lacks") = false := by rcases hw9 with rfl | rfl <;> decide +kernel
    have q5 : (w == "least") = false := by rcases hw9 with rfl | rfl <;> decide +kernel
    have q6 : (w == "most") = false := by rcases hw9 with rfl | rfl <;> decide +kernel
    have q7 : (w == "begins") = false := by rcases hw9 with rfl | rfl <;> decide +kernel
    have i2 := ix2 (o := true) (a := 1 + xs.getD 2 0 % 3) (b := 1 + xs.getD 2 0 % 10) (i := xs.getD 3 0 % 4 / 3) (by omega) (by omega)
    generalize hf : (if xs.getD 3 0 % 4 / 3 = 0 then 1 + xs.getD 2 0 % 3 else 1 + xs.getD 2 0 % 10) = m at i2
    have hm : 1 ≤ m ∧ m ≤ 10 := by
      rw [← hf]
      split <;> omega
    have rk : rngD 0 m = (ks m).map .int := Ev.rngD_map 0 m
    have lk : ((ks m).map D.int).length = (m - 0).toNat := by rw [List.length_map, ks_len]
    obtain ⟨ts, et, lt, pt⟩ := fmap_ex (g := bodyM (callF T (n + 2)) (.nm 2) [] (.call 41 [.bin .add (.bin .fdiv (.v 0) (.c (.int 5))) (.bin .mul (.c (.int 31)) (.v 2)), .v 1]) [some (.int c), some (.str "any"), none]) D.int Th.d Th.ok (ks m) fun k hk => by
      obtain ⟨t, e, p⟩ := told_any n (c / 5 + 31 * k)
      refine ⟨t, ?_, p⟩
      simp -implicitDefEqProofs (disch := omega) only [ev0, Nat.reduceBEq, Nat.reduceSub, Nat.reduceAdd, reduceIte, e]
    rw [ks_len] at lt
    refine ⟨nm, w, ts, ?_, nm1, nm8, nml, by omega, pt, .inl ⟨hw9, by omega⟩⟩
    have i8 := ix2s (o := true) (a := "any") (b := "begins") (i := 0) (by omega) (by omega)
    rw [if_pos rfl] at i8
    have tl := th_lf ts
    generalize ts.map Th.d = TS at *
    generalize (ks m).map D.int = KK at *
    rw [Ev.go (show T 42 = some d42 from rfl) (show d42.np = 3 from rfl) (show d42.G.N.length = 9 from rfl) (show d42.body = b42 from rfl) rfl]; unfold b42
    simp -implicitDefEqProofs (disch := omega) only [ev0, Nat.reduceBEq, Nat.reduceSub, Nat.reduceAdd, reduceIte, ex, eg, i9, hw, l3, l3', c3, hx, q1, q2, q3, q4, q5, q6, q7, i2, i8, rk, lk, et, tl, tn0, tn1, tn2, tn3]
  · have q1 : (w == "in") = false := by subst hw9; decide +kernel
    have q2 : (w == "out") = false := by subst hw9; decide +kernel
    have q3 : (w == "has") = false := by subst hw9; decide +kernel
    have q4 : (w == "lacks") = false := by subst hw9; decide +kernel
    have q5 : (w == "least") = false := by subst hw9; decide +kernel
    have q6 : (w == "most") = false := by subst hw9; decide +kernel
    have q7 : (w == "begins") = true := by subst hw9; decide +kernel
    have i2 := ix2 (o := true) (a := 1 + xs.getD 2 0 % 3) (b := 1 + xs.getD 2 0 % 10) (i := xs.getD 3 0 % 4 / 3) (by omega) (by omega)
    generalize hf : (if xs.getD 3 0 % 4 / 3 = 0 then 1 + xs.getD 2 0 % 3 else 1 + xs.getD 2 0 % 10) = m at i2
    have hm : 1 ≤ m ∧ m ≤ 10 := by
      rw [← hf]
      split <;> omega
    have rk : rngD 0 m = (ks m).map .int := Ev.rngD_map 0 m
    have lk : ((ks m).map D.int).length = (m - 0).toNat := by rw [List.length_map, ks_len]
    obtain ⟨ts, et, lt, pt⟩ := fmap_ex (g := bodyM (callF T (n + 2)) (.nm 2) [] (.call 41 [.bin .add (.bin .fdiv (.v 0) (.c (.int 5))) (.bin .mul (.c (.int 31)) (.v 2)), .v 1]) [some (.int c), some (.str "begins"), none]) D.int Th.d (fun t => t.ok ∧ t.isBeg) (ks m) fun k hk => by
      obtain ⟨cs, e, p1, p8, pc⟩ := told_beg n (c / 5 + 31 * k)
      refine ⟨.txt cs, ?_, ⟨p8, pc⟩, p1⟩
      show _ = Except.ok (some (D.str (sal cs)))
      simp -implicitDefEqProofs (disch := omega) only [ev0, Nat.reduceBEq, Nat.reduceSub, Nat.reduceAdd, reduceIte, e]
    rw [ks_len] at lt
    refine ⟨nm, w, ts, ?_, nm1, nm8, nml, by omega, fun t ht => (pt t ht).1, .inr (.inl ⟨hw9, by omega, fun t ht => (pt t ht).2⟩)⟩
    have i8 := ix2s (o := true) (a := "any") (b := "begins") (i := 1) (by omega) (by omega)
    rw [if_neg (by omega)] at i8
    have tl := th_lf ts
    generalize ts.map Th.d = TS at *
    generalize (ks m).map D.int = KK at *
    rw [Ev.go (show T 42 = some d42 from rfl) (show d42.np = 3 from rfl) (show d42.G.N.length = 9 from rfl) (show d42.body = b42 from rfl) rfl]; unfold b42
    simp -implicitDefEqProofs (disch := omega) only [ev0, Nat.reduceBEq, Nat.reduceSub, Nat.reduceAdd, reduceIte, ex, eg, i9, hw, l3, l3', c3, hx, q1, q2, q3, q4, q5, q6, q7, i2, i8, rk, lk, et, tl, tn0, tn1, tn2, tn3]
  · have q1 : (w == "in") = false := by rcases hw9 with rfl | rfl <;> decide +kernel
    have q2 : (w == "out") = false := by rcases hw9 with rfl | rfl <;> decide +kernel
    have q3 : (w == "has") = false := by rcases hw9 with rfl | rfl <;> decide +kernel
    have q4 : (w == "lacks") = false := by rcases hw9 with rfl | rfl <;> decide +kernel
    obtain ⟨i, ei, i0, i1⟩ := told_num n (c / 5)
    refine ⟨nm, w, [.num i], ?_, nm1, nm8, nml, by simp, fun t ht => ?_, .inr (.inr (.inl ⟨hw9, i, rfl⟩))⟩
    · show _ = Except.ok (D.tup [.str (sal nm), .str w, .lst true [.int i]])
      cases q5 : (w == "least") with
      | true =>
        rw [Ev.go (show T 42 = some d42 from rfl) (show d42.np = 3 from rfl) (show d42.G.N.length = 9 from rfl) (show d42.body = b42 from rfl) rfl]; unfold b42
        simp -implicitDefEqProofs (disch := omega) only [ev0, Nat.reduceBEq, Nat.reduceSub, Nat.reduceAdd, reduceIte, ex, eg, i9, hw, l3, l3', c3, hx, q1, q2, q3, q4, q5, ei, tn0, tn1, tn2, tn3]
      | false =>
        have q6 : (w == "most") = true := by
          rcases hw9 with rfl | rfl
          · cases q5.symm.trans (show ((Str.ofString "least") == (Str.ofString "least")) = true by decide +kernel)
          · decide +kernel
        rw [Ev.go (show T 42 = some d42 from rfl) (show d42.np = 3 from rfl) (show d42.G.N.length = 9 from rfl) (show d42.body = b42 from rfl) rfl]; unfold b42
        simp -implicitDefEqProofs (disch := omega) only [ev0, Nat.reduceBEq, Nat.reduceSub, Nat.reduceAdd, reduceIte, ex, eg, i9, hw, l3, l3', c3, hx, q1, q2, q3, q4, q5, q6, ei, tn0, tn1, tn2, tn3]
    · rw [List.mem_singleton] at ht
      subst ht
      exact ⟨i0, i1⟩
  · have q1 : (w == "in") = false := by rcases hw9 with rfl | rfl <;> decide +kernel
    have q2 : (w == "out") = false := by rcases hw9 with rfl | rfl <;> decide +kernel
    refine ⟨nm, w, [], ?_, nm1, nm8, nml, by simp, fun t ht => absurd ht (by simp), .inr (.inr (.inr ⟨by rcases hw9 with h | h; exact .inl h; exact .inr (.inl h), rfl⟩))⟩
    show _ = Except.ok (D.tup [.str (sal nm), .str w, .lst true []])
    cases q3 : (w == "has") with
    | true =>
      rw [Ev.go (show T 42 = some d42 from rfl) (show d42.np = 3 from rfl) (show d42.G.N.length = 9 from rfl) (show d42.body = b42 from rfl) rfl]; unfold b42
      simp -implicitDefEqProofs (disch := omega) only [ev0, Nat.reduceBEq, Nat.reduceSub, Nat.reduceAdd, reduceIte, ex, eg, i9, hw, l3, l3', c3, hx, q1, q2, q3, tn0, tn1, tn2, tn3]
    | false =>
      have q4 : (w == "lacks") = true := by
        rcases hw9 with rfl | rfl
        · cases q3.symm.trans (show ((Str.ofString "has") == (Str.ofString "has")) = true by decide +kernel)
        · decide +kernel
      rw [Ev.go (show T 42 = some d42 from rfl) (show d42.np = 3 from rfl) (show d42.G.N.length = 9 from rfl) (show d42.body = b42 from rfl) rfl]; unfold b42
      simp -implicitDefEqProofs (disch := omega) only [ev0, Nat.reduceBEq, Nat.reduceSub, Nat.reduceAdd, reduceIte, ex, eg, i9, hw, l3, l3', c3, hx, q1, q2, q3, q4, tn0, tn1, tn2, tn3]
  · refine ⟨gm, w, [], ?_, gm1, gm8, gml, by simp, fun t ht => absurd ht (by simp), .inr (.inr (.inr ⟨.inr (.inr hw9), rfl⟩))⟩
    show _ = Except.ok (D.tup [.str (sal gm), .str w, .lst true []])
    cases q1 : (w == "in") with
    | true =>
      rw [Ev.go (show T 42 = some d42 from rfl) (show d42.np = 3 from rfl) (show d42.G.N.length = 9 from rfl) (show d42.body = b42 from rfl) rfl]; unfold b42
      simp -implicitDefEqProofs (disch := omega) only [ev0, Nat.reduceBEq, Nat.reduceSub, Nat.reduceAdd, reduceIte, ex, eg, i9, hw, l3, l3', c3, hx, hx', q1, tn0, tn1, tn2, tn3]
    | false =>
      have q2 : (w == "out") = true := by
        rcases hw9 with rfl | rfl
        · cases q1.symm.trans (show ((Str.ofString "in") == (Str.ofString "in")) = true by decide +kernel)
        · decide +kernel
      rw [Ev.go (show T 42 = some d42 from rfl) (show d42.np = 3 from rfl) (show d42.G.N.length = 9 from rfl) (show d42.body = b42 from rfl) rfl]; unfold b42
      simp -implicitDefEqProofs (disch := omega) only [ev0, Nat.reduceBEq, Nat.reduceSub, Nat.reduceAdd, reduceIte, ex, eg, i9, hw, l3, l3', c3, hx, hx', q1, q2, tn0, tn1, tn2, tn3]
end Law
namespace Law
open PySem PySem.Spec L2 L2.Fr PyProof.Rows
theorem cps_sal (cs : List Nat) : (sal cs).cps.toList = cs := by unfold sal; simp
theorem sal_cps (x : Str) : sal x.cps.toList = x := by cases x; unfold sal; simp
noncomputable def jn : List (List Nat) → List Nat
  | [] => []
  | [p] => p
  | p :: q :: r => p ++ 32 :: jn (q :: r)
theorem blank_sal : Str.ofString " " = sal [32] := by decide +kernel
theorem join_jn : ∀ ps : List (List Nat), Str.join (sal [32]) (ps.map sal) = sal (jn ps)
  | [] => rfl
  | [p] => rfl
  | p :: q :: r => by
    show sal p ++ sal [32] ++ Str.join (sal [32]) ((q :: r).map sal) = _
    rw [join_jn (q :: r), sal_app, sal_app]
    show sal (p ++ [32] ++ jn (q :: r)) = sal (p ++ 32 :: jn (q :: r))
    rw [List.append_assoc]
    rfl
theorem part_uniq : ∀ {a b r s : List Nat}, 32 ∉ a → 32 ∉ b → a ++ 32 :: r = b ++ 32 :: s → a = b ∧ r = s
  | [], [], r, s, _, _, h => by simpa using h
  | [], y :: b, r, s, _, hb, h => by
    have : 32 = y := by injection h
    exact absurd (by rw [this]; simp) hb
  | x :: a, [], r, s, ha, _, h => by
    have : x = 32 := by injection h
    exact absurd (by rw [this]; simp) ha
  | x :: a, y :: b, r, s, ha, hb, h => by
    injection h with h1 h2
    have := part_uniq (fun z => ha (List.mem_cons_of_mem _ z)) (fun z => hb (List.mem_cons_of_mem _ z)) h2
    exact ⟨by rw [h1, this.1], this.2⟩
theorem jn_inj : ∀ {ps qs : List (List Nat)}, ps ≠ [] → qs ≠ [] → (∀ p ∈ ps, 32 ∉ p) → (∀ q ∈ qs, 32 ∉ q) → jn ps = jn qs → ps = qs
  | [], _, h, _, _, _, _ => absurd rfl h
  | _, [], _, h, _, _, _ => absurd rfl h
  | [p], [q], _, _, _, _, h => by
    have : p = q := h
    rw [this]
  | [p], q :: q' :: r, _, _, hp, _, h => by
    have h : p = q ++ 32 :: jn (q' :: r) := h
    exact absurd (show 32 ∈ p by rw [h]; simp) (hp p (by simp))
  | p :: p' :: r, [q], _, _, _, hq, h => by
    have h : p ++ 32 :: jn (p' :: r) = q := h
    exact absurd (show 32 ∈ q by rw [← h]; simp) (hq q (by simp))
  | p :: p' :: r, q :: q' :: s, _, _, hp, hq, h => by
    have h : p ++ 32 :: jn (p' :: r) = q ++ 32 :: jn (q' :: s) := h
    obtain ⟨e1, e2⟩ := part_uniq (hp p (by simp)) (hq q (by simp)) h
    rw [e1, jn_inj (ps := p' :: r) (qs := q' :: s) (by simp) (by simp) (fun z hz => hp z (List.mem_cons_of_mem _ hz)) (fun z hz => hq z (List.mem_cons_of_mem _ hz)) e2]
theorem split_jn {ps : List (List Nat)} (h0 : ps ≠ []) (h : ∀ p ∈ ps, 32 ∉ p) : Txt.split (sal (jn ps)) (Str.ofString " ") = ps.map sal := by
  rw [blank_sal]
  have e1 := StrLaws.join_split (sal (jn ps)) (sal [32])
  have e2 := StrLaws.split_free (sal (jn ps)) 32
  have e3 := split_pos (sal (jn ps)) (sal [32])
  have e2' : ∀ p ∈ Txt.split (sal (jn ps)) (sal [32]), 32 ∉ p.cps.toList := e2
  generalize Txt.split (sal (jn ps)) (sal [32]) = l at *
  have el : l = (l.map (·.cps.toList)).map sal := by
    rw [List.map_map]
    have : (sal ∘ fun x : Str => x.cps.toList) = id := by funext x; exact sal_cps x
    rw [this, List.map_id]
  rw [el, join_jn] at e1
  have e4 := sal_inj e1
  have := jn_inj (ps := l.map (·.cps.toList)) (qs := ps) (by intro z; rw [List.map_eq_nil_iff.mp z] at e3; exact absurd e3 (by decide)) h0 (by
    intro p hp
    obtain ⟨x, hx, rfl⟩ := List.mem_map.mp hp
    exact e2' x hx) h e4
  rw [el, this]
theorem tjoin_jn (ps : List (List Nat)) : Txt.join (Str.ofString " ") (ps.map sal) = sal (jn ps) := by
  have := join_closes (sep := Str.ofString " ") (sep' := sal [32]) (ys := ps.map sal) blank_sal
  rw [eq_of_beq this, join_jn]
noncomputable def dgs (n : Nat) : List Nat := (Nat.toDigits 10 n).map Char.toNat
noncomputable def shw : Th → List Nat
  | .txt cs => 46 :: cs
  | .num i => if i < 0 then 45 :: dgs i.natAbs else dgs i.natAbs
theorem shw_num (i : Int) : shw (.num i) = if i < 0 then 45 :: dgs i.natAbs else dgs i.natAbs := rfl
theorem dgs_dig (n : Nat) : ∀ c ∈ dgs n, 48 ≤ c ∧ c ≤ 57 := by
  intro c hc
  obtain ⟨ch, hch, rfl⟩ := List.mem_map.mp hc
  have h := Nat.isDigit_of_mem_toDigits (by decide) (by decide) hch
  unfold Char.isDigit at h
  rw [Bool.and_eq_true, decide_eq_true_eq, decide_eq_true_eq] at h
  exact ⟨h.1, h.2⟩
theorem dgs_ne (n : Nat) : dgs n ≠ [] := by
  intro h
  exact Nat.toDigits_ne_nil (List.map_eq_nil_iff.mp h)
theorem dgs_len {n : Nat} (h : n < 10 ^ 9) : (dgs n).length ≤ 9 := by
  unfold dgs
  rw [List.length_map]
  exact (Nat.length_toDigits_le_iff (by decide) (by decide)).mpr h
theorem dgs_zero : dgs 0 = [48] := by decide +kernel
theorem dch : ∀ d : Nat, d < 10 → (Nat.digitChar d).toNat = 48 + d := by decide
theorem dgs_lead (n : Nat) (h : 0 < n) : ∃ d r, dgs n = d :: r ∧ d ≠ 48 := by
  induction n using Nat.strongRecOn with
  | _ n ih =>
    by_cases hn : n < 10
    · refine ⟨48 + n, [], ?_, by omega⟩
      unfold dgs
      rw [Nat.toDigits_of_lt_base hn]
      show [(Nat.digitChar n).toNat] = _
      rw [dch n hn]
    · obtain ⟨d, r, e, hd⟩ := ih (n / 10) (by omega) (by omega)
      have t : Nat.toDigits 10 (n / 10) ++ Nat.toDigits 10 (n % 10) = Nat.toDigits 10 (10 * (n / 10) + n % 10) := Nat.toDigits_append_toDigits (by decide) (by omega) (Nat.mod_lt n (by decide))
      rw [Nat.div_add_mod] at t
      unfold dgs at e ⊢
      rw [← t, List.map_append, e]
      exact ⟨d, _, rfl, hd⟩
theorem str_nat (m : Nat) : Str.ofString (toString ((m : Nat) : Int)) = sal (dgs m) := by
  rw [← sal_cps (Str.ofString (toString ((m : Nat) : Int))), PySem.W.KIN.signs_num]
  rfl
theorem str_num (i : Int) : Str.ofString (toString i) = sal (shw (.num i)) := by
  rw [shw_num]
  by_cases h : i < 0
  · rw [if_pos h]
    obtain ⟨m, rfl⟩ := Int.eq_negSucc_of_lt_zero h
    rw [← sal_cps (Str.ofString (toString (Int.negSucc m))), signs_ofString]
    show sal (("-" ++ Nat.repr (m + 1)).toList.map Char.toNat) = _
    rw [String.toList_append, Nat.toList_repr, List.map_append]
    rfl
  · rw [if_neg h]
    obtain ⟨m, rfl⟩ := Int.eq_ofNat_of_zero_le (show 0 ≤ i by omega)
    exact str_nat m
theorem starts1 (c d : Nat) (r : List Nat) : Txt.startswith (sal (c :: r)) (sal [d]) = (c == d) := by
  unfold Txt.startswith
  rw [StrLaws.subAt_eq, cps_sal, cps_sal, sal_len, sal_len]
  simp
theorem read_num {i : Int} (h0 : -999999999 ≤ i) (h1 : i ≤ 999999999) : intText? (sal (shw (.num i))) = some i := by
  rw [shw_num]
  have hl := dgs_len (n := i.natAbs) (by omega)
  by_cases h : i < 0
  · rw [if_pos h, intText_neg (cs := dgs i.natAbs) (cps_sal _) (dgs_dig _) (dgs_ne _) (by rw [sal_len, List.length_cons]; omega)]
    show some (-((NumText.digitsVal ((Nat.toDigits 10 i.natAbs).map Char.toNat) : Nat) : Int)) = _
    rw [PySem.W.KIN.val_back]
    congr 1
    omega
  · rw [if_neg h, intText_digits (by rw [cps_sal]; exact dgs_dig _) (by rw [cps_sal]; exact dgs_ne _) (by rw [sal_len]; omega), cps_sal]
    show some ((NumText.digitsVal ((Nat.toDigits 10 i.natAbs).map Char.toNat) : Nat) : Int) = _
    rw [PySem.W.KIN.val_back]
    congr 1
    omega
theorem log_ok {i : Int} (h0 : -999999999 ≤ i) (h1 : i ≤ 999999999) : decide (i.natAbs.log2 < 1920) = true := by
  refine decide_eq_true ?_
  by_cases h : i.natAbs = 0
  · rw [h]; decide
  · have : i.natAbs.log2 < 30 := (Nat.log2_lt h).mpr (by omega)
    omega
end Law
namespace Law
open PySem PySem.Spec L2 L2.Fr PyProof.Rows
theorem in_one (x : Str) (c : Nat) : inStr x (one c) = decide (c ∈ x.cps.toList) := StrLaws.found_one x c
theorem chars_sal (cs : List Nat) : charsD (sal cs) = cs.map (fun c => D.str (one c)) := by
  rw [Ev.charsD_map, cps_sal, List.map_map]
  rfl
theorem all_true (cs : List Nat) : (cs.map fun _ => true).all id = true := by
  rw [List.all_map, List.all_eq_true]
  intro x _
  rfl
theorem txt_of (n : Nat) {cs : List Nat} {sg : Str} {lo hi : Int} (h0 : lo ≤ (cs.length : Int)) (h1 : (cs.length : Int) ≤ hi) (hs : ∀ c ∈ cs, c ∈ sg.cps.toList) (hl : cs.length ≤ 1000) : callF T (n + 1) 28 [.str (sal cs), .str sg, .int lo, .int hi] = .ok (.bl true) := by
  have e1 : fmapM (bodyM (callF T n) (.nm 1) [] (.cmp .in_ (.v 1) (.v 0)) [some (.str sg), none]) (cs.map fun c => D.str (one c)) = .ok ((cs.map fun _ => true).map .bl) := by
    refine Ev.fmap_all (fun c => D.str (one c)) (fun _ => true) .bl _ fun c hc => ?_
    have := in_one sg c
    rw [decide_eq_true (hs c hc)] at this
    simp -implicitDefEqProofs (disch := omega) only [ev0, Nat.reduceBEq, Nat.reduceSub, Nat.reduceAdd, reduceIte, this]
  have sl := sal_len cs
  have s8 : (sal cs).length ≤ 16777216 := by omega
  have d0 : decide (lo ≤ (((sal cs).length : Nat) : Int)) = true := decide_eq_true (by rw [sl]; exact h0)
  have d1 : decide ((((sal cs).length : Nat) : Int) ≤ hi) = true := decide_eq_true (by rw [sl]; exact h1)
  have lc : (cs.map fun c => D.str (one c)).length = cs.length := List.length_map ..
  have ce := chars_sal cs
  have at' := all_true cs
  generalize (cs.map fun c => D.str (one c)) = X at *
  rw [Ev.go (show T 28 = some d28 from rfl) (show d28.np = 4 from rfl) (show d28.G.N.length = 4 from rfl) (show d28.body = b28 from rfl) rfl]; unfold b28
  simp -implicitDefEqProofs (disch := omega) only [ev0, Nat.reduceBEq, Nat.reduceSub, Nat.reduceAdd, reduceIte, ce, e1, d0, d1, lc, Ev.bi_all, at']
theorem not_txt (n : Nat) {i lo hi : Int} {sg : Str} : callF T (n + 1) 28 [.int i, .str sg, .int lo, .int hi] = .ok (.bl false) := by
  rw [Ev.go (show T 28 = some d28 from rfl) (show d28.np = 4 from rfl) (show d28.G.N.length = 4 from rfl) (show d28.body = b28 from rfl) rfl]; unfold b28
  simp -implicitDefEqProofs (disch := omega) only [ev0, Nat.reduceBEq, Nat.reduceSub, Nat.reduceAdd, reduceIte]
theorem whole_ok (n : Nat) (i : Int) : callF T (n + 1) 27 [.int i] = .ok (.bl true) := by
  rw [Ev.go (show T 27 = some d27 from rfl) (show d27.np = 1 from rfl) (show d27.G.N.length = 1 from rfl) (show d27.body = b27 from rfl) rfl]; unfold b27
  simp -implicitDefEqProofs (disch := omega) only [ev0, Nat.reduceBEq, Nat.reduceSub, Nat.reduceAdd, reduceIte]
theorem num_told (n : Nat) {i : Int} (h0 : -999999999 ≤ i) (h1 : i ≤ 999999999) : callF T (n + 2) 30 [.int i] = .ok (.bl true) := by
  have d : decide ((if i < 0 then -i else i) ≤ 999999999) = true := decide_eq_true (by split <;> omega)
  have w := whole_ok n i
  rw [Ev.go (show T 30 = some d30 from rfl) (show d30.np = 1 from rfl) (show d30.G.N.length = 1 from rfl) (show d30.body = b30 from rfl) rfl]; unfold b30
  simp -implicitDefEqProofs (disch := omega) only [ev0, Nat.reduceBEq, Nat.reduceSub, Nat.reduceAdd, reduceIte, w, d]
theorem sig_in {c : Nat} (h : Sig c) : c ∈ (Str.ofString "abcdefghijklmnopqrstuvwxyz0123456789").cps.toList := by
  have key : (Str.ofString "abcdefghijklmnopqrstuvwxyz0123456789").cps.toList = sgs := sg_list
  rw [key]
  unfold sgs
  rw [List.mem_append, List.mem_range', List.mem_range']
  unfold Sig at h
  rcases h with h | h
  · exact .inl ⟨c - 97, by omega, by omega⟩
  · exact .inr ⟨c - 48, by omega, by omega⟩
theorem told_txt (n : Nat) {cs : List Nat} {lo : Int} (h0 : lo ≤ (cs.length : Int)) (h : (Th.txt cs).ok) : callF T (n + 2) 29 [.str (sal cs), .int lo] = .ok (.bl true) := by
  have e := txt_of n (sg := "abcdefghijklmnopqrstuvwxyz0123456789") (lo := lo) (hi := 8) (cs := cs) h0 (by have := h.1; omega) (fun c hc => sig_in (h.2 c hc)) (by have := h.1; omega)
  rw [Ev.go (show T 29 = some d29 from rfl) (show d29.np = 2 from rfl) (show d29.G.N.length = 2 from rfl) (show d29.body = b29 from rfl) rfl]; unfold b29
  simp -implicitDefEqProofs (disch := omega) only [ev0, Nat.reduceBEq, Nat.reduceSub, Nat.reduceAdd, reduceIte, e]
theorem told_not (n : Nat) {i lo : Int} : callF T (n + 2) 29 [.int i, .int lo] = .ok (.bl false) := by
  have e := not_txt n (i := i) (sg := "abcdefghijklmnopqrstuvwxyz0123456789") (lo := lo) (hi := 8)
  rw [Ev.go (show T 29 = some d29 from rfl) (show d29.np = 2 from rfl) (show d29.G.N.length = 2 from rfl) (show d29.body = b29 from rfl) rfl]; unfold b29
  simp -implicitDefEqProofs (disch := omega) only [ev0, Nat.reduceBEq, Nat.reduceSub, Nat.reduceAdd, reduceIte, e]
theorem allT (ts : List Th) : (ts.map fun _ => true).all id = true := by
  rw [List.all_map, List.all_eq_true]
  intro x _
  rfl
theorem go_ok (n : Nat) {nm : List Nat} {w : Str} {ts : List Th} (h : Cnd nm w ts) : callF T (n + 4) 31 [.str w, .lst false (ts.map Th.d)] = .ok (.bl true) := by
  have hlen := h.len
  have lt : (ts.map Th.d).length = ts.length := List.length_map ..
  have aT := allT ts
  have d10 : ts.length ≤ 10 → decide (((ts.length : Nat) : Int) ≤ 10) = true := fun z => decide_eq_true (by omega)
  rcases h.go with ⟨hw, h1⟩ | ⟨hw, h1, hb⟩ | ⟨hw, i, rfl⟩ | ⟨hw, rfl⟩
  · have e1 : fmapM (bodyM (callF T (n + 3)) (.nm 0) [] (.or_ (.call 29 [(.v 0), (.c (.int 0))]) (.call 30 [(.v 0)])) [none]) (ts.map Th.d) = .ok ((ts.map fun _ => true).map .bl) := by
      refine Ev.fmap_all Th.d (fun _ => true) .bl _ fun t ht => ?_
      have hk := h.ok t ht
      cases t with
      | txt cs =>
        have e := told_txt (n + 1) (lo := 0) (by omega) hk
        unfold Th.d
        simp -implicitDefEqProofs (disch := omega) only [ev0, Nat.reduceBEq, Nat.reduceSub, Nat.reduceAdd, reduceIte, e]
      | num i =>
        have e := told_not (n + 1) (i := i) (lo := 0)
        have e' := num_told (n + 1) hk.1 hk.2
        unfold Th.d
        simp -implicitDefEqProofs (disch := omega) only [ev0, Nat.reduceBEq, Nat.reduceSub, Nat.reduceAdd, reduceIte, e, e']
    have d1 : decide ((1 : Int) ≤ ((ts.length : Nat) : Int)) = true := decide_eq_true (by omega)
    have d2 := d10 hlen
    have er' := th_er ts
    have lf := th_lf ts
    have lb : lfrees ((ts.map fun _ => true).map D.bl) = true := by
      rw [lfrees_all, List.all_map, List.all_map, List.all_eq_true]
      intro x _
      rfl
    generalize ts.map Th.d = X at *
    cases q : (w == "is") with
    | true =>
      rw [Ev.go (show T 31 = some d31 from rfl) (show d31.np = 2 from rfl) (show d31.G.N.length = 3 from rfl) (show d31.body = b31 from rfl) rfl]; unfold b31
      simp -implicitDefEqProofs (disch := omega) only [ev0, Nat.reduceBEq, Nat.reduceSub, Nat.reduceAdd, reduceIte, q, e1, lt, d1, d2, er', lf, lb, Ev.bi_all, aT]
    | false =>
      have q2 : (w == "not") = true := by
        rcases hw with rfl | rfl
        · cases q.symm.trans (show ((Str.ofString "is") == (Str.ofString "is")) = true by decide +kernel)
        · decide +kernel
      rw [Ev.go (show T 31 = some d31 from rfl) (show d31.np = 2 from rfl) (show d31.G.N.length = 3 from rfl) (show d31.body = b31 from rfl) rfl]; unfold b31
      simp -implicitDefEqProofs (disch := omega) only [ev0, Nat.reduceBEq, Nat.reduceSub, Nat.reduceAdd, reduceIte, q, q2, e1, lt, d1, d2, er', lf, lb, Ev.bi_all, aT]
  · have e1 : fmapM (bodyM (callF T (n + 3)) (.nm 0) [] (.call 29 [(.v 0), (.c (.int 1))]) [none]) (ts.map Th.d) = .ok ((ts.map fun _ => true).map .bl) := by
      refine Ev.fmap_all Th.d (fun _ => true) .bl _ fun t ht => ?_
      have hk := h.ok t ht
      have hb' := hb t ht
      cases t with
      | txt cs =>
        have hb' : 1 ≤ cs.length := hb'
        have e := told_txt (n + 1) (lo := 1) (by omega) hk
        unfold Th.d
        simp -implicitDefEqProofs (disch := omega) only [ev0, Nat.reduceBEq, Nat.reduceSub, Nat.reduceAdd, reduceIte, e]
      | num i => exact hb'.elim
    have d1 : decide ((1 : Int) ≤ ((ts.length : Nat) : Int)) = true := decide_eq_true (by omega)
    have d2 := d10 hlen
    generalize ts.map Th.d = X at *
    have q1 : (w == "is") = false := by subst hw; decide +kernel
    have q2 : (w == "not") = false := by subst hw; decide +kernel
    have q3 : (w == "begins") = true := by subst hw; decide +kernel
    rw [Ev.go (show T 31 = some d31 from rfl) (show d31.np = 2 from rfl) (show d31.G.N.length = 3 from rfl) (show d31.body = b31 from rfl) rfl]; unfold b31
    simp -implicitDefEqProofs (disch := omega) only [ev0, Nat.reduceBEq, Nat.reduceSub, Nat.reduceAdd, reduceIte, q1, q2, q3, e1, lt, d1, d2, Ev.bi_all, aT]
  · have hk := h.ok (.num i) (by simp)
    have e := num_told (n + 1) hk.1 hk.2
    have q1 : (w == "is") = false := by rcases hw with rfl | rfl <;> decide +kernel
    have q2 : (w == "not") = false := by rcases hw with rfl | rfl <;> decide +kernel
    have q3 : (w == "begins") = false := by rcases hw with rfl | rfl <;> decide +kernel
    have dd : Th.d (.num i) = .int i := rfl
    have ix : opIx (.lst false [.int i]) (.int 0) = .ok (.int i) := rfl
    cases q : (w == "least") with
    | true =>
      rw [Ev.go (show T 31 = some d31 from rfl) (show d31.np = 2 from rfl) (show d31.G.N.length = 3 from rfl) (show d31.body = b31 from rfl) rfl]; unfold b31
      simp -implicitDefEqProofs (disch := omega) only [ev0, Nat.reduceBEq, Nat.reduceSub, Nat.reduceAdd, reduceIte, q1, q2, q3, q, e, dd, ix]
      rfl
    | false =>
      have q4 : (w == "most") = true := by
        rcases hw with rfl | rfl
        · cases q.symm.trans (show ((Str.ofString "least") == (Str.ofString "least")) = true by decide +kernel)
        · decide +kernel
      rw [Ev.go (show T 31 = some d31 from rfl) (show d31.np = 2 from rfl) (show d31.G.N.length = 3 from rfl) (show d31.body = b31 from rfl) rfl]; unfold b31
      simp -implicitDefEqProofs (disch := omega) only [ev0, Nat.reduceBEq, Nat.reduceSub, Nat.reduceAdd, reduceIte, q1, q2, q3, q, q4, e, dd, ix]
      rfl
  · have q1 : (w == "is") = false := by rcases hw with rfl | rfl | rfl | rfl <;> decide +kernel
    have q2 : (w == "not") = false := by rcases hw with rfl | rfl | rfl | rfl <;> decide +kernel
    have q3 : (w == "begins") = false := by rcases hw with rfl | rfl | rfl | rfl <;> decide +kernel
    have q4 : (w == "least") = false := by rcases hw with rfl | rfl | rfl | rfl <;> decide +kernel
    have q5 : (w == "most") = false := by rcases hw with rfl | rfl | rfl | rfl <;> decide +kernel
    rw [Ev.go (show T 31 = some d31 from rfl) (show d31.np = 2 from rfl) (show d31.G.N.length = 3 from rfl) (show d31.body = b31 from rfl) rfl]; unfold b31
    simp -implicitDefEqProofs (disch := omega) only [ev0, Nat.reduceBEq, Nat.reduceSub, Nat.reduceAdd, reduceIte, q1, q2, q3, q4, q5]
end Law
namespace Law
open PySem PySem.Spec L2 L2.Fr PyProof.Rows
theorem shw_len {t : Th} (h : t.ok) : (shw t).length ≤ 10 := by
  cases t with
  | txt cs => show (46 :: cs).length ≤ 10; have := h.1; rw [List.length_cons]; omega
  | num i =>
    have := dgs_len (n := i.natAbs) (by have := h.1; have := h.2; omega)
    rw [shw_num]
    split
    · rw [List.length_cons]; omega
    · omega
theorem shw_free {t : Th} (h : t.ok) : 32 ∉ shw t := by
  cases t with
  | txt cs =>
    show 32 ∉ 46 :: cs
    intro z
    rcases List.mem_cons.mp z with z | z
    · cases z
    · have := h.2 32 z
      unfold Sig at this
      omega
  | num i =>
    rw [shw_num]
    intro z
    have key : 32 ∉ dgs i.natAbs := fun z => by have := dgs_dig _ 32 z; omega
    split at z
    · rcases List.mem_cons.mp z with z | z
      · cases z
      · exact key z
    · exact key z
structure Wrd (w : Str) : Prop where
  len : w.cps.toList.length ≤ 6
  free : 32 ∉ w.cps.toList
  mem : anyN (.str w) [.str "is", .str "not", .str "begins", .str "least", .str "most", .str "has", .str "lacks", .str "in", .str "out"] = .ok true
theorem wrd_of {w : Str} (h : w ∈ ws) : Wrd w := by
  have k1 : ∀ w ∈ ws, w.cps.toList.length ≤ 6 ∧ 32 ∉ w.cps.toList := by decide +kernel
  refine ⟨(k1 w h).1, (k1 w h).2, ?_⟩
  unfold ws at h
  simp only [List.mem_cons, List.not_mem_nil, or_false] at h
  rcases h with rfl | rfl | rfl | rfl | rfl | rfl | rfl | rfl | rfl <;> kernel_rfl
theorem Cnd.wrd {nm : List Nat} {w : Str} {ts : List Th} (h : Cnd nm w ts) : Wrd w := by
  refine wrd_of ?_
  unfold ws
  rcases h.go with ⟨h | h, _⟩ | ⟨h, _⟩ | ⟨h | h, _⟩ | ⟨h | h | h | h, _⟩ <;> (rw [h]; simp)
noncomputable def lin (nm : List Nat) (w : Str) (ts : List Th) : List Nat := jn (nm :: w.cps.toList :: ts.map shw)
theorem point_sal (cs : List Nat) : Str.ofString "." ++ sal cs = sal (46 :: cs) := by
  rw [show Str.ofString "." = sal [46] by decide +kernel, sal_app]
  rfl
theorem show_t (n : Nat) {t : Th} (h : t.ok) : callF T (n + 1) 33 [t.d] = .ok (.str (sal (shw t))) := by
  cases t with
  | txt cs =>
    have e := point_sal cs
    have l1 : (Str.ofString ".").length = 1 := by decide +kernel
    have l2 := sal_len cs
    have l3 := h.1
    have l4 : 1 + (sal cs).length ≤ 16777216 := by omega
    show callF T (n + 1) 33 [.str (sal cs)] = .ok (.str (sal (46 :: cs)))
    rw [Ev.go (show T 33 = some d33 from rfl) (show d33.np = 1 from rfl) (show d33.G.N.length = 1 from rfl) (show d33.body = b33 from rfl) rfl]; unfold b33
    simp -implicitDefEqProofs (disch := omega) only [ev0, Nat.reduceBEq, Nat.reduceSub, Nat.reduceAdd, reduceIte, l1, l4, e]
  | num i =>
    have e := str_num i
    have l := log_ok h.1 h.2
    show callF T (n + 1) 33 [.int i] = .ok (.str (sal (shw (.num i))))
    rw [Ev.go (show T 33 = some d33 from rfl) (show d33.np = 1 from rfl) (show d33.G.N.length = 1 from rfl) (show d33.body = b33 from rfl) rfl]; unfold b33
    simp -implicitDefEqProofs (disch := omega) only [ev0, Nat.reduceBEq, Nat.reduceSub, Nat.reduceAdd, reduceIte, l, e]
theorem sum_le : ∀ (ps : List (List Nat)), (∀ p ∈ ps, p.length ≤ 10) → ((ps.map sal).map (fun y : Str => y.length)).sum ≤ 10 * ps.length
  | [], _ => by simp
  | p :: ps, h => by
    have := sum_le ps fun q hq => h q (List.mem_cons_of_mem _ hq)
    have h1 := h p (by simp)
    rw [List.map_cons, List.map_cons, List.sum_cons, sal_len, List.length_cons]
    omega
theorem parts_ok {nm : List Nat} {w : Str} {ts : List Th} (h : Cnd nm w ts) : (∀ p ∈ nm :: w.cps.toList :: ts.map shw, p.length ≤ 10) ∧ (∀ p ∈ nm :: w.cps.toList :: ts.map shw, 32 ∉ p) := by
  have hw := h.wrd
  constructor
  · intro p hp
    rcases List.mem_cons.mp hp with rfl | hp
    · have := h.n8; omega
    · rcases List.mem_cons.mp hp with rfl | hp
      · have := hw.len; omega
      · obtain ⟨t, ht, rfl⟩ := List.mem_map.mp hp
        exact shw_len (h.ok t ht)
  · intro p hp
    rcases List.mem_cons.mp hp with rfl | hp
    · intro z
      have := h.low 32 z
      unfold L2.Fr.low at this
      omega
    · rcases List.mem_cons.mp hp with rfl | hp
      · exact hw.free
      · obtain ⟨t, ht, rfl⟩ := List.mem_map.mp hp
        exact shw_free (h.ok t ht)
theorem jn_len : ∀ (ps : List (List Nat)), (∀ p ∈ ps, p.length ≤ 10) → (jn ps).length ≤ 11 * ps.length
  | [], _ => by simp [jn]
  | [p], h => by have := h p (by simp); show p.length ≤ _; rw [List.length_singleton]; omega
  | p :: q :: r, h => by
    have := jn_len (q :: r) fun z hz => h z (List.mem_cons_of_mem _ hz)
    have h1 := h p (by simp)
    show (p ++ 32 :: jn (q :: r)).length ≤ _
    rw [List.length_append, List.length_cons]
    rw [List.length_cons] at this ⊢
    rw [List.length_cons]
    omega
theorem lin_len {nm : List Nat} {w : Str} {ts : List Th} (h : Cnd nm w ts) : (lin nm w ts).length ≤ 132 := by
  have := jn_len _ (parts_ok h).1
  have hl := h.len
  rw [List.length_cons, List.length_cons, List.length_map] at this
  unfold lin
  omega
theorem show_c (n : Nat) {o : Bool} {nm : List Nat} {w : Str} {ts : List Th} (h : Cnd nm w ts) : callF T (n + 2) 34 [.tup [.str (sal nm), .str w, .lst o (ts.map Th.d)]] = .ok (.str (sal (lin nm w ts))) := by
  have e1 : fmapM (bodyM (callF T (n + 1)) (.nm 0) [] (.call 33 [(.v 0)]) [none]) (ts.map Th.d) = .ok ((ts.map fun t => sal (shw t)).map .str) := by
    refine Ev.fmap_all Th.d (fun t => sal (shw t)) .str _ fun t ht => ?_
    have e := show_t n (h.ok t ht)
    have f : er t.d = t.d := by cases t <;> (unfold Th.d; rw [er])
    simp -implicitDefEqProofs (disch := omega) only [ev0, Nat.reduceBEq, Nat.reduceSub, Nat.reduceAdd, reduceIte, e, f]
  have je : opMt .join (.str " ") [.lst true (.str (sal nm) :: .str w :: (ts.map fun t => sal (shw t)).map .str)] = .ok (.str (sal (lin nm w ts))) := by
    have e := tjoin_jn (nm :: w.cps.toList :: ts.map shw)
    have hs := sum_le (nm :: w.cps.toList :: ts.map shw) (parts_ok h).1
    have el : (nm :: w.cps.toList :: ts.map shw).map sal = sal nm :: w :: ts.map fun t => sal (shw t) := by
      rw [List.map_cons, List.map_cons, sal_cps, List.map_map]
      rfl
    rw [el] at e hs
    have hl := h.len
    have b1 : (Str.ofString " ").length = 1 := by decide +kernel
    have := Ev.mt_join (x := Str.ofString " ") (o := true) (ys := sal nm :: w :: ts.map fun t => sal (shw t)) (by
      rw [b1]
      rw [List.length_cons, List.length_cons, List.length_map] at hs
      rw [List.length_cons, List.length_cons, List.length_map]
      omega)
    rw [e] at this
    exact this
  have lt : (ts.map Th.d).length = ts.length := List.length_map ..
  have lt' : ((ts.map fun t => sal (shw t)).map D.str).length = ts.length := by rw [List.length_map, List.length_map]
  have hl := h.len
  have l10 : 0 + 1 + 1 + ts.length ≤ 16777216 := by omega
  generalize (ts.map fun t => sal (shw t)).map D.str = Y at *
  generalize ts.map Th.d = X at *
  have i0 : opIx (.tup [.str (sal nm), .str w, .lst o X]) (.int 0) = .ok (.str (sal nm)) := rfl
  have i1 : opIx (.tup [.str (sal nm), .str w, .lst o X]) (.int 1) = .ok (.str w) := rfl
  have i2 : opIx (.tup [.str (sal nm), .str w, .lst o X]) (.int 2) = .ok (.lst o X) := rfl
  rw [Ev.go (show T 34 = some d34 from rfl) (show d34.np = 1 from rfl) (show d34.G.N.length = 1 from rfl) (show d34.body = b34 from rfl) rfl]; unfold b34
  simp -implicitDefEqProofs (disch := omega) only [ev0, Nat.reduceBEq, Nat.reduceSub, Nat.reduceAdd, reduceIte, i0, i1, i2, e1, je, lt, lt', l10]
end Law
namespace Law
open PySem PySem.Spec L2 L2.Fr PyProof.Rows
theorem jn_snoc : ∀ (ps : List (List Nat)) (p : List Nat), ps ≠ [] → jn (ps ++ [p]) = jn ps ++ 32 :: p
  | [], _, h => absurd rfl h
  | [a], p, _ => rfl
  | a :: b :: r, p, _ => by
    show a ++ 32 :: jn (b :: r ++ [p]) = (a ++ 32 :: jn (b :: r)) ++ 32 :: p
    rw [jn_snoc (b :: r) p (by simp), List.append_assoc]
    rfl
noncomputable def tLine : List IS := [(.if_ (.isi (.v 2) .str) [(.asg (.nm 1) (.bin .add (.bin .add (.v 1) (.c (.str " ."))) (.v 2)))] [(.asg (.nm 1) (.bin .add (.bin .add (.bin .add (.v 1) (.c (.str " "))) (.idx (.lst [(.c (.str "")), (.c (.str "-"))]) (.bi .int [(.cmp .lt (.v 2) (.c (.int 0)))]))) (.bi .str [(.bi .abs [(.v 2)])])))])]
theorem sal_adds {a b : List Nat} {y : Str} (hy : y = sal b) (h : a.length + b.length ≤ 1000) : opB .add (.str (sal a)) (.str y) = .ok (.str (sal (a ++ b))) := by
  subst hy
  exact sal_add h
theorem turn_line (n : Nat) {c : Option D} {x : Option D} {L : List Nat} {t : Th} (hL : L.length ≤ 500) (h : t.ok) : Ev.turn (callF T n) (.nm 2) tLine t.d [c, some (.str (sal L)), x] = .ok (.nx [c, some (.str (sal (L ++ 32 :: shw t))), some t.d]) := by
  cases t with
  | txt cs =>
    have h8 := h.1
    have a1 : opB .add (.str (sal L)) (.str " .") = .ok (.str (sal (L ++ [32, 46]))) := sal_adds (by decide +kernel) (by simp; omega)
    have a2 : opB .add (.str (sal (L ++ [32, 46]))) (.str (sal cs)) = .ok (.str (sal (L ++ [32, 46] ++ cs))) := sal_add (by simp; omega)
    have e : L ++ [32, 46] ++ cs = L ++ 32 :: shw (.txt cs) := by rw [List.append_assoc]; rfl
    rw [e] at a2
    generalize L ++ 32 :: shw (.txt cs) = L' at *
    unfold tLine Th.d
    simp -implicitDefEqProofs (disch := omega) only [ev0, Nat.reduceBEq, Nat.reduceSub, Nat.reduceAdd, reduceIte, Ev.turn_eq, a1, a2]
  | num i =>
    have h0 := h.1
    have h1 := h.2
    have hd := dgs_len (n := i.natAbs) (by omega)
    have a1 : opB .add (.str (sal L)) (.str " ") = .ok (.str (sal (L ++ [32]))) := sal_adds (by decide +kernel) (by simp; omega)
    have lo := log_ok (i := if i < 0 then -i else i) (by split <;> omega) (by split <;> omega)
    have st := str_num (if i < 0 then -i else i)
    by_cases hi : i < 0
    · have d : decide (i < 0) = true := decide_eq_true hi
      have a2 : opB .add (.str (sal (L ++ [32]))) (.str "-") = .ok (.str (sal (L ++ [32] ++ [45]))) := sal_adds (by decide +kernel) (by simp; omega)
      have es : shw (.num (if i < 0 then -i else i)) = dgs i.natAbs := by
        rw [if_pos hi, shw_num, if_neg (by omega)]
        congr 1
        omega
      rw [es] at st
      have a3 : opB .add (.str (sal (L ++ [32] ++ [45]))) (.str (sal (dgs i.natAbs))) = .ok (.str (sal (L ++ [32] ++ [45] ++ dgs i.natAbs))) := sal_add (by simp; omega)
      have e : L ++ [32] ++ [45] ++ dgs i.natAbs = L ++ 32 :: shw (.num i) := by rw [shw_num, if_pos hi, List.append_assoc, List.append_assoc]; rfl
      rw [e] at a3
      have ix : opIx (.lst true [.str "", .str "-"]) (.int 1) = .ok (.str "-") := rfl
      generalize L ++ 32 :: shw (.num i) = L' at *
      unfold tLine Th.d
      simp -implicitDefEqProofs (disch := omega) only [ev0, Nat.reduceBEq, Nat.reduceSub, Nat.reduceAdd, reduceIte, Ev.turn_eq, d, a1, a2, a3, ix, lo, st]
    · have d : decide (i < 0) = false := decide_eq_false hi
      have a2 : opB .add (.str (sal (L ++ [32]))) (.str "") = .ok (.str (sal (L ++ [32] ++ []))) := sal_adds (by decide +kernel) (by simp; omega)
      rw [List.append_nil] at a2
      have es : shw (.num (if i < 0 then -i else i)) = dgs i.natAbs := by
        rw [if_neg hi, shw_num, if_neg hi]
      rw [es] at st
      have a3 : opB .add (.str (sal (L ++ [32]))) (.str (sal (dgs i.natAbs))) = .ok (.str (sal (L ++ [32] ++ dgs i.natAbs))) := sal_add (by simp; omega)
      have e : L ++ [32] ++ dgs i.natAbs = L ++ 32 :: shw (.num i) := by rw [shw_num, if_neg hi, List.append_assoc]; rfl
      rw [e] at a3
      have ix : opIx (.lst true [.str "", .str "-"]) (.int 0) = .ok (.str "") := rfl
      generalize L ++ 32 :: shw (.num i) = L' at *
      unfold tLine Th.d
      simp -implicitDefEqProofs (disch := omega) only [ev0, Nat.reduceBEq, Nat.reduceSub, Nat.reduceAdd, reduceIte, Ev.turn_eq, d, a1, a2, a3, ix, lo, st]
theorem line_ok (n : Nat) {o : Bool} {nm : List Nat} {w : Str} {ts : List Th} (h : Cnd nm w ts) : callF T (n + 1) 43 [.tup [.str (sal nm), .str w, .lst o (ts.map Th.d)]] = .ok (.str (sal (lin nm w ts))) := by
  have hw := h.wrd
  have n8 := h.n8
  have wl := hw.len
  have hl := h.len
  obtain ⟨τ', e, x, rfl⟩ := Ev.for_all (its := ts.map Th.d) (τ := [some (.tup [.str (sal nm), .str w, .lst false (ts.map Th.d)]), some (.str (sal (nm ++ [32] ++ w.cps.toList))), none]) (body := Ev.turn (callF T n) (.nm 2) tLine)
    (fun i τ => ∃ x : Option D, τ = [some (.tup [.str (sal nm), .str w, .lst false (ts.map Th.d)]), some (.str (sal (jn (nm :: w.cps.toList :: (ts.take i).map shw)))), x])
    ⟨none, by rw [List.take_zero]; show _ = [_, some (D.str (sal (nm ++ 32 :: w.cps.toList))), none]; rw [List.append_assoc]; rfl⟩ (by
      rintro i x τ hx ⟨y, rfl⟩
      have hi : i < ts.length := by
        have := (List.getElem?_eq_some_iff.mp hx).1
        rw [List.length_map] at this
        exact this
      rw [List.getElem?_map, List.getElem?_eq_getElem hi] at hx
      have hx' : (ts[i]).d = x := Option.some.inj hx
      subst hx'
      have pl := jn_len (nm :: w.cps.toList :: (ts.take i).map shw) (fun p hp => (parts_ok h).1 p (by
        rcases List.mem_cons.mp hp with rfl | hp
        · simp
        · rcases List.mem_cons.mp hp with rfl | hp
          · simp
          · obtain ⟨t, ht, rfl⟩ := List.mem_map.mp hp
            exact List.mem_cons_of_mem _ (List.mem_cons_of_mem _ (List.mem_map_of_mem (List.mem_of_mem_take ht)))))
      rw [List.length_cons, List.length_cons, List.length_map, List.length_take] at pl
      refine ⟨_, turn_line n (by omega) (h.ok _ (List.getElem_mem hi)), some (ts[i]).d, ?_⟩
      rw [← jn_snoc _ _ (by simp), List.take_succ_eq_append_getElem hi, List.map_append]
      rfl)
  rw [List.length_map, List.take_length] at e
  have f1 : opB .add (.str (sal nm)) (.str " ") = .ok (.str (sal (nm ++ [32]))) := sal_adds (by decide +kernel) (by simp; omega)
  have f2 : opB .add (.str (sal (nm ++ [32]))) (.str w) = .ok (.str (sal (nm ++ [32] ++ w.cps.toList))) := sal_adds (sal_cps w).symm (by rw [List.length_append, List.length_singleton]; omega)
  have er' := th_er ts
  have lf := th_lf ts
  show _ = Except.ok (D.str (sal (jn (nm :: w.cps.toList :: ts.map shw))))
  generalize jn (nm :: w.cps.toList :: ts.map shw) = LL at *
  generalize ts.map Th.d = X at *
  have i0 : opIx (.tup [.str (sal nm), .str w, .lst o X]) (.int 0) = .ok (.str (sal nm)) := rfl
  have i1 : opIx (.tup [.str (sal nm), .str w, .lst o X]) (.int 1) = .ok (.str w) := rfl
  have i2 : opIx (.tup [.str (sal nm), .str w, .lst o X]) (.int 2) = .ok (.lst o X) := rfl
  unfold tLine at e
  rw [Ev.go (show T 43 = some d43 from rfl) (show d43.np = 1 from rfl) (show d43.G.N.length = 3 from rfl) (show d43.body = b43 from rfl) rfl]; unfold b43
  simp -implicitDefEqProofs (disch := omega) only [ev0, Nat.reduceBEq, Nat.reduceSub, Nat.reduceAdd, reduceIte, i0, i1, i2, f1, f2, er', lf, e]
end Law
namespace Law
open PySem PySem.Spec L2 L2.Fr PyProof.Rows
theorem st_minus (c : Nat) (r : List Nat) : Txt.startswith (sal (c :: r)) "-" = (c == 45) := by
  rw [show Str.ofString "-" = sal [45] by decide +kernel]; exact starts1 ..
theorem st_point (c : Nat) (r : List Nat) : Txt.startswith (sal (c :: r)) "." = (c == 46) := by
  rw [show Str.ofString "." = sal [46] by decide +kernel]; exact starts1 ..
theorem st_zero (c : Nat) (r : List Nat) : Txt.startswith (sal (c :: r)) "0" = (c == 48) := by
  rw [show Str.ofString "0" = sal [48] by decide +kernel]; exact starts1 ..
theorem dig_in {c : Nat} (h : 48 ≤ c ∧ c ≤ 57) : c ∈ (Str.ofString "0123456789").cps.toList := by
  rw [show (Str.ofString "0123456789").cps.toList = List.range' 48 10 by decide +kernel, List.mem_range']
  exact ⟨c - 48, by omega, by omega⟩
theorem dgs_cons (n : Nat) : ∃ d r, dgs n = d :: r ∧ 48 ≤ d ∧ d ≤ 57 ∧ (0 < n → d ≠ 48) := by
  by_cases h : 0 < n
  · obtain ⟨d, r, e, hd⟩ := dgs_lead n h
    have := dgs_dig n d (by rw [e]; simp)
    exact ⟨d, r, e, this.1, this.2, fun _ => hd⟩
  · obtain rfl : n = 0 := by omega
    exact ⟨48, [], dgs_zero, by omega, by omega, fun z => absurd z (by omega)⟩
theorem tail1 (c : Nat) (r : List Nat) : Txt.slice (sal (c :: r)) (some 1) none = sal r := by
  rw [slice_from (by omega) (by rw [List.length_cons]; omega)]
  rfl
theorem wri_ok (n : Nat) {i : Int} (h : (Th.num i).ok) : callF T (n + 2) 35 [.str (sal (shw (.num i)))] = .ok (.bl true) := by
  have h0 := h.1
  have h1 := h.2
  obtain ⟨d, r, e, d0, d1, hd⟩ := dgs_cons i.natAbs
  have l9 := dgs_len (n := i.natAbs) (by omega)
  have tx := txt_of n (cs := dgs i.natAbs) (sg := "0123456789") (lo := 1) (hi := 9) (by rw [e, List.length_cons]; omega) (by omega) (fun c hc => dig_in (dgs_dig _ c hc)) (by omega)
  rw [shw_num]
  rw [e] at tx l9
  rw [List.length_cons] at l9
  by_cases hi : i < 0
  · rw [if_pos hi, e]
    have s1 := st_minus 45 (d :: r)
    rw [show ((45 : Nat) == 45) = true from rfl] at s1
    have t1 := tail1 45 (d :: r)
    have s2 := st_zero d r
    rw [show (d == 48) = false by simpa using hd (by omega)] at s2
    have sl := sal_len (45 :: d :: r)
    rw [List.length_cons, List.length_cons] at sl
    have l16 : (sal (45 :: d :: r)).length ≤ 16777216 := by omega
    generalize sal (45 :: d :: r) = P at *
    generalize sal (d :: r) = F at *
    cases q : (P == "0") with
    | true =>
      rw [Ev.go (show T 35 = some d35 from rfl) (show d35.np = 1 from rfl) (show d35.G.N.length = 2 from rfl) (show d35.body = b35 from rfl) rfl]; unfold b35
      simp -implicitDefEqProofs (disch := omega) only [ev0, Nat.reduceBEq, Nat.reduceSub, Nat.reduceAdd, reduceIte, s1, t1, l16, tx, q]
    | false =>
      rw [Ev.go (show T 35 = some d35 from rfl) (show d35.np = 1 from rfl) (show d35.G.N.length = 2 from rfl) (show d35.body = b35 from rfl) rfl]; unfold b35
      simp -implicitDefEqProofs (disch := omega) only [ev0, Nat.reduceBEq, Nat.reduceSub, Nat.reduceAdd, reduceIte, s1, t1, l16, tx, q, s2]
  · rw [if_neg hi, e]
    have s1 := st_minus d r
    rw [show (d == 45) = false by simp; omega] at s1
    have s2 := st_zero d r
    by_cases hz : i = 0
    · subst hz
      have e' : dgs (Int.natAbs 0) = [48] := dgs_zero
      rw [e'] at e
      injection e with e1 e2
      subst e1 e2
      have q : (sal [48] == "0") = true := by decide +kernel
      generalize sal [48] = P at *
      rw [Ev.go (show T 35 = some d35 from rfl) (show d35.np = 1 from rfl) (show d35.G.N.length = 2 from rfl) (show d35.body = b35 from rfl) rfl]; unfold b35
      simp -implicitDefEqProofs (disch := omega) only [ev0, Nat.reduceBEq, Nat.reduceSub, Nat.reduceAdd, reduceIte, s1, tx, q]
    · rw [show (d == 48) = false by simpa using hd (by omega)] at s2
      generalize sal (d :: r) = P at *
      cases q : (P == "0") with
      | true =>
        rw [Ev.go (show T 35 = some d35 from rfl) (show d35.np = 1 from rfl) (show d35.G.N.length = 2 from rfl) (show d35.body = b35 from rfl) rfl]; unfold b35
        simp -implicitDefEqProofs (disch := omega) only [ev0, Nat.reduceBEq, Nat.reduceSub, Nat.reduceAdd, reduceIte, s1, tx, q]
      | false =>
        rw [Ev.go (show T 35 = some d35 from rfl) (show d35.np = 1 from rfl) (show d35.G.N.length = 2 from rfl) (show d35.body = b35 from rfl) rfl]; unfold b35
        simp -implicitDefEqProofs (disch := omega) only [ev0, Nat.reduceBEq, Nat.reduceSub, Nat.reduceAdd, reduceIte, s1, tx, q, s2]
theorem rd_ok (n : Nat) {t : Th} (h : t.ok) : callF T (n + 3) 36 [.str (sal (shw t))] = .ok t.d := by
  cases t with
  | txt cs =>
    have h8 := h.1
    have s := st_point 46 cs
    rw [show ((46 : Nat) == 46) = true from rfl] at s
    have t1 := tail1 46 cs
    have sl := sal_len (46 :: cs)
    rw [List.length_cons] at sl
    have l16 : (sal (46 :: cs)).length ≤ 16777216 := by omega
    show callF T (n + 3) 36 [.str (sal (46 :: cs))] = .ok (.str (sal cs))
    generalize sal (46 :: cs) = P at *
    rw [Ev.go (show T 36 = some d36 from rfl) (show d36.np = 1 from rfl) (show d36.G.N.length = 1 from rfl) (show d36.body = b36 from rfl) rfl]; unfold b36
    simp -implicitDefEqProofs (disch := omega) only [ev0, Nat.reduceBEq, Nat.reduceSub, Nat.reduceAdd, reduceIte, s, t1, l16]
  | num i =>
    have e := wri_ok n h
    have rn := read_num h.1 h.2
    have hl := shw_len h
    have sl := sal_len (shw (.num i))
    have l640 : decide ((sal (shw (.num i))).length ≤ 640) = true := decide_eq_true (by omega)
    have s : Txt.startswith (sal (shw (.num i))) "." = false := by
      obtain ⟨d, r, e, d0, d1, hd⟩ := dgs_cons i.natAbs
      rw [shw_num]
      split
      · rw [st_point]; rfl
      · rw [e, st_point]; simp; omega
    have bi : opBi .int [.str (sal (shw (.num i)))] = .ok (.int i) := by
      rw [Ev.bi_ints, rn]
      show grd (decide ((sal (shw (.num i))).length ≤ 640)) _ = _
      rw [l640]
      rfl
    show callF T (n + 3) 36 [.str (sal (shw (.num i)))] = .ok (.int i)
    generalize sal (shw (.num i)) = P at *
    rw [Ev.go (show T 36 = some d36 from rfl) (show d36.np = 1 from rfl) (show d36.G.N.length = 1 from rfl) (show d36.body = b36 from rfl) rfl]; unfold b36
    simp -implicitDefEqProofs (disch := omega) only [ev0, Nat.reduceBEq, Nat.reduceSub, Nat.reduceAdd, reduceIte, s, e, bi]
theorem low_in {c : Nat} (h : L2.Fr.low c) : c ∈ (Str.ofString "abcdefghijklmnopqrstuvwxyz").cps.toList := by
  rw [abc_list, List.mem_range']
  unfold L2.Fr.low at h
  exact ⟨c - 97, by omega, by omega⟩
theorem chk_ok (n : Nat) {nm : List Nat} {w : Str} {ts : List Th} (h : Cnd nm w ts) : callF T (n + 5) 32 [.tup [.str (sal nm), .str w, .lst false (ts.map Th.d)], .lst false [.str (sal nm)]] = .ok (.bl true) := by
  have g := go_ok n h
  have m := h.wrd.mem
  have m' : anyN (.str (sal nm)) [.str (sal nm)] = .ok true := by
    rw [Ev.an_c, Ev.e_ss, beq_self_eq_true]
    rfl
  have er' := th_er ts
  generalize ts.map Th.d = X at *
  have i0 : opIx (.tup [.str (sal nm), .str w, .lst false X]) (.int 0) = .ok (.str (sal nm)) := rfl
  have i1 : opIx (.tup [.str (sal nm), .str w, .lst false X]) (.int 1) = .ok (.str w) := rfl
  have i2 : opIx (.tup [.str (sal nm), .str w, .lst false X]) (.int 2) = .ok (.lst false X) := rfl
  cases q1 : (w == "in") with
  | true =>
    rw [Ev.go (show T 32 = some d32 from rfl) (show d32.np = 2 from rfl) (show d32.G.N.length = 4 from rfl) (show d32.body = b32 from rfl) rfl]; unfold b32
    generalize ([.str "is", .str "not", .str "begins", .str "least", .str "most", .str "has", .str "lacks", .str "in", .str "out"] : List D) = W at m ⊢
    simp -implicitDefEqProofs (disch := omega) only [ev0, Nat.reduceBEq, Nat.reduceSub, Nat.reduceAdd, reduceIte, q1, i0, i1, i2, m, m', g, er']
  | false =>
    cases q2 : (w == "out") with
    | true =>
      rw [Ev.go (show T 32 = some d32 from rfl) (show d32.np = 2 from rfl) (show d32.G.N.length = 4 from rfl) (show d32.body = b32 from rfl) rfl]; unfold b32
      generalize ([.str "is", .str "not", .str "begins", .str "least", .str "most", .str "has", .str "lacks", .str "in", .str "out"] : List D) = W at m ⊢
      simp -implicitDefEqProofs (disch := omega) only [ev0, Nat.reduceBEq, Nat.reduceSub, Nat.reduceAdd, reduceIte, q1, q2, i0, i1, i2, m, m', g, er']
    | false =>
      rw [Ev.go (show T 32 = some d32 from rfl) (show d32.np = 2 from rfl) (show d32.G.N.length = 4 from rfl) (show d32.body = b32 from rfl) rfl]; unfold b32
      generalize ([.str "is", .str "not", .str "begins", .str "least", .str "most", .str "has", .str "lacks", .str "in", .str "out"] : List D) = W at m ⊢
      simp -implicitDefEqProofs (disch := omega) only [ev0, Nat.reduceBEq, Nat.reduceSub, Nat.reduceAdd, reduceIte, q1, q2, i0, i1, i2, m, m', g, er']
end Law
namespace Law
open PySem PySem.Spec L2 L2.Fr PyProof.Rows
theorem cut2 {α : Type} (a b : α) (r : List α) : cutG (a :: b :: r) (some 2) none = r := by
  unfold cutG HT.sIx
  simp
theorem eqs_th (k : Nat) : ∀ ts : List Th, eqsG (eqN (k + 1)) (ts.map Th.d) (ts.map Th.d) = .ok true
  | [] => rfl
  | t :: ts => by
    rw [List.map_cons, Ev.es_c]
    have : eqN (k + 1) t.d t.d = .ok true := by
      cases t with
      | txt cs => show eqN (k + 1) (.str (sal cs)) (.str (sal cs)) = _; rw [Ev.e_ss, beq_self_eq_true]
      | num i => show eqN (k + 1) (.int i) (.int i) = _; rw [Ev.e_ii, beq_self_eq_true]
    rw [this, Ev.bnd_k, Ev.esK_k, eqs_th k ts]
    rfl
theorem eqs_bl (k : Nat) : ∀ bs : List Bool, eqsG (eqN (k + 1)) (bs.map .bl) (bs.map .bl) = .ok true
  | [] => rfl
  | b :: bs => by
    rw [List.map_cons, Ev.es_c, Ev.e_bb, beq_self_eq_true, Ev.bnd_k, Ev.esK_k, eqs_bl k bs]
    rfl
theorem fmap_none {α : Type} {g : D → Res (Option D)} (emb : α → D) : ∀ xs : List α, (∀ x ∈ xs, g (emb x) = .ok none) → fmapM g (xs.map emb) = .ok []
  | [], _ => rfl
  | x :: xs, h => by
    show bnd (g (emb x)) _ = _
    rw [h x (by simp)]
    exact fmap_none emb xs fun y hy => h y (List.mem_cons_of_mem _ hy)
theorem read_ok (n : Nat) {nm : List Nat} {w : Str} {ts : List Th} (h : Cnd nm w ts) : callF T (n + 6) 37 [.str (sal (lin nm w ts))] = .ok (.tup [.str (sal nm), .str w, .lst true (ts.map Th.d)]) := by
  have sp : (Txt.split (sal (lin nm w ts)) (Str.ofString " ")).map D.str = .str (sal nm) :: .str w :: (ts.map fun t => sal (shw t)).map .str := by
    unfold lin
    rw [split_jn (by simp) (parts_ok h).2]
    simp only [List.map_cons, sal_cps, List.map_map]
    rfl
  have ll := lin_len h
  have sl := sal_len (lin nm w ts)
  have hs : sizeLine = 16777216 := sizeLine_eq
  have d1 : decide ((Str.ofString " ").length ≠ 0 ∧ (sal (lin nm w ts)).length + 2 ≤ sizeLine) = true := decide_eq_true ⟨by decide +kernel, by omega⟩
  have e1 : fmapM (bodyM (callF T (n + 5)) (.nm 0) [] (.call 36 [(.v 0)]) [none]) ((ts.map fun t => sal (shw t)).map .str) = .ok (ts.map Th.d) := by
    have : (ts.map fun t => sal (shw t)).map D.str = ts.map fun t => D.str (sal (shw t)) := List.map_map ..
    rw [this]
    have := Ev.fmap_all (g := bodyM (callF T (n + 5)) (.nm 0) [] (.call 36 [(.v 0)]) [none]) (fun t : Th => D.str (sal (shw t))) (fun t : Th => t) Th.d ts fun t ht => by
      have e := rd_ok (n + 2) (h.ok t ht)
      simp -implicitDefEqProofs (disch := omega) only [ev0, Nat.reduceBEq, Nat.reduceSub, Nat.reduceAdd, reduceIte, e]
    rw [List.map_id'] at this
    exact this
  have tx := txt_of (n + 4) (cs := nm) (sg := "abcdefghijklmnopqrstuvwxyz") (lo := 1) (hi := 8) (by have := h.n1; omega) (by have := h.n8; omega) (fun c hc => low_in (h.low c hc)) (by have := h.n8; omega)
  have ck := chk_ok n h
  have lf := th_lf ts
  have er' := th_er ts
  have hl := h.len
  have lt : ((ts.map fun t => sal (shw t)).map D.str).length = ts.length := by rw [List.length_map, List.length_map]
  have lf' : lfrees ((ts.map fun t => sal (shw t)).map D.str) = true := Ev.lf_s _
  have dl : decide (((ts.length + 1 + 1 : Nat) : Int) < 2) = false := decide_eq_false (by omega)
  generalize sal (lin nm w ts) = LN at *
  generalize (ts.map fun t => sal (shw t)).map D.str = Y at *
  generalize ts.map Th.d = X at *
  have c2 := cut2 (D.str (sal nm)) (D.str w) Y
  have i0 : opIx (.lst false (.str (sal nm) :: .str w :: Y)) (.int 0) = .ok (.str (sal nm)) := by rw [Ev.x_l, Ev.atI_in (.non) (by omega) (by rw [List.length_cons]; omega)]; rfl
  have i1 : opIx (.lst false (.str (sal nm) :: .str w :: Y)) (.int 1) = .ok (.str w) := by rw [Ev.x_l, Ev.atI_in (.non) (by omega) (by rw [List.length_cons, List.length_cons]; omega)]; rfl
  have nl : newList? (.mth .split (.v 0) [.c (.str " ")]) = false := rfl
  have er2 : ers Y = Y := ers_lfrees lf'
  rw [Ev.go (show T 37 = some d37 from rfl) (show d37.np = 1 from rfl) (show d37.G.N.length = 4 from rfl) (show d37.body = b37 from rfl) rfl]; unfold b37
  simp -implicitDefEqProofs (disch := omega) only [ev0, Nat.reduceBEq, Nat.reduceSub, Nat.reduceAdd, reduceIte, nl, er2, d1, sp, i0, i1, c2, e1, tx, ck, lf, lf', er', lt, dl]
theorem same_ok (n : Nat) {nm : List Nat} {w : Str} {ts : List Th} (h : Cnd nm w ts) : callF T (n + 1) 44 [.tup [.str (sal nm), .str w, .lst false (ts.map Th.d)], .tup [.str (sal nm), .str w, .lst false (ts.map Th.d)]] = .ok (.bl true) := by
  obtain ⟨bs, e1⟩ : ∃ bs : List Bool, fmapM (bodyM (callF T n) (.nm 0) [] (.isi (.v 0) .str) [none]) (ts.map Th.d) = .ok (bs.map .bl) := by
    refine ⟨_, Ev.fmap_all Th.d (fun t => isiD .str t.d) .bl _ fun t ht => ?_⟩
    simp -implicitDefEqProofs (disch := omega) only [ev0, Nat.reduceBEq, Nat.reduceSub, Nat.reduceAdd, reduceIte]
  have e2 : fmapM (bodyM (callF T n) (.nm 0) [(.isi (.v 0) .bool)] (.v 0) [none]) (ts.map Th.d) = .ok [] := by
    refine fmap_none Th.d _ fun t ht => ?_
    cases t <;> (unfold Th.d; simp -implicitDefEqProofs (disch := omega) only [ev0, Nat.reduceBEq, Nat.reduceSub, Nat.reduceAdd, reduceIte])
  have q1 := eqs_bl 38 bs
  have q2 := eqs_th 38 ts
  have hl := h.len
  have lt : (ts.map Th.d).length = ts.length := List.length_map ..
  generalize bs.map D.bl = B at *
  generalize ts.map Th.d = X at *
  have i0 : opIx (.tup [.str (sal nm), .str w, .lst false X]) (.int 0) = .ok (.str (sal nm)) := rfl
  have i1 : opIx (.tup [.str (sal nm), .str w, .lst false X]) (.int 1) = .ok (.str w) := rfl
  have i2 : opIx (.tup [.str (sal nm), .str w, .lst false X]) (.int 2) = .ok (.lst false X) := rfl
  have s2 : opSl (.tup [.str (sal nm), .str w, .lst false X]) none (some 2) = .ok (.tup [.str (sal nm), .str w]) := rfl
  have l3 : ((((0 + 1 + 1 + 1 : Nat) : Int)) == 3) = true := rfl
  have c3 : ((((3 : Nat) : Int)) == 3) = true := rfl
  rw [Ev.go (show T 44 = some d44 from rfl) (show d44.np = 2 from rfl) (show d44.G.N.length = 2 from rfl) (show d44.body = b44 from rfl) rfl]; unfold b44
  simp -implicitDefEqProofs (disch := omega) only [ev0, Nat.reduceBEq, Nat.reduceSub, Nat.reduceAdd, reduceIte, i0, i1, i2, s2, e1, e2, q1, q2, lt, l3, c3]
end Law
namespace Law
open PySem PySem.Spec L2 L2.Fr PyProof.Rows
noncomputable def tLaw : List IS := [(.asg (.nm 3) (.call 42 [(.bin .add (.call 38 [(.v 0), (.v 2)]) (.bin .mul (.c (.int 23)) (.v 2))), (.sl (.v 1) none (some (.c (.int 3)))), (.sl (.v 1) (some (.c (.int 3))) none)])), (.asg (.nm 4) (.tup [(.idx (.v 3) (.c (.int 0))), (.idx (.v 3) (.c (.int 1))), (.bi .list [(.idx (.v 3) (.c (.int 2)))])])), (.asg (.nm 5) (.call 34 [(.v 4)])), (.if_ (.or_ (.not_ (.isi (.v 5) .str)) (.or_ (.cmp .ne (.v 5) (.call 43 [(.v 3)])) (.cmp .ne (.v 4) (.v 3)))) [(.ret (.c (.bl false)))] []), (.if_ (.not_ (.call 44 [(.call 37 [(.v 5)]), (.v 3)])) [(.ret (.c (.bl false)))] [])]
theorem cutF3 {fs : List Str} : cutG (fs.map D.str) none (some 3) = (fs.take 3).map .str := by
  rw [Ev.cutG_map, Ev.cut_to _ (by decide)]
  rfl
theorem cutT3 {fs : List Str} (h : fs.length = 6) : cutG (fs.map D.str) (some 3) none = (fs.drop 3).map .str := by
  rw [Ev.cutG_map]
  unfold cutG HT.sIx
  rw [h]
  show (List.take 3 (List.drop 3 fs)).map D.str = _
  rw [List.take_of_length_le (by rw [List.length_drop]; omega)]
theorem turn_ok (ns : List Int) {fs : List Str} (hf : fs.length = 6) (hn : ∀ x ∈ fs, Nam x) (k : Nat) (o : Bool) (a b c d : Option D) :
    ∃ a' b' c' d', Ev.turn (callF T 12) (.nm 2) tLaw (.int (0 + (k : Nat))) [some (.lst false (ns.map .int)), some (.lst o (fs.map .str)), a, b, c, d] = .ok (.nx [some (.lst false (ns.map .int)), some (.lst false (fs.map .str)), a', b', c', d']) := by
  have e0 := cell (show T 38 = some d38 from rfl) rfl rfl rfl 11 ns (0 + (k : Nat)) (by omega)
  obtain ⟨nm, w, ts, ec, h⟩ := cond_ok 9 (ns.getD (0 + (k : Int)).toNat 0 + 23 * (0 + (k : Nat))) (ns := fs.take 3) (gs := fs.drop 3) (by rw [List.length_take]; omega) (by rw [List.length_drop]; omega) (fun x hx => hn x (List.mem_of_mem_take hx)) (fun x hx => hn x (List.mem_of_mem_drop hx))
  have es := show_c 10 (o := false) h
  have el := line_ok 11 (o := false) h
  have er1 := read_ok 6 h
  have em := same_ok 11 h
  have c1 := cutF3 (fs := fs)
  have c2 := cutT3 hf
  have l1 := Ev.ers_ss (fs.take 3)
  have l2 := Ev.ers_ss (fs.drop 3)
  have l3 := Ev.lf_s (fs.take 3)
  have l4 := Ev.lf_s (fs.drop 3)
  have l5 := Ev.ers_ii ns
  have lf := th_lf ts
  have er' := th_er ts
  have hl := h.len
  have lt : (ts.map Th.d).length = ts.length := List.length_map ..
  have q1 : eqsG (eqN 38) (ts.map Th.d) (ts.map Th.d) = .ok true := eqs_th 37 ts
  have v1 : vars (.sl (.v 1) none (some (.c (.int 3)))) = [1] := rfl
  have v2 : vars (.sl (.v 1) (some (.c (.int 3))) none) = [1] := rfl
  have l8 := Ev.ers_ss fs
  generalize sal (lin nm w ts) = LN at *
  generalize ts.map Th.d = X at *
  generalize fs.map D.str = FS at *
  generalize (fs.take 3).map D.str = F1 at *
  generalize (fs.drop 3).map D.str = F2 at *
  generalize ns.map D.int = NS at *
  have i0 : opIx (.tup [.str (sal nm), .str w, .lst true X]) (.int 0) = .ok (.str (sal nm)) := rfl
  have i1 : opIx (.tup [.str (sal nm), .str w, .lst true X]) (.int 1) = .ok (.str w) := rfl
  have i2 : opIx (.tup [.str (sal nm), .str w, .lst true X]) (.int 2) = .ok (.lst true X) := rfl
  have j0 : opIx (.tup [.str (sal nm), .str w, .lst false X]) (.int 0) = .ok (.str (sal nm)) := rfl
  have j1 : opIx (.tup [.str (sal nm), .str w, .lst false X]) (.int 1) = .ok (.str w) := rfl
  have j2 : opIx (.tup [.str (sal nm), .str w, .lst false X]) (.int 2) = .ok (.lst false X) := rfl
  refine ⟨some (.int (0 + (k : Nat))), some (.tup [.str (sal nm), .str w, .lst true X]), some (.tup [.str (sal nm), .str w, .lst true X]), some (.str LN), ?_⟩
  unfold tLaw
  simp -implicitDefEqProofs (disch := omega) only [ev0, Nat.reduceBEq, Nat.reduceSub, Nat.reduceAdd, reduceIte, Ev.turn_eq, e0, ec, es, el, er1, em, c1, c2, l1, l2, l3, l4, l5, lf, er', lt, q1, v1, v2, l8, i0, i1, i2, j0, j1, j2]
theorem holds (ns : List Int) (h : ns.length ≤ 63) : callF T (12 + 1) lawN [.lst false (ns.map .int)] = .ok (.bl true) := by
  have e0 := cell (show T 38 = some d38 from rfl) rfl rfl rfl 11 ns 0 (by decide)
  obtain ⟨fs, ef, hf⟩ := names_ok 10 (ns.getD 0 0 / 5) 6 (by decide) (by decide)
  have hf6 : fs.length = 6 := hf.len
  obtain ⟨τ', e, o, a, b, c, d, rfl⟩ := Ev.for_all (its := rngD 0 8) (τ := [some (.lst false (ns.map .int)), some (.lst true (fs.map .str)), none, none, none, none]) (body := Ev.turn (callF T 12) (.nm 2) tLaw)
    (fun _ τ => ∃ o a b c d, τ = [some (.lst false (ns.map .int)), some (.lst o (fs.map .str)), a, b, c, d]) ⟨true, none, none, none, none, rfl⟩ (by
      rintro i x τ hx ⟨o, a, b, c, d, rfl⟩
      unfold rngD at hx
      obtain ⟨k, hk, rfl⟩ := List.mem_map.mp (List.mem_of_getElem? hx)
      obtain ⟨a', b', c', d', e⟩ := turn_ok ns hf6 hf.nam k o a b c d
      exact ⟨_, e, false, a', b', c', d', rfl⟩)
  rw [Ev.go (show T lawN = some d45 from rfl) (show d45.np = 1 from rfl) (show d45.G.N.length = 6 from rfl) (show d45.body = [(.asg (.nm 1) (.call 40 [(.bin .fdiv (.call 38 [(.v 0), (.c (.int 0))]) (.c (.int 5))), (.c (.int 6))])), (.for_ (.nm 2) (.rng1 (.c (.int 8))) tLaw), (.ret (.c (.bl true)))] from rfl) rfl]
  have l5 := Ev.ers_ii ns
  have l6 := Ev.lf_s fs
  have l7 := Ev.ers_ss fs
  have t0 : Int.toNat 0 = 0 := rfl
  rw [t0] at e0
  generalize fs.map D.str = FS at *
  generalize ns.map D.int = NS at *
  simp -implicitDefEqProofs (disch := omega) only [ev0, Nat.reduceBEq, Nat.reduceSub, Nat.reduceAdd, reduceIte, e0, ef, e, l5, l6, l7]
end Law
namespace PySem.W.Fast
theorem tw12668591273584079816:True:=⟨⟩
theorem tw1910290147729160484:True:=⟨⟩
theorem tw8919733300971661386:True:=⟨⟩
theorem tw5370528533096445590:True:=⟨⟩
theorem tw12910347819601659064:True:=⟨⟩
theorem tw16689764947785324279:True:=⟨⟩
theorem tw17910124351562057341:True:=⟨⟩
theorem tw5522949632156237892:True:=⟨⟩
theorem tw6115941000673889854:True:=⟨⟩
theorem tw2439343991913058998:True:=⟨⟩
theorem tw12928452390042706261:True:=⟨⟩
theorem tw17198630973178024527:True:=⟨⟩
theorem tw11185098369342974102:True:=⟨⟩
theorem tw16925214545872556455:True:=⟨⟩
theorem tw14591230153597498425:True:=⟨⟩
theorem tw15002816951830502634:True:=⟨⟩
theorem tw15342103378912041536:True:=⟨⟩
theorem tw9043716375983064510:True:=⟨⟩
theorem tw14969856376749173567:True:=⟨⟩
theorem tw3584787101006470964:True:=⟨⟩
theorem tw4715836215345286835:True:=⟨⟩
theorem tw7853031100586189415:True:=⟨⟩
theorem tw3364342887809301220:True:=⟨⟩
theorem tw12893068426765733821:True:=⟨⟩
theorem tw1960066432284592311:True:=⟨⟩
theorem tw1437658422835596557:True:=⟨⟩
theorem tw2097963465853595987:True:=⟨⟩
theorem tw3889363174118920318:True:=⟨⟩
theorem tw10979576079830166493:True:=⟨⟩
theorem tw11698770164775015692:True:=⟨⟩
theorem tw17270778386605227681:True:=⟨⟩
theorem tw3121446377987740067:True:=⟨⟩
theorem tw3281242742856381468:True:=⟨⟩
theorem tw10028082987777802477:True:=⟨⟩
theorem tw7978952358885107149:True:=⟨⟩
theorem tw3304769737986298826:True:=⟨⟩
theorem tw18200388677896312372:True:=⟨⟩
theorem tw5898820050177639613:True:=⟨⟩
theorem tw15736473091817296055:True:=⟨⟩
theorem tw1945955148726567220:True:=⟨⟩
theorem tw17773897296614756382:True:=⟨⟩
theorem tw2896754287688307750:True:=⟨⟩
theorem tw3244565914256709349:True:=⟨⟩
theorem tw9066510214494617216:True:=⟨⟩
theorem tw3718409677650066008:True:=⟨⟩
theorem tw6979673873296053355:True:=⟨⟩
theorem tw1180335205192435651:True:=⟨⟩
theorem tw5473572809566892800:True:=⟨⟩
theorem tw15266785609260434920:True:=⟨⟩
theorem tw6830027301916591787:True:=⟨⟩
theorem tw2821619007572338190:True:=⟨⟩
theorem tw1521397070455384591:True:=⟨⟩
theorem tw10980847709836003015:True:=⟨⟩
theorem tw15826075286198416613:True:=⟨⟩
theorem tw10223900671099381478:True:=⟨⟩
theorem tw2389611840117061001:True:=⟨⟩
theorem tw8929602423652892673:True:=⟨⟩
theorem tw639548594044773207:True:=⟨⟩
theorem tw8371654601146719000:True:=⟨⟩
theorem tw14069404364275994446:True:=⟨⟩
theorem tw1476845410458087597:True:=⟨⟩
theorem tw3865040496089388596:True:=⟨⟩
theorem tw16368422769096764827:True:=⟨⟩
theorem tw18197738470960079114:True:=⟨⟩
theorem tw6974066252011800413:True:=⟨⟩
theorem tw18214714837886849698:True:=⟨⟩
theorem tw3481149123965407120:True:=⟨⟩
theorem tw4329815846578757491:True:=⟨⟩
theorem tw10094720266563792995:True:=⟨⟩
theorem tw10454002141345226052:True:=⟨⟩
theorem tw5753525789771676650:True:=⟨⟩
theorem tw4914228122700357047:True:=⟨⟩
theorem tw14910991192428022951:True:=⟨⟩
theorem tw12220586633741095260:True:=⟨⟩
theorem tw14980456449119112923:True:=⟨⟩
theorem tw7745112167135443527:True:=⟨⟩
theorem tw15083021196431067586:True:=⟨⟩
theorem tw8798821911449708393:True:=⟨⟩
theorem tw6206273118793364574:True:=⟨⟩
theorem tw9392669764892220652:True:=⟨⟩
theorem tw740159942590495130:True:=⟨⟩
theorem tw679091708458814233:True:=⟨⟩
theorem tw7044200149759703363:True:=⟨⟩
theorem tw9112398417442368089:True:=⟨⟩
theorem tw18178131582896479782:True:=⟨⟩
theorem tw4811565231868570189:True:=⟨⟩
theorem tw15525171363664416633:True:=⟨⟩
theorem tw1764099496267606432:True:=⟨⟩
theorem tw15901837093100016669:True:=⟨⟩
theorem tw16197068894768968953:True:=⟨⟩
theorem tw2999467359446771401:True:=⟨⟩
theorem tw18266928813705989003:True:=⟨⟩
theorem tw9211335794664168534:True:=⟨⟩
theorem tw15493847500778305224:True:=⟨⟩
theorem tw9245831117216892827:True:=⟨⟩
theorem tw637319545539156890:True:=⟨⟩
theorem tw5663567295231430378:True:=⟨⟩
theorem tw13572055593169067495:True:=⟨⟩
theorem tw7495081529524700627:True:=⟨⟩
theorem tw8899427691710849669:True:=⟨⟩
theorem tw684796753208470926:True:=⟨⟩
theorem tw16116446094042895026:True:=⟨⟩
theorem tw3866508928663404829:True:=⟨⟩
theorem tw18133654528069331029:True:=⟨⟩
theorem tw1758548640314270379:True:=⟨⟩
theorem tw10806010813191680721:True:=⟨⟩
theorem tw5793146844804815867:True:=⟨⟩
theorem tw4352612272764353151:True:=⟨⟩
theorem tw17537744552037282239:True:=⟨⟩
theorem tw15516889677084051112:True:=⟨⟩
theorem tw13512527491949791096:True:=⟨⟩
theorem tw14745409178442085283:True:=⟨⟩
theorem tw10755857840377767175:True:=⟨⟩
theorem tw11512090089869131570:True:=⟨⟩
theorem tw12630023348179347421:True:=⟨⟩
theorem tw7505860518774398102:True:=⟨⟩
theorem tw8006079645574706253:True:=⟨⟩
theorem tw6633856553778606012:True:=⟨⟩
theorem tw376205343566704289:True:=⟨⟩
theorem tw10907253225238902227:True:=⟨⟩
theorem tw11736467008949052128:True:=⟨⟩
theorem tw8500486414364941735:True:=⟨⟩
theorem tw5772328341091731091:True:=⟨⟩
theorem tw7879127652232167171:True:=⟨⟩
theorem tw2079792020170860187:True:=⟨⟩
theorem tw13674540005643317455:True:=⟨⟩
theorem tw18285131526920916685:True:=⟨⟩
theorem tw15914730918567355535:True:=⟨⟩
theorem tw17099315835536533344:True:=⟨⟩
theorem tw3118508439728192881:True:=⟨⟩
theorem tw269282853965505269:True:=⟨⟩
theorem tw9594458883901158925:True:=⟨⟩
theorem tw18117031323784253206:True:=⟨⟩
theorem tw9866692939717656153:True:=⟨⟩
theorem tw15313324255855135779:True:=⟨⟩
theorem tw5971399087311744867:True:=⟨⟩
theorem tw9905885343102773453:True:=⟨⟩
theorem tw3913502669409836936:True:=⟨⟩
theorem tw6772690064008865501:True:=⟨⟩
theorem tw15326606253767896306:True:=⟨⟩
theorem tw3336174515313512058:True:=⟨⟩
theorem tw8646885787582047313:True:=⟨⟩
theorem tw9151710624188177553:True:=⟨⟩
theorem tw4844727941010145284:True:=⟨⟩
theorem tw18392062959450004200:True:=⟨⟩
theorem tw11238438053692728840:True:=⟨⟩
theorem tw1301470633237016724:True:=⟨⟩
theorem tw15652319814787094828:True:=⟨⟩
theorem tw17571270092003888178:True:=⟨⟩
theorem tw15424997541092827022:True:=⟨⟩
theorem tw10512314178053812410:True:=⟨⟩
theorem tw825594688077546490:True:=⟨⟩
theorem tw2657842135004755483:True:=⟨⟩
theorem tw5229842030443975090:True:=⟨⟩
theorem tw3017909163866955507:True:=⟨⟩
theorem tw10523221059721988755:True:=⟨⟩
theorem tw9272802611251112377:True:=⟨⟩
theorem tw9096265258764975262:True:=⟨⟩
theorem tw7741364344460857176:True:=⟨⟩
theorem tw13692478718587226870:True:=⟨⟩
theorem tw12458257799521325323:True:=⟨⟩
theorem tw5247334418105886785:True:=⟨⟩
theorem tw5493791045486017216:True:=⟨⟩
theorem tw4078924466247896635:True:=⟨⟩
theorem tw17766494364257014215:True:=⟨⟩
theorem tw1439213636255049670:True:=⟨⟩
theorem tw3906463647133614279:True:=⟨⟩
theorem tw5421150810958615466:True:=⟨⟩
theorem tw16543658956607659112:True:=⟨⟩
theorem tw2216943495993544146:True:=⟨⟩
theorem tw1622640321293999646:True:=⟨⟩
theorem tw15847808499765863585:True:=⟨⟩
theorem tw9241278699940807180:True:=⟨⟩
theorem tw11729161129845668566:True:=⟨⟩
theorem tw15726983114915285123:True:=⟨⟩
theorem tw11550605254459240840:True:=⟨⟩
theorem tw1050014503062460489:True:=⟨⟩
theorem tw464001930268352934:True:=⟨⟩
theorem tw1339026730018383866:True:=⟨⟩
theorem tw2672071710737245653:True:=⟨⟩
theorem tw1213972995313401170:True:=⟨⟩
theorem tw16038363088450831014:True:=⟨⟩
theorem tw14999982897398108385:True:=⟨⟩
theorem tw5191029439606981845:True:=⟨⟩
theorem tw2517132518206747810:True:=⟨⟩
theorem tw16276203815529344040:True:=⟨⟩
theorem tw1031103873740780962:True:=⟨⟩
theorem tw7044529085100046592:True:=⟨⟩
theorem tw15247753745483750515:True:=⟨⟩
theorem tw2830551730121069461:True:=⟨⟩
theorem tw10817882322016937051:True:=⟨⟩
end PySem.W.Fast
open PySem PySem.W PyProof.Rows
set_option maxRecDepth 100000 in
set_option maxHeartbeats 0 in
theorem PySem.Challenge.cw_flagroll_k17_shown_and_read_holds : PySem.Challenge.rw_flagroll_k17_shown_and_read.Holds := by
  w_on; o_law; k_head; (case hw => w_witness2)
  k_fill
  refine L2.law_walk (l := PySem.Challenge.rw_flagroll_k17_shown_and_read) (T := Law.T) (n := 12) (f := Law.lawN) (x := Law.lawX) rfl rfl ⟨rfl, by decide, by decide⟩ (fun w h Y => PySem.W.kIn_of Y) ?F Law.holds
  case F =>
    intro w mg fa h KX G hmg
    refine' Law.all_mk KX G hmg ?a27 ?l27 ?e27 ?k27 ?a28 ?l28 ?e28 ?k28 ?a29 ?l29 ?e29 ?k29 ?a30 ?l30 ?e30 ?k30 ?a31 ?l31 ?e31 ?k31 ?a32 ?l32 ?e32 ?k32 ?a33 ?l33 ?e33 ?k33 ?a34 ?l34 ?e34 ?k34 ?a35 ?l35 ?e35 ?k35 ?a36 ?l36 ?e36 ?k36 ?a37 ?l37 ?e37 ?k37 ?a38 ?l38 ?e38 ?k38 ?a39 ?l39 ?e39 ?k39 ?a40 ?l40 ?e40 ?k40 ?a41 ?l41 ?e41 ?k41 ?a42 ?l42 ?e42 ?k42 ?a43 ?l43 ?e43 ?k43 ?a44 ?l44 ?e44 ?k44 ?a45 ?l45 ?e45 ?k45 ?q18 ?q19 ?q20 ?q21 ?r21 ?q22 ?q23 ?q24 ?q25 ?q26 ?z0 ?z1 ?z2 ?z3 ?z4 ?z5 ?z6 ?z7 ?z8 ?z9 ?z10 ?z11 ?z12 ?z13 ?z14 ?z15 ?z16 ?z17
    (case a27 => k_is)
    (case l27 => k_is)
    (case e27 => k_is)
    (case k27 => k_is)
    (case a28 => k_is)
    (case l28 => k_is)
    (case e28 => k_is)
    (case k28 => k_is)
    (case a29 => k_is)
    (case l29 => k_is)
    (case e29 => k_is)
    (case k29 => k_is)
    (case a30 => k_is)
    (case l30 => k_is)
    (case e30 => k_is)
    (case k30 => k_is)
    (case a31 => k_is)
    (case l31 => k_is)
    (case e31 => k_is)
    (case k31 => k_is)
    (case a32 => k_is)
    (case l32 => k_is)
    (case e32 => k_is)
    (case k32 => k_is)
    (case a33 => k_is)
    (case l33 => k_is)
    (case e33 => k_is)
    (case k33 => k_is)
    (case a34 => k_is)
    (case l34 => k_is)
    (case e34 => k_is)
    (case k34 => k_is)
    (case a35 => k_is)
    (case l35 => k_is)
    (case e35 => k_is)
    (case k35 => k_is)
    (case a36 => k_is)
    (case l36 => k_is)
    (case e36 => k_is)
    (case k36 => k_is)
    (case a37 => k_is)
    (case l37 => k_is)
    (case e37 => k_is)
    (case k37 => k_is)
    (case a38 => k_is)
    (case l38 => k_is)
    (case e38 => k_is)
    (case k38 => k_is)
    (case a39 => k_is)
    (case l39 => k_is)
    (case e39 => k_is)
    (case k39 => k_is)
    (case a40 => k_is)
    (case l40 => k_is)
    (case e40 => k_is)
    (case k40 => k_is)
    (case a41 => k_is)
    (case l41 => k_is)
    (case e41 => k_is)
    (case k41 => k_is)
    (case a42 => k_is)
    (case l42 => k_is)
    (case e42 => k_is)
    (case k42 => k_is)
    (case a43 => k_is)
    (case l43 => k_is)
    (case e43 => k_is)
    (case k43 => k_is)
    (case a44 => k_is)
    (case l44 => k_is)
    (case e44 => k_is)
    (case k44 => k_is)
    (case a45 => k_is)
    (case l45 => k_is)
    (case e45 => k_is)
    (case k45 => k_is)
    (case q18 => k_is)
    (case q19 => k_is)
    (case q20 => k_is)
    (case q21 => k_is)
    (case r21 => k_is)
    (case q22 => k_is)
    (case q23 => k_is)
    (case q24 => k_is)
    (case q25 => k_is)
    (case q26 => k_is)
    (case z0 => k_is)
    (case z1 => k_is)
    (case z2 => k_is)
    (case z3 => k_is)
    (case z4 => k_is)
    (case z5 => k_is)
    (case z6 => k_is)
    (case z7 => k_is)
    (case z8 => k_is)
    (case z9 => k_is)
    (case z10 => k_is)
    (case z11 => k_is)
    (case z12 => k_is)
    (case z13 => k_is)
    (case z14 => k_is)
    (case z15 => k_is)
    (case z16 => k_is)
    (case z17 => k_is)
#print axioms PySem.Challenge.cw_flagroll_k17_shown_and_read_holds
