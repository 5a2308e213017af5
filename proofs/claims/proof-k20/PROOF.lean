import PyProof.Rows.All
import Wide.All
import OpenK.AllK
import Wide.FinOn
import Lean
import PyProof.EqAt
import PyProof.EqKinds
import PyProof.TupleCall
import KE.KSortAsk
import KE.KMinBuiltin
import KE.KDictOf
import PyProof.IsiH_list
import PyProof.P3Eq
import PyProof.NeData
import PyProof.ListRange
import KE.KIntText
import KE.KxLen
import KE.KTryMore
import PySem.Challenge.RW_hearwood_k20_each_refusal_alone
set_option bootstrap.genMatcherCode false
set_option genSizeOfSpec false
set_option compiler.extract_closed false
set_option Elab.async false
set_option linter.all false
set_option maxRecDepth 100000

namespace L2
open PySem PySem.Spec PyProof.Rows


noncomputable abbrev Key := Sum Int Str
noncomputable def keyIs : Key → Value → Bool
  | .inl k, v => Value.isInt k v
  | .inr x, v => Value.isStrOf x v
noncomputable def keyH (w : World) : Key → Int
  | .inl k => hashInt k
  | .inr x => hashStr w x
theorem keyIs_shape : ∀ {k : Key} {v : Value}, keyIs k v = true → (∃ i t, k = Sum.inl i ∧ v = Value.int i t) ∨ (∃ x t, k = Sum.inr x ∧ v = Value.str x t)
  | .inl i, v, h => by
    obtain ⟨t, e⟩ := Value.isInt_shape (k := i) (v := v) h
    exact .inl ⟨i, t, rfl, e⟩
  | .inr x, v, h => by
    obtain ⟨t, e⟩ := Value.isStrOf_shape (x := x) (v := v) h
    exact .inr ⟨x, t, rfl, e⟩
theorem keyIs_int (i : Int) (t : Tok) : keyIs (.inl i) (.int i t) = true := by simp [keyIs, Value.isInt]
theorem keyIs_str (x : Str) (t : Tok) : keyIs (.inr x) (.str x t) = true := by simp [keyIs, Value.isStrOf]
theorem key_ll (a b : Int) : decide ((Sum.inl a : Key) = Sum.inl b) = (a == b) := by
  by_cases e : a = b
  · subst e; simp
  · have h : ¬ (Sum.inl a : Key) = Sum.inl b := fun q => e (Sum.inl.inj q)
    rw [decide_eq_false h]
    exact (beq_eq_false_iff_ne.mpr e).symm
theorem key_rr (a b : Str) : decide ((Sum.inr a : Key) = Sum.inr b) = decide (a = b) := by
  by_cases e : a = b
  · subst e; simp
  · have h : ¬ (Sum.inr a : Key) = Sum.inr b := fun q => e (Sum.inr.inj q)
    rw [decide_eq_false h, decide_eq_false e]
theorem key_lr (a : Int) (b : Str) : decide ((Sum.inl a : Key) = Sum.inr b) = false := decide_eq_false (fun q => nomatch q)
theorem key_rl (a : Str) (b : Int) : decide ((Sum.inr a : Key) = Sum.inl b) = false := decide_eq_false (fun q => nomatch q)

noncomputable def mixKind (prog : Program) (w : World) : PySem.KeyKind prog w Key where
  is := keyIs
  hash := keyH w
  inj := fun v a b ha hb => by
    rcases keyIs_shape ha with ⟨i, t, rfl, rfl⟩ | ⟨x, t, rfl, rfl⟩
    · rcases keyIs_shape hb with ⟨j, u, rfl, e⟩ | ⟨y, u, rfl, e⟩
      · injection e with e1 _; rw [e1]
      · exact nomatch e
    · rcases keyIs_shape hb with ⟨j, u, rfl, e⟩ | ⟨y, u, rfl, e⟩
      · exact nomatch e
      · injection e with e1 _; rw [e1]
  byValue := fun k v h => by
    rcases keyIs_shape h with ⟨i, t, rfl, rfl⟩ | ⟨x, t, rfl, rfl⟩ <;> rfl
  pyHash := fun hv h => by
    rcases keyIs_shape hv with ⟨i, t, rfl, rfl⟩ | ⟨x, t, rfl, rfl⟩
    · exact wpAny_pyHash_int h
    · exact wpAny_pyHash_str h
  eqBool := fun hu hv h => by
    rcases keyIs_shape hu with ⟨i, t, rfl, rfl⟩ | ⟨x, t, rfl, rfl⟩
    · rcases keyIs_shape hv with ⟨j, u, rfl, rfl⟩ | ⟨y, u, rfl, rfl⟩
      · rw [key_ll] at h; exact wpAny_eqBool_int h
      · rw [key_lr] at h; exact SeqAt.EqAt.int_str i t y u _ _ _ _ h
    · rcases keyIs_shape hv with ⟨j, u, rfl, rfl⟩ | ⟨y, u, rfl, rfl⟩
      · rw [key_rl] at h; exact SeqAt.EqAt.str_int x t j u _ _ _ _ h
      · rw [key_rr] at h; exact wpAny_eqBool_str h
  «strs» := fun k x t v h => by
    rcases keyIs_shape h with ⟨i, u, rfl, e⟩ | ⟨y, u, rfl, e⟩
    · exact nomatch e
    · injection e with e1 _
      subst e1
      cases v <;> rfl

theorem mixKind_int (prog : Program) (w : World) (i : Int) (t : Tok) : (mixKind prog w).is (.inl i) (.int i t) = true := keyIs_int i t
theorem mixKind_str (prog : Program) (w : World) (x : Str) (t : Tok) : (mixKind prog w).is (.inr x) (.str x t) = true := keyIs_str x t
end L2

namespace L2
open PySem PySem.Spec PyProof.Rows


inductive V where
  | non | bl (b : Bool) | int (i : Int) | str (x : Str) | byt (b : Array UInt8) | flt (b : UInt64) | ref (a : Addr) | ty (n : String)
  deriving DecidableEq

noncomputable def RelV : V → Value → Prop
  | .non, u => u = Value.none
  | .bl b, u => u = Value.bool b
  | .int i, u => ∃ t, u = Value.int i t
  | .str x, u => ∃ t, u = Value.str x t
  | .byt b, u => ∃ t, u = Value.bytes b t
  | .flt b, u => ∃ t, u = Value.float b t
  | .ref a, u => u = Value.ref a
  | .ty n, u => u = Value.type n

noncomputable abbrev Vals : List V → List Value → Prop := Paired RelV
theorem Vals.length {xs : List V} {us : List Value} (r : Vals xs us) : xs.length = us.length := Paired.length r
theorem Vals.get : ∀ {xs : List V} {us : List Value} {i : Nat} {x : V}, Vals xs us → xs[i]? = some x → ∃ u, us[i]? = some u ∧ RelV x u
  | _, _, _, _, .nil, e => by simp at e
  | _, _, 0, _, .cons r _, e => by simp at e; subst e; exact ⟨_, rfl, r⟩
  | _, _, i + 1, x, .cons _ t, e => by
    obtain ⟨u, h1, h2⟩ := Vals.get (i := i) (x := x) t (by simpa using e)
    exact ⟨u, by simpa using h1, h2⟩
theorem Vals.set {x : V} {u : Value} (r : RelV x u) : ∀ {xs : List V} {us : List Value} (i : Nat), Vals xs us → Vals (xs.set i x) (us.set i u)
  | _, _, _, .nil => .nil
  | _, _, 0, .cons _ t => .cons r t
  | _, _, i + 1, .cons q t => .cons q (Vals.set r i t)
theorem Vals.append {xs ys : List V} {us ws : List Value} (h : Vals xs us) (s : Vals ys ws) : Vals (xs ++ ys) (us ++ ws) := by
  induction h with
  | nil => exact s
  | cons r t ih => exact .cons r ih
theorem Vals.take : ∀ {xs : List V} {us : List Value} (n : Nat), Vals xs us → Vals (xs.take n) (us.take n)
  | _, _, 0, _ => .nil
  | _, _, _ + 1, .nil => .nil
  | _, _, n + 1, .cons r t => .cons r (Vals.take n t)
theorem Vals.drop : ∀ {xs : List V} {us : List Value} (n : Nat), Vals xs us → Vals (xs.drop n) (us.drop n)
  | _, _, 0, r => r
  | _, _, _ + 1, .nil => .nil
  | _, _, n + 1, .cons _ t => Vals.drop n t
theorem Vals.none_of : ∀ {xs : List V} {us : List Value} {i : Nat}, Vals xs us → xs[i]? = none → us[i]? = none := fun {xs us i} r e => by
  have h1 := r.length
  have h2 : xs.length ≤ i := List.getElem?_eq_none_iff.mp e
  exact List.getElem?_eq_none_iff.mpr (by omega)

noncomputable def RelO : Option V → Option Value → Prop
  | some v, some u => RelV v u
  | none, none => True
  | _, _ => False
noncomputable def KV {κ : Type} : List (κ × V) → List (κ × Value) → Prop := Paired fun (p : κ × V) (q : κ × Value) => p.1 = q.1 ∧ RelV p.2 q.2


noncomputable def kV : Key → V
  | .inl i => .int i
  | .inr x => .str x


inductive HO where
  
  | lst (xs : List V)
  
  | tup (xs : List V)
  
  | dK (kvs : List (Key × V)) | dT (kvs : List (List Key × V))
  
  | set (S : Int → Bool) (n : Nat)
  
  | ins (C dx : Addr) (fs : List (Str × V))
  
  | own (x : Addr)
  
  | xd (fs : List (Str × V))
  
  | met (f x : Addr)
  
  | rng (lo hi : Int)
  
  | frz (o : Obj) (u : HO)
  
  | tbl (ps : Array Value)
  
  | ext (φ : Heap → Prop)

noncomputable abbrev Hp := Addr → Option HO
noncomputable def upd (H : Hp) (a : Addr) (o : HO) : Hp := fun b => if b = a then some o else H b
theorem upd_same {H : Hp} {a : Addr} {o : HO} : upd H a o a = some o := by unfold upd; rw [if_pos rfl]
theorem upd_ne {H : Hp} {a b : Addr} {o : HO} (h : b ≠ a) : upd H a o b = H b := by unfold upd; rw [if_neg h]
theorem ne_of {H : Hp} {a b : Addr} {o u : HO} (h : H a = some o) (h' : H b = some u) (d : o ≠ u) : a ≠ b := by
  intro e; subst e; rw [h] at h'; exact d (Option.some.inj h')
theorem ne_of_none {H : Hp} {a b : Addr} {o : HO} (h : H a = some o) (h' : H b = none) : a ≠ b := by
  intro e; subst e; rw [h] at h'; cases h'

section
variable (P : Program) (w : World)
noncomputable def ObjOk (H : Hp) (h : Heap) (a : Addr) : HO → Prop
  | .lst xs => xs.length ≤ sizeLine ∧ ∃ (its : List Value) (n : Nat), Vals xs its ∧ h.get? a = some { cls := .type "list", data := .seq its.toArray n }
  | .tup xs => xs.length ≤ sizeLine ∧ ∃ its : List Value, Vals xs its ∧ IsTup h a its.toArray
  | .dK kvs => kvs.length ≤ sizeLine ∧ (a == sysModules) = false ∧ ∃ vs, KV kvs vs ∧ h.DictOf (mixKind P w) a vs
  | .dT kvs => kvs.length ≤ sizeLine ∧ (a == sysModules) = false ∧ ∃ xs : List (List Key × Addr × Value),
      Paired (fun (p : List Key × V) (q : List Key × Addr × Value) => p.1 = q.1 ∧ H q.2.1 = some (.tup (p.1.map kV)) ∧ RelV p.2 q.2.2) kvs xs ∧
      ∃ o es ep, h.get? a = some o ∧ o.ExactDict ∧ o.data = .dict es ep ∧ es.toList = xs.map (entryOfKey (tupleKind (mixKind P w))) ∧ (xs.map (·.1)).Nodup
  | .set S n => h.SetOf (intKind P w) a S n
  | .ins C dx fs => H dx = some (.own a) ∧ fs.length ≤ 1000 ∧ dx ≠ a ∧ h.get? a = some (PySem.W.instObj C dx) ∧
      ∃ mA, h.Ns1 dx mA ∧ (∀ f, RelO (fs.lookup f) (mA f)) ∧ PySem.Within mA (fs.map (·.1))
  | .own _ => ∃ o, h.get? a = some o
  | .xd fs => ∃ mA, h.Ns1 a mA ∧ ∀ f, RelO (fs.lookup f) (mA f)
  | .rng lo hi => ∃ t u v, h.get? a = some { cls := .type "range", data := .fields #[.int lo t, .int hi u, .int 1 v] }
  | .frz o u => h.get? a = some o ∧ ObjOk H h a u
  | .tbl ps => h.get? a = some { cls := .none, data := .fields ps }
  | .met f x => h.get? a = some (PySem.W.methodObj (.ref f) (.ref x))
  | .ext φ => φ h ∧ (∃ o, h.get? a = some o) ∧ ∀ h1 h2 : Heap, φ h1 → (∀ o, h1.get? a = some o → h2.get? a = some o) → φ h2

noncomputable def HOk (H : Hp) (h : Heap) : Prop := ∀ a o, H a = some o → ObjOk P w H h a o
end

section
variable {P : Program} {w : World} {H H' : Hp} {h h' : Heap} {a : Addr} {o : HO}
theorem ObjOk.lt (x : ObjOk P w H h a o) : a < h.objs.size := by
  cases o with
  | lst xs => obtain ⟨_, _, _, _, e⟩ := x; exact Heap.lt_size e
  | tup xs => obtain ⟨_, _, _, p⟩ := x; exact p.lt
  | dK kvs => obtain ⟨_, _, _, _, o, _, _, e, _⟩ := x; exact Heap.lt_size e
  | dT kvs => obtain ⟨_, _, _, _, o, _, _, e, _⟩ := x; exact Heap.lt_size e
  | set S n => obtain ⟨o, _, _, _, e, _⟩ := x; exact Heap.lt_size e
  | ins C dx fs => obtain ⟨_, _, _, e, _⟩ := x; exact Heap.lt_size e
  | own y => obtain ⟨_, e⟩ := x; exact Heap.lt_size e
  | xd fs => obtain ⟨_, ⟨_, _, _, e, _⟩, _⟩ := x; exact Heap.lt_size e
  | rng lo hi => obtain ⟨_, _, _, e⟩ := x; exact Heap.lt_size e
  | frz ob u => obtain ⟨e, _⟩ := x; exact Heap.lt_size e
  | tbl ps => exact Heap.lt_size (show h.get? a = some _ from x)
  | met f y => exact Heap.lt_size (show h.get? a = some _ from x)
  | ext φ => obtain ⟨_, ⟨_, e⟩, _⟩ := x; exact Heap.lt_size e
theorem Paired.mapP {α β : Type} {F G : α → β → Prop} {l₁ : List α} {l₂ : List β} (h : Paired F l₁ l₂) (f : ∀ a b, F a b → G a b) : Paired G l₁ l₂ := by
  induction h with
  | nil => exact .nil
  | cons r t ih => exact .cons (f _ _ r) ih
theorem ObjOk.stay (x : ObjOk P w H h a o) (k : ∀ b u, (b = a ∨ H b = some (.own a)) → h.get? b = some u → h'.get? b = some u)
    (ho : ∀ b, H b = some (.own a) → H' b = some (.own a)) (ht : ∀ b xs, H b = some (.tup xs) → H' b = some (.tup xs)) : ObjOk P w H' h' a o := by
  induction o with
  | lst xs => obtain ⟨z, its, n, r, e⟩ := x; exact ⟨z, its, n, r, k _ _ (.inl rfl) e⟩
  | tup xs => obtain ⟨z, its, r, ob, e, c⟩ := x; exact ⟨z, its, r, ob, k _ _ (.inl rfl) e, c⟩
  | dK kvs => obtain ⟨z, y, vs, r, ob, es, ep, e, c⟩ := x; exact ⟨z, y, vs, r, ob, es, ep, k _ _ (.inl rfl) e, c⟩
  | dT kvs =>
    obtain ⟨z, y, xs, r, ob, es, ep, e, c⟩ := x
    exact ⟨z, y, xs, Paired.mapP r fun p q z => ⟨z.1, ht _ _ z.2.1, z.2.2⟩, ob, es, ep, k _ _ (.inl rfl) e, c⟩
  | set S n => obtain ⟨ob, es, ep, t, e, c⟩ := x; exact ⟨ob, es, ep, t, k _ _ (.inl rfl) e, c⟩
  | ins C dx fs =>
    obtain ⟨d, z, ne, e, mA, ⟨od, es, ep, e2, c⟩, r⟩ := x
    exact ⟨ho _ d, z, ne, k _ _ (.inl rfl) e, mA, ⟨od, es, ep, k _ _ (.inr d) e2, c⟩, r⟩
  | own y => obtain ⟨ob, e⟩ := x; exact ⟨ob, k _ _ (.inl rfl) e⟩
  | xd fs => obtain ⟨mA, ⟨od, es, ep, e, c⟩, r⟩ := x; exact ⟨mA, ⟨od, es, ep, k _ _ (.inl rfl) e, c⟩, r⟩
  | rng lo hi => obtain ⟨t, u, v, e⟩ := x; exact ⟨t, u, v, k _ _ (.inl rfl) e⟩
  | frz ob u ih => obtain ⟨e, q⟩ := x; exact ⟨k _ _ (.inl rfl) e, ih q⟩
  | tbl ps =>
    have e : h.get? a = some { cls := .none, data := .fields ps } := x
    show h'.get? a = some { cls := .none, data := .fields ps }
    exact k a _ (.inl rfl) e
  | met f y =>
    have e : h.get? a = some (PySem.W.methodObj (.ref f) (.ref y)) := x
    show h'.get? a = some (PySem.W.methodObj (.ref f) (.ref y))
    exact k a _ (.inl rfl) e
  | ext φ => obtain ⟨p, ⟨o, e⟩, st⟩ := x; exact ⟨st _ _ p fun o q => k _ _ (.inl rfl) q, ⟨o, k _ _ (.inl rfl) e⟩, st⟩
theorem HOk.lt (x : HOk P w H h) (e : H a = some o) : a < h.objs.size := (x a o e).lt
theorem HOk.fresh (x : HOk P w H h) (e : h.objs.size ≤ a) : H a = none := by
  cases q : H a with
  | none => rfl
  | some u => exact absurd (Nat.lt_of_lt_of_le (x.lt q) e) (Nat.lt_irrefl _)

theorem HOk.kept (x : HOk P w H h) (k : ∀ b u, h.get? b = some u → h'.get? b = some u) : HOk P w H h' := fun a o e =>
  (x a o e).stay (fun b u _ q => k b u q) (fun _ q => q) fun _ _ q => q

theorem HOk.laid (x : HOk P w H h) (k : ∀ b u, h.get? b = some u → h'.get? b = some u) (hp : h.objs.size ≤ a) (new : ObjOk P w (upd H a o) h' a o) : HOk P w (upd H a o) h' := fun b u e => by
  have hn := x.fresh hp
  by_cases hb : b = a
  · subst hb; rw [upd_same] at e; cases e; exact new
  · rw [upd_ne hb] at e
    exact (x b u e).stay (fun c v _ q => k c v q) (fun c q => by rw [upd_ne (ne_of_none q hn)]; exact q) fun c xs q => by rw [upd_ne (ne_of_none q hn)]; exact q
end


noncomputable def Rd (H : Hp) (a : Addr) (u : HO) : Prop := H a = some u ∨ ∃ o, H a = some (.frz o u)
theorem Rd.of {H : Hp} {a : Addr} {u : HO} (h : H a = some u) : Rd H a u := .inl h
theorem Rd.ok {P : Program} {w : World} {H : Hp} {h : Heap} {a : Addr} {u : HO} (r : Rd H a u) (x : HOk P w H h) : ObjOk P w H h a u := by
  rcases r with r | ⟨o, r⟩
  · exact x a u r
  · obtain ⟨_, q⟩ := x a _ r
    exact q

noncomputable def Mut : Option HO → Prop
  | some (.lst _) => True
  | some (.dK _) => True
  | some (.dT _) => True
  | some (.set _ _) => True
  | some (.ins _ _ _) => True
  | some (.ext _) => True
  | _ => False
section
variable {P : Program} {w : World} {H : Hp} {h h' : Heap} {x e : Addr} {o' : HO}

theorem HOk.write (ok : HOk P w H h) (mu : Mut (H x)) (he : e = x ∨ H e = some (.own x)) (k : ∀ b u, b ≠ e → h.get? b = some u → h'.get? b = some u) (heo : ∃ u, h'.get? e = some u)
    (new : ObjOk P w (upd H x o') h' x o') : HOk P w (upd H x o') h' := fun b u q => by
  have nown : ∀ c y, H c = some (.own y) → c ≠ x := fun c y r z => by subst z; rw [r] at mu; exact mu
  have ntup : ∀ c xs, H c = some (.tup xs) → c ≠ x := fun c xs r z => by subst z; rw [r] at mu; exact mu
  by_cases hb : b = x
  · subst hb; rw [upd_same] at q; cases q; exact new
  · rw [upd_ne hb] at q
    by_cases hbe : b = e
    · have q' : H b = some (.own x) := by
        rcases he with z | z
        · exact absurd (hbe.trans z) hb
        · rw [hbe]; exact z
      rw [q] at q'; cases q'
      obtain ⟨v, hv⟩ := heo
      exact ⟨v, by rw [hbe]; exact hv⟩
    · refine (ok b u q).stay (fun c v hc r => k c v ?_ r) (fun c r => by rw [upd_ne (nown c b r)]; exact r) fun c xs r => by rw [upd_ne (ntup c xs r)]; exact r
      rcases hc with rfl | hc
      · exact hbe
      · rintro rfl
        rcases he with z | z
        · exact nown c b hc z
        · rw [hc] at z; cases z; exact hb rfl
end


structure Un (fs ex : List Addr) (H H' : Hp) (h h' : Heap) : Prop where
  keep : ∀ b o, h.get? b = some o → H b = none → b ∉ fs → b ∉ ex → h'.get? b = some o
  slot : ∀ b o, h.get? b = some o → H b = none → b ∈ fs → b ∉ ex → ∃ sl, h'.get? b = some { o with slots := sl }
  free : ∀ b o, h.get? b = some o → H b = none → b ∉ ex → H' b = none
  there : ∀ b o, h.get? b = some o → b ∉ ex → ∃ o', h'.get? b = some o'
  tups : ∀ b xs, H b = some (.tup xs) → H' b = some (.tup xs)
  frzs : ∀ b o u, H b = some (.frz o u) → H' b = some (.frz o u)
  tbls : ∀ b ps, H b = some (.tbl ps) → ∃ more, H' b = some (.tbl (ps ++ more))
section
variable {fs fs' ex ex' : List Addr} {H H1 H2 : Hp} {h h1 h2 h' : Heap} {a x e : Addr} {o : HO}
theorem Un.any (u : Un fs ex H H1 h h1) {b : Addr} {ob : Obj} (q : h.get? b = some ob) (n : H b = none) (hx : b ∉ ex) : ∃ sl, h1.get? b = some { ob with slots := sl } := by
  by_cases hb : b ∈ fs
  · exact u.slot b ob q n hb hx
  · exact ⟨ob.slots, u.keep b ob q n hb hx⟩
theorem Un.trans (a : Un fs ex H H1 h h1) (b : Un fs ex H1 H2 h1 h2) : Un fs ex H H2 h h2 where
  keep := fun c ob q n hc hx => b.keep c ob (a.keep c ob q n hc hx) (a.free c ob q n hx) hc hx
  slot := fun c ob q n hc hx => by
    obtain ⟨sl, e1⟩ := a.slot c ob q n hc hx
    obtain ⟨sl', e2⟩ := b.slot c _ e1 (a.free c ob q n hx) hc hx
    exact ⟨sl', e2⟩
  free := fun c ob q n hx => by
    obtain ⟨o', e1⟩ := a.there c ob q hx
    exact b.free c o' e1 (a.free c ob q n hx) hx
  there := fun c ob q hx => by
    obtain ⟨o', e1⟩ := a.there c ob q hx
    exact b.there c o' e1 hx
  tups := fun c xs q => b.tups c xs (a.tups c xs q)
  frzs := fun c ob xs q => b.frzs c ob xs (a.frzs c ob xs q)
  tbls := fun c ps q => by
    obtain ⟨m1, e1⟩ := a.tbls c ps q
    obtain ⟨m2, e2⟩ := b.tbls c _ e1
    exact ⟨m1 ++ m2, by rw [e2, Array.append_assoc]⟩
theorem Un.kept (k : ∀ b u, h.get? b = some u → h'.get? b = some u) : Un fs ex H H h h' :=
  ⟨fun b ob q _ _ _ => k b ob q, fun b ob q _ _ _ => ⟨ob.slots, k b ob q⟩, fun _ _ _ n _ => n, fun b ob q _ => ⟨ob, k b ob q⟩, fun _ _ q => q, fun _ _ _ q => q, fun _ ps q => ⟨#[], by rw [q]; simp⟩⟩
theorem Un.refl : Un fs ex H H h h := Un.kept fun _ _ q => q
theorem Un.laid (k : ∀ b u, h.get? b = some u → h'.get? b = some u) (hp : h.objs.size ≤ a) (hn : H a = none) : Un fs ex H (upd H a o) h h' where
  keep := fun b u q _ _ _ => k b u q
  slot := fun b u q _ _ _ => ⟨u.slots, k b u q⟩
  free := fun b u q n _ => by rw [upd_ne (Nat.ne_of_lt (Nat.lt_of_lt_of_le (Heap.lt_size q) hp))]; exact n
  there := fun b u q _ => ⟨u, k b u q⟩
  tups := fun b xs q => by rw [upd_ne (ne_of_none q hn)]; exact q
  frzs := fun b u xs q => by rw [upd_ne (ne_of_none q hn)]; exact q
  tbls := fun b ps q => ⟨#[], by rw [upd_ne (ne_of_none q hn), q]; simp⟩
theorem Un.write (mu : Mut (H x)) (he : e = x ∨ H e = some (.own x)) (k : ∀ b u, b ≠ e → h.get? b = some u → h'.get? b = some u) (heo : ∃ u, h'.get? e = some u) : Un fs ex H (upd H x o) h h' := by
  have hx : ∀ b, H b = none → b ≠ x := fun b n z => by subst z; rw [n] at mu; exact mu
  have hb : ∀ b, H b = none → b ≠ e := fun b n z => by
    subst z
    rcases he with r | r
    · exact hx b n r
    · rw [n] at r; cases r
  have hm : ∀ b u, H b = some u → ¬ Mut (some u) → b ≠ x := fun b u q nm z => by subst z; rw [q] at mu; exact nm mu
  refine ⟨fun b u q n _ _ => k b u (hb b n) q, fun b u q n _ _ => ⟨u.slots, k b u (hb b n) q⟩, fun b u q n _ => by rw [upd_ne (hx b n)]; exact n, fun b u q _ => ?_,
    fun b xs q => by rw [upd_ne (hm b _ q fun z => z)]; exact q, fun b u xs q => by rw [upd_ne (hm b _ q fun z => z)]; exact q, fun b ps q => ⟨#[], by rw [upd_ne (hm b _ q fun z => z), q]; simp⟩⟩
  by_cases hbe : b = e
  · subst hbe; exact heo
  · exact ⟨u, k b u hbe q⟩
theorem Un.mono (u : Un fs ex H H1 h h1) (hs : ∀ b ∈ fs, b ∈ fs') (hx : ∀ b ∈ ex, b ∈ ex') : Un fs' ex' H H1 h h1 :=
  ⟨fun b ob q n hb he => u.keep b ob q n (fun z => hb (hs b z)) fun z => he (hx b z), fun _ _ q n _ he => u.any q n fun z => he (hx _ z), fun b ob q n he => u.free b ob q n fun z => he (hx b z), fun b ob q he => u.there b ob q fun z => he (hx b z), u.tups, u.frzs, u.tbls⟩
end


noncomputable def trk (h : Heap) (H : Hp) : List Addr := (List.range h.objs.size).filter fun a => (H a).isSome
noncomputable def hidT (h : Heap) (H : Hp) : Heap := PySem.W.hideAll h (trk h H)
theorem hidT_size (h : Heap) (H : Hp) : (hidT h H).objs.size = h.objs.size := PySem.W.hideAll_size _ _
theorem hidT_get {h : Heap} {H : Hp} {b : Addr} {o : Obj} (e : h.get? b = some o) (n : H b = none) : (hidT h H).get? b = some o :=
  PySem.W.hideAll_get _ e fun hm => by
    have q : (H b).isSome = true := (List.mem_filter.mp hm).2
    rw [n] at q; simp at q
theorem of_hidT {h : Heap} {H : Hp} {b : Addr} {o : Obj} (e : (hidT h H).get? b = some o) : h.get? b = some o ∧ H b = none := by
  have e' : h.get? b = some o := PySem.W.of_hideAll (trk h H) e
  refine ⟨e', ?_⟩
  cases q : H b with
  | none => rfl
  | some x =>
    have hm : b ∈ trk h H := List.mem_filter.mpr ⟨List.mem_range.mpr (Heap.lt_size e'), by simp [q]⟩
    have z : (hidT h H).get? b = none := PySem.W.hideAll_none (trk h H) hm
    rw [z] at e; cases e


noncomputable def allNews (g h : Heap) (L : Addr) : List (Addr × Obj) := (List.range h.objs.size).filterMap fun a => if a = L ∨ (g.get? a).isSome = true then none else (h.get? a).map fun o => (a, o)
noncomputable def rest (g h : Heap) (L d : Addr) : List (Addr × Obj) := (allNews g h L).filter fun p => decide (p.1 ≠ d)
end L2

namespace L2
open PySem PySem.Spec PyProof.Rows


structure Mod (K : PySem.W.Frag) (mg : Str → Option Value) (base : Heap) : Prop where
  kin : K.In base
  glob : base.Ns mainGlobals mg
  blt : ∃ mb, base.Ns builtinsNs mb ∧ ∀ x : Str, x ≠ "__name__" → mb x = bootBuiltins x
  nolimit : base.NoLimit


structure Cx where
  prog : Program
  w : World
  K : PySem.W.Frag
  mg : Str → Option Value
  base : Heap
  A : Around
  N : List Str
  s₀ : Shared
  H₀ : Hp
  env : Env
  outer : List Env
  stack : List Env
  ex : List Addr
  fn : Str → Bool
  calm : Bool
  pn : List (Addr × Obj)
  xe : Value → Shared → Prop

noncomputable def frs (l : List Env) : List Addr := l.filterMap (·.frame)
noncomputable abbrev Cx.fs (X : Cx) : List Addr := frs X.outer

noncomputable def Vis (sc : Scope) (x : Str) : Prop := sc.names.lookup x = some .local ∨ sc.names.lookup x = some .cell ∨ sc.names.lookup x = some .free
noncomputable def Loc (sc : Scope) (x : Str) : Prop := sc.names.lookup x = some .local ∨ sc.names.lookup x = some .cell
noncomputable def Look (env : Env) (h : Heap) (m : Str → Option Value) (x : Str) (u : Value) : Prop :=
  (env.kindOf x = some .local ∧ m x = some u) ∨ ((env.kindOf x = some .cell ∨ env.kindOf x = some .free) ∧ ∃ c, env.cells.lookup x = some c ∧ h.IsCell c (some u))

structure Cx.Ok (X : Cx) : Prop where
  mod : Mod X.K X.mg X.base
  kind : X.env.scope.kind = .function
  glob : X.env.globals = mainGlobals
  blt : X.env.builtins = builtinsNs
  above : X.s₀.heap.objs.size ≤ X.env.locals
  inj : ∀ x y c, X.env.cells.lookup x = some c → X.env.cells.lookup y = some c → x = y
  has : ∀ x, (X.env.kindOf x = some .cell ∨ X.env.kindOf x = some .free) → ∃ c, X.env.cells.lookup x = some c
  cab : ∀ x c, X.fn x = true → X.env.cells.lookup x = some c → X.s₀.heap.objs.size ≤ c
  hd : X.calm = true → X.A.handled = none
  frames : X.A.frames = some X.stack
  stk : X.stack = X.outer ∨ (X.stack = X.env :: X.outer ∧ X.env.frame = some X.env.locals)
  exf : ∀ b ∈ X.ex, b ≠ X.env.locals ∧ ∀ x c, X.env.cells.lookup x = some c → c ≠ b
  bs : ∀ b o, X.base.get? b = some o → X.s₀.heap.get? b = some o ∧ X.H₀ b = none
  bsz : X.base.objs.size ≤ X.s₀.heap.objs.size
  noex : ∀ b o, X.base.get? b = some o → b ∉ X.ex
  exfs : ∀ b ∈ X.ex, b ∉ X.fs
  funs : X.s₀.heap.FunFrames X.base X.outer
  frf : ∀ b ∈ X.fs, X.H₀ b = none

structure Inv (X : Cx) (pins : List (Addr × Obj)) (σ : List (Option V)) (H : Hp) (s : Shared) : Prop where
  ok : X.Ok
  os : s.os = X.s₀.os
  bare : AllBare s.gens
  base : Un X.fs X.ex X.H₀ H X.s₀.heap s.heap
  loc : ∃ m, s.heap.Ns X.env.locals m ∧ ∀ (i : Nat) (x : Str) (v : V), X.N[i]? = some x → σ[i]? = some (some v) → Vis X.env.scope x → ∃ u, RelV v u ∧ Look X.env s.heap m x u
  cell : ∀ x c, X.env.cells.lookup x = some c → ∃ v, s.heap.IsCell c v
  free : H X.env.locals = none
  freeC : ∀ x c, X.env.cells.lookup x = some c → H c = none
  pin : ∀ p ∈ X.pn ++ pins, s.heap.get? p.1 = some p.2 ∧ H p.1 = none ∧ p.1 ≠ X.env.locals ∧ p.1 ∉ X.fs ∧ ∀ v, p.2.data ≠ .cell v
  hok : HOk X.prog X.w H s.heap
  len : σ.length = X.N.length

section
variable {X : Cx} {pins : List (Addr × Obj)} {σ : List (Option V)} {H H' : Hp} {s : Shared} {h' : Heap}

theorem Cx.Ok.nofr (ok : X.Ok) {b : Addr} {o : Obj} (e : X.base.get? b = some o) : b ∉ X.fs := fun hb => by
  have := (ok.funs.mem hb).1
  rw [e] at this; cases this
theorem Inv.bs (I : Inv X pins σ H s) : ∀ b o, X.base.get? b = some o → s.heap.get? b = some o ∧ H b = none := fun b o e =>
  ⟨I.base.keep b o (I.ok.bs b o e).1 (I.ok.bs b o e).2 (I.ok.nofr e) (I.ok.noex b o e), I.base.free b o (I.ok.bs b o e).1 (I.ok.bs b o e).2 (I.ok.noex b o e)⟩
theorem Inv.bk (I : Inv X pins σ H s) : ∀ b o, X.base.get? b = some o → s.heap.get? b = some o := fun b o e => (I.bs b o e).1
theorem Inv.mod (I : Inv X pins σ H s) : Mod X.K X.mg X.base := I.ok.mod
theorem Inv.kIn (I : Inv X pins σ H s) : X.K.In s.heap := I.ok.mod.kin.keeps I.bk
theorem Inv.nolimit (I : Inv X pins σ H s) : s.heap.NoLimit := I.ok.mod.nolimit.keeps I.bk

theorem Inv.fr (I : Inv X pins σ H s) : ∃ m, Fr X.base X.env.locals s.heap m :=
  let ⟨m, hn, _⟩ := I.loc
  ⟨m, hn, I.bk, Nat.le_trans I.ok.bsz I.ok.above⟩
theorem Inv.lt (I : Inv X pins σ H s) : X.env.locals < s.heap.objs.size := let ⟨_, hn, _⟩ := I.loc; hn.lt
theorem Inv.sz (I : Inv X pins σ H s) : X.s₀.heap.objs.size ≤ s.heap.objs.size := Nat.le_trans I.ok.above (Nat.le_of_lt I.lt)
theorem Inv.nofs (I : Inv X pins σ H s) {a : Addr} (h : s.heap.objs.size ≤ a) : a ∉ X.fs := fun hb => by
  obtain ⟨_, o, ho, _⟩ := I.ok.funs.mem hb
  exact absurd (Nat.lt_of_lt_of_le (Heap.lt_size ho) (Nat.le_trans I.sz h)) (Nat.lt_irrefl _)
theorem Inv.cne (I : Inv X pins σ H s) : ∀ x c, X.env.cells.lookup x = some c → c ≠ X.env.locals := fun x c e z => by
  obtain ⟨v, o, ho, hd⟩ := I.cell x c e
  obtain ⟨m, ⟨o', es, ep, ho', hd', _⟩, _⟩ := I.loc
  rw [z, ho'] at ho; cases ho; rw [hd'] at hd; cases hd
theorem Inv.funs (I : Inv X pins σ H s) : s.heap.FunFrames X.base X.outer := by
  have all : ∀ (l : List Env), (∀ b ∈ frs l, b ∈ X.fs) → X.s₀.heap.FunFrames X.base l → s.heap.FunFrames X.base l := by
    intro l
    induction l with
    | nil => intro _ _; trivial
    | cons env r ih =>
      intro hs hl
      obtain ⟨hk, ⟨L, o, hf, hn, ho, hd⟩, hr⟩ := hl
      have hL : L ∈ X.fs := hs L (by unfold frs; rw [List.filterMap_cons, hf]; exact List.mem_cons_self)
      obtain ⟨sl, e⟩ := I.base.slot L o ho (I.ok.frf L hL) hL fun z => I.ok.exfs L z hL
      exact ⟨hk, ⟨L, _, hf, hn, e, hd⟩, ih (fun b hb => hs b (by unfold frs; rw [List.filterMap_cons, hf]; exact List.mem_cons_of_mem _ hb)) hr⟩
  exact all X.outer (fun _ hb => hb) I.ok.funs


theorem Inv.stack (I : Inv X pins σ H s) : s.heap.FunFrames X.base X.stack := by
  rcases I.ok.stk with e | ⟨e, hf⟩
  · rw [e]; exact I.funs
  · rw [e]
    obtain ⟨m, hn, _⟩ := I.loc
    refine .cons (by rw [I.ok.kind]; decide) hf hn ?_ I.funs
    exact Heap.get?_none_of_le (Nat.le_trans I.ok.bsz I.ok.above)
theorem Inv.stkSub (I : Inv X pins σ H s) : ∀ b ∈ frs X.stack, b ∈ X.env.locals :: X.fs := fun b hb => by
  rcases I.ok.stk with e | ⟨e, hf⟩
  · rw [e] at hb; exact List.mem_cons_of_mem _ hb
  · rw [e] at hb
    unfold frs at hb
    rw [List.filterMap_cons, hf] at hb
    exact hb
theorem Inv.stkFree (I : Inv X pins σ H s) : ∀ b ∈ frs X.stack, H b = none := fun b hb => by
  rcases List.mem_cons.mp (I.stkSub b hb) with e | hb
  · rw [e]; exact I.free
  · obtain ⟨_, o, ho, _⟩ := I.ok.funs.mem hb
    exact I.base.free b o ho (I.ok.frf b hb) fun z => I.ok.exfs b z hb


theorem Inv.step {g' : Array GenState} {t' : Nat} {d' : Drawn} {ch : List Addr} (I : Inv X pins σ H s)
    (hch : ∀ b ∈ ch, (b ∈ X.ex ∨ X.s₀.heap.objs.size ≤ b) ∧ b ≠ X.env.locals ∧ (∀ x c, X.env.cells.lookup x = some c → c ≠ b) ∧ ∀ p ∈ X.pn ++ pins, p.1 ≠ b)
    (keep : ∀ b o, b ≠ X.env.locals → b ∉ X.fs → b ∉ ch → s.heap.get? b = some o → H b = none → h'.get? b = some o)
    (slot : ∀ b o, b ≠ X.env.locals → b ∈ X.fs → b ∉ ch → s.heap.get? b = some o → H b = none → ∃ sl, h'.get? b = some { o with slots := sl }) (free : ∀ b o, b ∉ ch → s.heap.get? b = some o → H b = none → H' b = none)
    (there : ∀ b o, b ∉ ch → s.heap.get? b = some o → ∃ o', h'.get? b = some o')
    (tups : ∀ b xs, H b = some (.tup xs) → H' b = some (.tup xs)) (frzs : ∀ b o u, H b = some (.frz o u) → H' b = some (.frz o u)) (tbls : ∀ b ps, H b = some (.tbl ps) → ∃ more, H' b = some (.tbl (ps ++ more)))
    (ns : ∀ m, s.heap.Ns X.env.locals m → h'.Ns X.env.locals m) (hok : HOk X.prog X.w H' h') (hg : AllBare g') :
    Inv X pins σ H' { s with heap := h', gens := g', drawn := d', toks := t' } := by
  have neL : ∀ b o, X.s₀.heap.get? b = some o → b ≠ X.env.locals := fun b o e => Nat.ne_of_lt (Nat.lt_of_lt_of_le (Heap.lt_size e) I.ok.above)
  have neC : ∀ b o, X.s₀.heap.get? b = some o → b ∉ X.ex → b ∉ ch := fun b o e hx hb => by
    rcases (hch b hb).1 with z | z
    · exact hx z
    · exact absurd (Nat.lt_of_lt_of_le (Heap.lt_size e) z) (Nat.lt_irrefl _)
  have cellK : ∀ x c, X.env.cells.lookup x = some c → ∀ v, s.heap.IsCell c v → h'.IsCell c v := fun x c e v ⟨o, ho, hd⟩ => by
    have nch : c ∉ ch := fun z => (hch c z).2.2.1 x c e rfl
    by_cases hc : c ∈ X.fs
    · obtain ⟨sl, q⟩ := slot c o (I.cne x c e) hc nch ho (I.freeC x c e)
      exact ⟨_, q, hd⟩
    · exact ⟨o, keep c o (I.cne x c e) hc nch ho (I.freeC x c e), hd⟩
  refine ⟨I.ok, I.os, hg, ⟨fun b o e n hb hx => ?_, fun b o e n hb hx => ?_, fun b o e n hx => ?_, fun b o e hx => ?_, fun b xs e => tups b xs (I.base.tups b xs e), fun b o xs e => frzs b o xs (I.base.frzs b o xs e), fun b ps e => ?_⟩, ?_, fun x c e => ?_, ?_, fun x c e => ?_, fun p hp => ?_, hok, I.len⟩
  · exact keep b o (neL b o e) hb (neC b o e hx) (I.base.keep b o e n hb hx) (I.base.free b o e n hx)
  · obtain ⟨sl, e1⟩ := I.base.slot b o e n hb hx
    obtain ⟨sl', e2⟩ := slot b _ (neL b o e) hb (neC b o e hx) e1 (I.base.free b o e n hx)
    exact ⟨sl', e2⟩
  · obtain ⟨o', e1⟩ := I.base.there b o e hx
    exact free b o' (neC b o e hx) e1 (I.base.free b o e n hx)
  · obtain ⟨o', e1⟩ := I.base.there b o e hx
    exact there b o' (neC b o e hx) e1
  · obtain ⟨m1, e1⟩ := I.base.tbls b ps e
    obtain ⟨m2, e2⟩ := tbls b _ e1
    exact ⟨m1 ++ m2, by rw [e2, Array.append_assoc]⟩
  · obtain ⟨m, hn, hl⟩ := I.loc
    refine ⟨m, ns m hn, fun i x v e1 e2 e3 => ?_⟩
    obtain ⟨u, r, l⟩ := hl i x v e1 e2 e3
    refine ⟨u, r, ?_⟩
    rcases l with l | ⟨k, c, e, z⟩
    · exact .inl l
    · exact .inr ⟨k, c, e, cellK x c e _ z⟩
  · obtain ⟨v, z⟩ := I.cell x c e
    exact ⟨v, cellK x c e v z⟩
  · obtain ⟨m, ⟨o, _, _, ho, _⟩, _⟩ := I.loc
    exact free _ o (fun z => (hch _ z).2.1 rfl) ho I.free
  · obtain ⟨v, o, ho, hd⟩ := I.cell x c e
    exact free c o (fun z => (hch c z).2.2.1 x c e rfl) ho (I.freeC x c e)
  · obtain ⟨e, n, ne, nf, d⟩ := I.pin p hp
    have nch : p.1 ∉ ch := fun z => (hch p.1 z).2.2.2 p hp rfl
    exact ⟨keep p.1 p.2 ne nf nch e n, free p.1 p.2 nch e n, ne, nf, d⟩

theorem Inv.un {t' : Nat} (I : Inv X pins σ H s) (u : Un X.fs [] H H' s.heap h') (hok : HOk X.prog X.w H' h') : Inv X pins σ H' { s with heap := h', toks := t' } := by
  obtain ⟨m, ⟨o, es, ep, ho, r⟩, _⟩ := id I.loc
  obtain ⟨sl, hL⟩ := u.any ho I.free (by simp)
  exact I.step (g' := s.gens) (d' := s.drawn) (ch := []) (fun _ z => nomatch z) (fun b o _ hb _ e n => u.keep b o e n hb (by simp)) (fun b o _ hb _ e n => u.slot b o e n hb (by simp)) (fun b o _ e n => u.free b o e n (by simp)) (fun b o _ e => u.there b o e (by simp)) u.tups u.frzs u.tbls (fun m' hm => by
    obtain ⟨o', es', ep', ho', r'⟩ := hm
    rw [ho] at ho'; cases ho'
    exact ⟨_, es', ep', hL, r'⟩) hok I.bare

theorem Inv.call {g' : Array GenState} {t' : Nat} {d' : Drawn} {ch : List Addr} (I : Inv X pins σ H s) (u : Un (frs X.stack) ch H H' s.heap h') (hok : HOk X.prog X.w H' h') (hg : AllBare g')
    (hch : ∀ b ∈ ch, (b ∈ X.ex ∨ X.s₀.heap.objs.size ≤ b) ∧ b ≠ X.env.locals ∧ (∀ x c, X.env.cells.lookup x = some c → c ≠ b) ∧ ∀ p ∈ X.pn ++ pins, p.1 ≠ b) :
    Inv X pins σ H' { s with heap := h', gens := g', drawn := d', toks := t' } := by
  obtain ⟨m, ⟨o, es, ep, ho, r⟩, _⟩ := id I.loc
  obtain ⟨sl, hL⟩ := u.any ho I.free fun z => (hch _ z).2.1 rfl
  exact I.step (ch := ch) hch (fun b o hL hb hc e n => u.keep b o e n (fun z => (List.mem_cons.mp (I.stkSub b z)).elim hL hb) hc) (fun b o _ _ hc e n => u.any e n hc) (fun b o hc e n => u.free b o e n hc) (fun b o hc e => u.there b o e hc) u.tups u.frzs u.tbls (fun m' hm => by
    obtain ⟨o', es', ep', ho', r'⟩ := hm
    rw [ho] at ho'; cases ho'
    exact ⟨_, es', ep', hL, r'⟩) hok hg

theorem Inv.turned {t' : Nat} {it : Addr} (I : Inv X pins σ H s) (k : ∀ b o, b ≠ it → s.heap.get? b = some o → h'.get? b = some o) (hn : H it = none) (hL : it ≠ X.env.locals)
    (h1 : it ∈ X.ex ∨ X.s₀.heap.objs.size ≤ it) (h2 : ∀ x c, X.env.cells.lookup x = some c → c ≠ it) (h3 : ∀ p ∈ X.pn ++ pins, p.1 ≠ it) : Inv X pins σ H { s with heap := h', toks := t' } := by
  have nit : ∀ b u, H b = some u → b ≠ it := fun b u e z => by rw [z, hn] at e; cases e
  refine I.step (g' := s.gens) (d' := s.drawn) (ch := [it]) (fun b hb => ?_) (fun b o _ _ hc e _ => k b o (fun z => hc (by simp [z])) e) (fun b o _ _ hc e _ => ⟨o.slots, k b o (fun z => hc (by simp [z])) e⟩) (fun _ _ _ _ n => n)
    (fun b o hc e => ⟨o, k b o (fun z => hc (by simp [z])) e⟩) (fun _ _ e => e) (fun _ _ _ e => e) (fun b ps e => ⟨#[], by rw [e]; simp⟩) (fun m hm => ?_) (fun b u e => ?_) I.bare
  · have e : b = it := by simpa using hb
    subst e
    exact ⟨h1, hL, h2, h3⟩
  · obtain ⟨o, es, ep, ho, r⟩ := hm
    exact ⟨o, es, ep, k _ o (Ne.symm hL) ho, r⟩
  · refine (I.hok b u e).stay (fun c v hc q => k c v ?_ q) (fun _ q => q) fun _ _ q => q
    rcases hc with z | z
    · rw [z]; exact nit b u e
    · exact nit c _ z
theorem Inv.tok (I : Inv X pins σ H s) (t : Nat) : Inv X pins σ H { s with toks := t } := I.un (h' := s.heap) (t' := t) Un.refl I.hok

theorem Inv.kept {t' : Nat} (I : Inv X pins σ H s) (k : ∀ b u, s.heap.get? b = some u → h'.get? b = some u) : Inv X pins σ H { s with heap := h', toks := t' } := I.un (Un.kept k) (I.hok.kept k)

theorem Inv.laid {a : Addr} {o : HO} {t' : Nat} (I : Inv X pins σ H s) (k : ∀ b u, s.heap.get? b = some u → h'.get? b = some u) (hp : s.heap.objs.size ≤ a) (new : ObjOk X.prog X.w (upd H a o) h' a o) :
    Inv X pins σ (upd H a o) { s with heap := h', toks := t' } := I.un (Un.laid k hp (I.hok.fresh hp)) (I.hok.laid k hp new)

theorem Inv.write {x e : Addr} {o : HO} {t' : Nat} (I : Inv X pins σ H s) (mu : Mut (H x)) (he : e = x ∨ H e = some (.own x)) (k : ∀ b u, b ≠ e → s.heap.get? b = some u → h'.get? b = some u) (heo : ∃ u, h'.get? e = some u)
    (new : ObjOk X.prog X.w (upd H x o) h' x o) : Inv X pins σ (upd H x o) { s with heap := h', toks := t' } := I.un (Un.write mu he k heo) (I.hok.write mu he k heo new)

theorem Inv.pins_of {pins' : List (Addr × Obj)} (I : Inv X pins σ H s) (h : ∀ p ∈ pins', s.heap.get? p.1 = some p.2 ∧ H p.1 = none ∧ p.1 ≠ X.env.locals ∧ p.1 ∉ X.fs ∧ ∀ v, p.2.data ≠ .cell v) : Inv X pins' σ H s :=
  ⟨I.ok, I.os, I.bare, I.base, I.loc, I.cell, I.free, I.freeC, fun p hp => (List.mem_append.mp hp).elim (fun z => I.pin p (List.mem_append_left _ z)) (h p), I.hok, I.len⟩

theorem nodup_ix {N : List Str} (hN : N.Nodup) {i j : Nat} {x : Str} (a : N[i]? = some x) (b : N[j]? = some x) : i = j := by
  obtain ⟨h1, e1⟩ := List.getElem?_eq_some_iff.mp a
  obtain ⟨h2, e2⟩ := List.getElem?_eq_some_iff.mp b
  exact (List.getElem_inj hN).mp (e1.trans e2.symm)


theorem store_ok2 {M : Model} {A : Around} {E : Value → Shared → Prop} {i : Nat} {x : Str} {v : V} {u : Value} {Q : Unit → Shared → Prop} (I : Inv X pins σ H s) (hN : X.N.Nodup) (hi : X.N[i]? = some x) (hx : Loc X.env.scope x) (r : RelV v u)
    (h : ∀ s', Inv X pins (σ.set i (some v)) H s' → (∃ a, Heap.SameBut a s.heap s'.heap ∧ (a = X.env.locals ∨ X.env.cells.lookup x = some a)) → Q () s') (hf : X.fn x = true ∨ X.env.scope.names.lookup x = some .local := by first | exact .inl rfl | exact .inr rfl | assumption) : wpAny M A (storeName X.env x u) Q E s := by
  obtain ⟨m, hn, hl⟩ := id I.loc
  have hcls : (X.env.scope.kind == .class || (X.env.scope.kind == .module && X.env.locals != X.env.globals)) = false := by rw [I.ok.kind]; rfl
  have hiσ : i < σ.length := by rw [I.len]; exact (List.getElem?_eq_some_iff.mp hi).1
  have cne := I.cne
  have tracked : ∀ {a : Addr} {h' : Heap}, (∃ o, s.heap.get? a = some o ∧ H a = none) → Heap.SameBut a s.heap h' → HOk X.prog X.w H h' := fun {a h'} ha hs b ob e => by
    obtain ⟨_, _, hfree⟩ := ha
    refine (I.hok b ob e).stay (fun c w' hc q => (hs.2 c ?_).trans q) (fun _ q => q) fun _ _ q => q
    rintro rfl
    rcases hc with rfl | hc
    · rw [hfree] at e; cases e
    · rw [hfree] at hc; cases hc
  rcases hx with hk | hk
  · refine wpAny_storeName_local hk hn (fun h' hn' hs => ?_) hcls
    obtain ⟨oL, _, _, hoL, _⟩ := id hn
    refine h _ ⟨I.ok, I.os, I.bare, ⟨fun b o e n hb hx => ?_, fun b o e n hb hx => ?_, I.base.free, fun b o e hx => ?_, I.base.tups, I.base.frzs, I.base.tbls⟩, ⟨_, hn', fun j y v' e1 e2 e3 => ?_⟩, fun y c e => ?_, I.free, I.freeC, fun p hp => ?_, tracked ⟨oL, hoL, I.free⟩ hs, by simpa using I.len⟩ ⟨_, hs, .inl rfl⟩
    · exact (hs.2 b (Nat.ne_of_lt (Nat.lt_of_lt_of_le (Heap.lt_size e) I.ok.above))).trans (I.base.keep b o e n hb hx)
    · obtain ⟨sl, e1⟩ := I.base.slot b o e n hb hx
      exact ⟨sl, (hs.2 b (Nat.ne_of_lt (Nat.lt_of_lt_of_le (Heap.lt_size e) I.ok.above))).trans e1⟩
    · obtain ⟨o', e1⟩ := I.base.there b o e hx
      exact ⟨o', (hs.2 b (Nat.ne_of_lt (Nat.lt_of_lt_of_le (Heap.lt_size e) I.ok.above))).trans e1⟩
    · by_cases hj : j = i
      · subst hj
        rw [hi] at e1; cases e1
        rw [List.getElem?_set_self hiσ] at e2
        cases e2
        exact ⟨u, r, .inl ⟨hk, by simp⟩⟩
      · rw [List.getElem?_set_ne (Ne.symm hj)] at e2
        obtain ⟨u', r', q⟩ := hl j y v' e1 e2 e3
        refine ⟨u', r', ?_⟩
        rcases q with ⟨k, e⟩ | ⟨k, c, e, z⟩
        · refine .inl ⟨k, ?_⟩
          have : y ≠ x := fun e => hj (nodup_ix hN e1 (e ▸ hi))
          simp [this, e]
        · exact .inr ⟨k, c, e, z.sameBut hs (cne y c e)⟩
    · obtain ⟨w', z⟩ := I.cell y c e
      exact ⟨w', z.sameBut hs (cne y c e)⟩
    · obtain ⟨e, n, ne, nf, d⟩ := I.pin p hp
      exact ⟨(hs.2 p.1 ne).trans e, n, ne, nf, d⟩
  · have hfn : X.fn x = true := by
      rcases hf with z | z
      · exact z
      · rw [z] at hk; cases hk
    obtain ⟨c, hc⟩ := I.ok.has x (.inl hk)
    obtain ⟨w', z⟩ := I.cell x c hc
    refine wpAny_storeName_cell I.ok.kind hk hc z (fun h' hc' hs => ?_)
    obtain ⟨oc, hoc, hocd⟩ := id z
    refine h { s with heap := h' } ⟨I.ok, I.os, I.bare, ⟨fun b o e n hb hx => ?_, fun b o e n hb hx => ?_, I.base.free, fun b o e hx => ?_, I.base.tups, I.base.frzs, I.base.tbls⟩, ⟨m, hn.sameBut hs (Ne.symm (cne x c hc)), fun j y v' e1 e2 e3 => ?_⟩, fun y c' e => ?_, I.free, I.freeC, fun p hp => ?_, tracked ⟨oc, hoc, I.freeC x c hc⟩ hs, by simpa using I.len⟩ ⟨c, hs, .inr hc⟩
    · exact (hs.2 b (Nat.ne_of_lt (Nat.lt_of_lt_of_le (Heap.lt_size e) (I.ok.cab x c hfn hc)))).trans (I.base.keep b o e n hb hx)
    · obtain ⟨sl, e1⟩ := I.base.slot b o e n hb hx
      exact ⟨sl, (hs.2 b (Nat.ne_of_lt (Nat.lt_of_lt_of_le (Heap.lt_size e) (I.ok.cab x c hfn hc)))).trans e1⟩
    · obtain ⟨o', e1⟩ := I.base.there b o e hx
      exact ⟨o', (hs.2 b (Nat.ne_of_lt (Nat.lt_of_lt_of_le (Heap.lt_size e) (I.ok.cab x c hfn hc)))).trans e1⟩
    · by_cases hj : j = i
      · subst hj
        rw [hi] at e1; cases e1
        rw [List.getElem?_set_self hiσ] at e2
        cases e2
        exact ⟨u, r, .inr ⟨.inl hk, c, hc, hc'⟩⟩
      · rw [List.getElem?_set_ne (Ne.symm hj)] at e2
        obtain ⟨u', r', q⟩ := hl j y v' e1 e2 e3
        refine ⟨u', r', ?_⟩
        rcases q with q | ⟨k, c', e, z'⟩
        · exact .inl q
        · refine .inr ⟨k, c', e, z'.sameBut hs ?_⟩
          rintro rfl
          exact hj (nodup_ix hN e1 (I.ok.inj _ _ _ e hc ▸ hi))
    · by_cases hcc : c' = c
      · subst hcc; exact ⟨_, hc'⟩
      · obtain ⟨w2, z2⟩ := I.cell y c' e
        exact ⟨w2, z2.sameBut hs hcc⟩
    · obtain ⟨e, n, ne, nf, d⟩ := I.pin p hp
      refine ⟨(hs.2 p.1 ?_).trans e, n, ne, nf, d⟩
      intro q
      rw [q, hoc] at e
      have q' : oc = p.2 := Option.some.inj e
      exact d w' (by rw [← q']; exact hocd)
theorem store_ok {M : Model} {A : Around} {E : Value → Shared → Prop} {i : Nat} {x : Str} {v : V} {u : Value} {Q : Unit → Shared → Prop} (I : Inv X pins σ H s) (hN : X.N.Nodup) (hi : X.N[i]? = some x) (hx : Loc X.env.scope x) (r : RelV v u)
    (h : ∀ s', Inv X pins (σ.set i (some v)) H s' → Q () s') (hf : X.fn x = true ∨ X.env.scope.names.lookup x = some .local := by first | exact .inl rfl | exact .inr rfl | assumption) : wpAny M A (storeName X.env x u) Q E s :=
  store_ok2 I hN hi hx r (fun s' I' _ => h s' I') hf

theorem Inv.call' {s' : Shared} {ch : List Addr} (I : Inv X pins σ H s) (ho : s'.os = s.os) (u : Un (frs X.stack) ch H H' s.heap s'.heap) (hok : HOk X.prog X.w H' s'.heap) (hg : AllBare s'.gens)
    (hch : ∀ b ∈ ch, (b ∈ X.ex ∨ X.s₀.heap.objs.size ≤ b) ∧ b ≠ X.env.locals ∧ (∀ x c, X.env.cells.lookup x = some c → c ≠ b) ∧ ∀ p ∈ X.pn ++ pins, p.1 ≠ b) : Inv X pins σ H' s' := by
  obtain ⟨h', g', d', t', o'⟩ := s'
  have e : o' = s.os := ho
  subst e
  exact I.call (g' := g') (t' := t') (d' := d') u hok hg hch
end



noncomputable abbrev XK := Value → Option Addr → Hp → Prop
noncomputable abbrev St := List (Option V)
noncomputable abbrev VK := V → Hp → Prop

noncomputable abbrev TE := St → Hp → VK → Prop
noncomputable abbrev TT := St → Hp → (Bool → Hp → Prop) → Prop
noncomputable abbrev TA := St → Hp → (List V → Hp → Prop) → Prop

structure Ends where
  nx : St → Hp → Prop
  rt : VK
  bk : St → Hp → Prop := fun _ _ => False
  ct : St → Hp → Prop := fun _ _ => False
noncomputable abbrev TS := Ends → St → Hp → Prop

noncomputable def EP (X : Cx) (pins : List (Addr × Obj)) (σ : St) (Q : VK) (u : Value) (s' : Shared) : Prop := ∃ v H', Inv X pins σ H' s' ∧ RelV v u ∧ Q v H'
noncomputable def TP (X : Cx) (pins : List (Addr × Obj)) (σ : St) (Q : Bool → Hp → Prop) (b : Bool) (s' : Shared) : Prop := ∃ H', Inv X pins σ H' s' ∧ Q b H'
noncomputable def AP (X : Cx) (pins : List (Addr × Obj)) (σ : St) (Q : List V → Hp → Prop) (us : List Value) (s' : Shared) : Prop := ∃ vs H', Inv X pins σ H' s' ∧ Vals vs us ∧ Q vs H'
noncomputable def SP (X : Cx) (pins : List (Addr × Obj)) (D : Ends) (f : Flow) (s' : Shared) : Prop :=
  match f with
  | .next => ∃ σ' H', Inv X pins σ' H' s' ∧ D.nx σ' H'
  | .brk => ∃ σ' H', Inv X pins σ' H' s' ∧ D.bk σ' H'
  | .cont => ∃ σ' H', Inv X pins σ' H' s' ∧ D.ct σ' H'
  | .ret u => ∃ v σ' H', Inv X pins σ' H' s' ∧ RelV v u ∧ D.rt v H'

noncomputable def PE (X : Cx) (e : Expr) (t : TE) : Prop :=
  ∀ (pins : List (Addr × Obj)) (s : Shared) (σ : St) (H : Hp) (Q : VK), Inv X pins σ H s → t σ H Q → wpAny (model X.prog X.w) X.A (eval e X.env) (EP X pins σ Q) X.xe s
noncomputable def PT (X : Cx) (e : Expr) (t : TT) : Prop :=
  ∀ (pins : List (Addr × Obj)) (s : Shared) (σ : St) (H : Hp) (Q : Bool → Hp → Prop), Inv X pins σ H s → t σ H Q → wpAny (model X.prog X.w) X.A (isTrue e X.env (eval e X.env)) (TP X pins σ Q) X.xe s

noncomputable def PW (X : Cx) (e : Expr) (t : TT) : Prop :=
  ∀ (whole : Sem Value) (pins : List (Addr × Obj)) (s : Shared) (σ : St) (H : Hp) (Q : Bool → Hp → Prop), Inv X pins σ H s → t σ H Q → wpAny (model X.prog X.w) X.A (isTrue e X.env whole) (TP X pins σ Q) X.xe s
theorem PW.pt {X : Cx} {e : Expr} {t : TT} (h : PW X e t) : PT X e t := h _

noncomputable def PA (X : Cx) (es : List Expr) (t : TA) : Prop :=
  ∀ (pos : Pos) (pins : List (Addr × Obj)) (s : Shared) (σ : St) (H : Hp) (Q : List V → Hp → Prop), Inv X pins σ H s → t σ H Q → wpAny (model X.prog X.w) X.A (spliced (backTo pos (starEach es X.env))) (AP X pins σ Q) X.xe s
noncomputable def PS (X : Cx) (st : Stmt) (t : TS) : Prop :=
  ∀ (pins : List (Addr × Obj)) (s : Shared) (σ : St) (H : Hp) (D : Ends), Inv X pins σ H s → t D σ H → wpAny (model X.prog X.w) X.A (exec st X.env) (SP X pins D) X.xe s
noncomputable def PSs (X : Cx) (st : List Stmt) (t : TS) : Prop :=
  ∀ (pins : List (Addr × Obj)) (s : Shared) (σ : St) (H : Hp) (D : Ends), Inv X pins σ H s → t D σ H → wpAny (model X.prog X.w) X.A (execs st X.env) (SP X pins D) X.xe s

theorem thn {α : Type} {t : Sem α} {Q Q' : α → Shared → Prop} {M : Model} {A : Around} {E : Value → Shared → Prop} {s : Shared} (h : wpAny M A t Q E s) (hQ : ∀ a s, Q a s → Q' a s) : wpAny M A t Q' E s := wpAny_mono h hQ fun _ _ x => x
end L2

namespace L2
open PySem PySem.Spec PyProof.Rows
section
variable {X : Cx}


noncomputable def tVar (i : Nat) : TE := fun σ H Q => ∃ v, σ[i]? = some (some v) ∧ Q v H
noncomputable def tC (v : V) : TE := fun _ H Q => Q v H
theorem pe_var {i : Nat} {x : Str} {pos : Pos} (hN : X.N[i]? = some x) (hv : Vis X.env.scope x) (hd : (x == ("__debug__" : Str)) = false := by decide) (hcd : (x == ("__classdict__" : Str)) = false := by decide) : PE X (.Name x pos) (tVar i) := by
  intro pins s σ H Q I h
  obtain ⟨v, e, h⟩ := h
  obtain ⟨m, hn, hl⟩ := I.loc
  obtain ⟨u, r, l⟩ := hl i x v hN e hv
  have fin : EP X pins σ Q u s := ⟨v, H, I, r, h⟩
  rcases l with ⟨hk, hm⟩ | ⟨hk, c, hc, hcell⟩
  · exact wpAny_Name (wpAny_loadName_local I.ok.kind hk hn hm fin) hd
  · rcases hk with hk | hk
    · exact wpAny_Name (wpAny_loadName_cell I.ok.kind hk hc hcell fin) hd
    · exact wpAny_Name (wpAny_loadName_free I.ok.kind hk hc hcell fin hcd) hd
theorem pe_int {i j pos} : PE X (.Constant (.int i) j pos) (tC (.int i)) := fun _ _ _ H _ I h => wpAny_Constant_int ⟨.int i, H, I.tok _, ⟨_, rfl⟩, h⟩
theorem pe_bl {b j pos} : PE X (.Constant (.bool b) j pos) (tC (.bl b)) := fun _ _ _ H _ I h => Constant_bool ⟨.bl b, H, I, rfl, h⟩
theorem pe_non {j pos} : PE X (.Constant .none j pos) (tC .non) := fun _ _ _ H _ I h => Constant_none ⟨.non, H, I, rfl, h⟩
theorem pe_str {x j pos} : PE X (.Constant (.str x) j pos) (tC (.str x)) := fun _ _ _ H _ I h => Calls.Constant_str ⟨.str x, H, I.tok _, ⟨_, rfl⟩, h⟩


noncomputable def Gl (X : Cx) (x : Str) : Prop := X.env.kindOf x = some .globalImplicit
theorem ld_glob {E : Value → Shared → Prop} {pins : List (Addr × Obj)} {s : Shared} {σ : St} {H : Hp} {x : Str} {u : Value} {pos : Pos} {Q : Value → Shared → Prop} (I : Inv X pins σ H s) (hg : Gl X x) (hm : X.mg x = some u) (h : Q u s)
    (hd : (x == ("__debug__" : Str)) = false := by decide) : wpAny (model X.prog X.w) X.A (eval (.Name x pos) X.env) Q E s :=
  Calls.Name_function_global I.ok.kind hg (Calls.loadGlobal_global (by rw [I.ok.glob]; exact I.mod.glob.keeps I.bk) hm h) hd
theorem ld_blt {E : Value → Shared → Prop} {pins : List (Addr × Obj)} {s : Shared} {σ : St} {H : Hp} {x : Str} {u : Value} {pos : Pos} {Q : Value → Shared → Prop} (I : Inv X pins σ H s) (hg : Gl X x) (hm : X.mg x = none) (hv : bootBuiltins x = some u) (h : Q u s)
    (hn : x ≠ "__name__" := by decide) (hd : (x == ("__debug__" : Str)) = false := by decide) : wpAny (model X.prog X.w) X.A (eval (.Name x pos) X.env) Q E s := by
  obtain ⟨mb, h1, h2⟩ := I.mod.blt
  exact Calls.Name_function_global I.ok.kind hg (Calls.loadGlobal_builtin (by rw [I.ok.glob]; exact I.mod.glob.keeps I.bk) hm (by rw [I.ok.blt]; exact h1.keeps I.bk) ((h2 x hn).trans hv) h) hd

theorem pe_glob {x : Str} {v : V} {u : Value} {pos : Pos} (hg : Gl X x) (hm : X.mg x = some u) (r : RelV v u) (hd : (x == ("__debug__" : Str)) = false := by decide) : PE X (.Name x pos) (tC v) :=
  fun _ _ _ H _ I h => ld_glob I hg hm ⟨v, H, I, r, h⟩ hd
theorem pe_bltn {x : Str} {v : V} {u : Value} {pos : Pos} (hg : Gl X x) (hm : X.mg x = none) (hv : bootBuiltins x = some u) (r : RelV v u) (hn : x ≠ "__name__" := by decide) (hd : (x == ("__debug__" : Str)) = false := by decide) : PE X (.Name x pos) (tC v) :=
  fun _ _ _ H _ I h => ld_blt I hg hm hv ⟨v, H, I, r, h⟩ hn hd



variable {a b : Expr} {ta tb : TE} {pos : Pos}
noncomputable def PC (X : Cx) (op : CmpOp) (a b : Expr) (t : TE) : Prop :=
  ∀ (pins : List (Addr × Obj)) (s : Shared) (σ : St) (H : Hp) (Q : VK), Inv X pins σ H s → t σ H Q →
    wpAny (model X.prog X.w) X.A (eval a X.env) (fun v s₁ => wpAny (model X.prog X.w) X.A (eval b X.env) (fun u s₂ => wpAny (model X.prog X.w) X.A (compareOp op v u) (EP X pins σ Q) X.xe s₂) X.xe s₁) X.xe s
theorem nobehind (b : Expr) {op : CmpOp} (h : op ≠ .In) (h2 : op ≠ .NotIn) : behindInMarks op b = false := by
  have e1 : (op == CmpOp.In) = false := by cases op <;> first | rfl | exact absurd rfl h
  have e2 : (op == CmpOp.NotIn) = false := by cases op <;> first | rfl | exact absurd rfl h2
  cases b <;> simp [behindInMarks, e1, e2]
noncomputable def tB (t : TE) : TT := fun σ H Q => t σ H fun x H1 => ∃ c, x = .bl c ∧ Q c H1
theorem pt_cmp {op : CmpOp} {t : TE} (h : PC X op a b t) (h1 : behindInMarks op b = false := by first | exact nobehind _ (by decide) (by decide) | rfl) : PT X (.Compare a [op] [b] pos) (tB t) := by
  intro pins s σ H Q I hw
  refine wpAny_isTrue_Compare1 (thn (h pins s σ H _ I hw) fun v s1 h1 => thn h1 fun u s2 h2 => thn h2 fun c s3 hh9 => ?_) h1
  obtain ⟨x, H1, I1, r1, q1⟩ := hh9
  obtain ⟨d, rfl, q⟩ := q1
  cases r1
  exact wpAny_truthy_bool ⟨H1, I1, q⟩

theorem pt_val {e : Expr} {t : TE} (h : PE X e t) (he : ∀ whole, isTrue e X.env whole = (do let v ← whole; standAt e.pos; holding [v] (truthy v)) := by intro _; rfl) : PT X e (tB t) := by
  intro pins s σ H Q I hw
  refine isTrue_plain (thn (h pins s σ H _ I hw) fun v s1 hh9 => ?_) (he _)
  obtain ⟨x, H1, I1, r1, q1⟩ := hh9
  obtain ⟨d, rfl, q⟩ := q1
  cases r1
  exact wpAny_truthy_bool ⟨H1, I1, q⟩


variable {tA tB' : TT} {rest : List Expr}
noncomputable def tAnd (t u : TT) : TT := fun σ H Q => t σ H fun c H1 => if c = true then u σ H1 Q else Q false H1
noncomputable def tOr (t u : TT) : TT := fun σ H Q => t σ H fun c H1 => if c = true then Q true H1 else u σ H1 Q
noncomputable def tNot (t : TT) : TT := fun σ H Q => t σ H fun c H1 => Q (!c) H1
theorem pw_and1 (ha : PT X a tA) : PW X (.BoolOp .And [a] pos) tA := by
  intro wh pins s σ H Q I h
  refine isTrue_and (thn (ha pins s σ H Q I h) fun c s1 e => ?_)
  cases c with
  | true => exact isTrue_and_nil e
  | false => exact e
theorem pw_or1 (ha : PT X a tA) : PW X (.BoolOp .Or [a] pos) tA := by
  intro wh pins s σ H Q I h
  refine isTrue_or (thn (ha pins s σ H Q I h) fun c s1 e => ?_)
  cases c with
  | false => exact isTrue_or_nil e
  | true => exact e
theorem pw_and (ha : PT X a tA) (hb : PW X (.BoolOp .And (b :: rest) pos) tB') : PW X (.BoolOp .And (a :: b :: rest) pos) (tAnd tA tB') := by
  intro wh pins s σ H Q I h
  refine isTrue_and (thn (ha pins s σ H _ I h) fun c s1 hh9 => ?_)
  obtain ⟨H1, I1, q1⟩ := hh9
  cases c with
  | true => exact hb wh pins s1 σ H1 Q I1 q1
  | false => exact ⟨H1, I1, q1⟩
theorem pw_or (ha : PT X a tA) (hb : PW X (.BoolOp .Or (b :: rest) pos) tB') : PW X (.BoolOp .Or (a :: b :: rest) pos) (tOr tA tB') := by
  intro wh pins s σ H Q I h
  refine isTrue_or (thn (ha pins s σ H _ I h) fun c s1 hh9 => ?_)
  obtain ⟨H1, I1, q1⟩ := hh9
  cases c with
  | true => exact ⟨H1, I1, q1⟩
  | false => exact hb wh pins s1 σ H1 Q I1 q1
theorem pt_not (ha : PT X a tA) : PT X (.UnaryOp .Not a pos) (tNot tA) := by
  intro pins s σ H Q I h
  exact isTrue_not (ha pins s σ H (fun c H1 => Q (!c) H1) I h)

noncomputable def tAndV (ta tb : TE) : TE := fun σ H Q => ta σ H fun x H1 => ∃ c, x = .bl c ∧ if c = true then tb σ H1 Q else Q (.bl false) H1
noncomputable def tOrV (ta tb : TE) : TE := fun σ H Q => ta σ H fun x H1 => ∃ c, x = .bl c ∧ if c = true then Q (.bl true) H1 else tb σ H1 Q
noncomputable def tNotV (ta : TE) : TE := fun σ H Q => ta σ H fun x H1 => ∃ c, x = .bl c ∧ Q (.bl (!c)) H1
theorem pe_one {op} {t : TE} (h : PE X a t) : PE X (.BoolOp op [a] pos) t := fun pins s σ H Q I hw => BoolOp_one (h pins s σ H Q I hw)
theorem pe_and (ha : PE X a ta) (hb : PE X (.BoolOp .And (b :: rest) pos) tb) : PE X (.BoolOp .And (a :: b :: rest) pos) (tAndV ta tb) := by
  intro pins s σ H Q I h
  refine BoolOp_and (thn (ha pins s σ H _ I h) fun v s1 hh9 => ?_)
  obtain ⟨x, H1, I1, r1, q1⟩ := hh9
  obtain ⟨c, rfl, q1⟩ := q1
  cases r1
  refine wpAny_truthy_bool ?_
  cases c with
  | true => exact hb pins s1 σ H1 Q I1 q1
  | false => exact ⟨.bl false, H1, I1, rfl, q1⟩
noncomputable def tIf (t : TT) (ta tb : TE) : TE := fun σ H Q => t σ H fun c H1 => if c = true then ta σ H1 Q else tb σ H1 Q
end
end L2

namespace L2
open PySem PySem.Spec PyProof.Rows


noncomputable def SqL (K : PySem.W.Frag) (H : Hp) (a : Addr) (xs : List V) : Prop :=
  Rd H a (.lst xs) ∨
    ∃ (o : Obj) (its : Array Value) (n : Nat), K.lookup a = some o ∧ o.cls = .type "list" ∧ o.dict = none ∧ o.data = .seq its n ∧ its.size ≤ sizeLine ∧ Vals xs its.toList
noncomputable def SqT (K : PySem.W.Frag) (H : Hp) (a : Addr) (xs : List V) : Prop :=
  Rd H a (.tup xs) ∨
    ∃ (o : Obj) (its : Array Value) (n : Nat), K.lookup a = some o ∧ o.cls = .type "tuple" ∧ o.data = .seq its n ∧ its.size ≤ sizeLine ∧ Vals xs its.toList
noncomputable def absV : Value → Option V
  | .none => some .non
  | .bool b => some (.bl b)
  | .int i _ => some (.int i)
  | .str x _ => some (.str x)
  | .bytes b _ => some (.byt b)
  | .float b _ => some (.flt b)
  | .ref a => some (.ref a)
  | .type n => some (.ty n)
  | _ => none
theorem RelV.abs {x : V} {u : Value} (r : RelV x u) : absV u = some x := by
  cases x with
  | non => cases r; rfl
  | bl _ => cases r; rfl
  | int _ => obtain ⟨t, rfl⟩ := r; rfl
  | str _ => obtain ⟨t, rfl⟩ := r; rfl
  | byt _ => obtain ⟨t, rfl⟩ := r; rfl
  | flt _ => obtain ⟨t, rfl⟩ := r; rfl
  | ref _ => cases r; rfl
  | ty _ => cases r; rfl
theorem RelV.inj {x y : V} {u : Value} (r : RelV x u) (q : RelV y u) : x = y := Option.some.inj (r.abs.symm.trans q.abs)
theorem Vals.inj {xs ys : List V} {us : List Value} (h : Vals xs us) (h' : Vals ys us) : xs = ys := by
  induction h generalizing ys with
  | nil => cases h'; rfl
  | cons r t ih =>
    cases h' with
    | cons r' t' => rw [r.inj r', ih t']
section
variable {X : Cx} {pins : List (Addr × Obj)} {σ : St} {H : Hp} {s : Shared} {a : Addr} {xs ys : List V}
theorem SqL.of {K : PySem.W.Frag} (h : H a = some (.lst xs)) : SqL K H a xs := .inl (.inl h)
theorem SqT.of {K : PySem.W.Frag} (h : H a = some (.tup xs)) : SqT K H a xs := .inl (.inl h)
theorem Inv.list (I : Inv X pins σ H s) (h : SqL X.K H a xs) : ∃ its : List Value, Vals xs its ∧ PlainL s.heap a its.toArray ∧ xs.length ≤ sizeLine := by
  rcases h with h | ⟨o, its, n, hk, hc, hd, hs, hz, r⟩
  · obtain ⟨z, its, n, r, e⟩ := h.ok I.hok
    exact ⟨its, r, ⟨_, n, e, rfl, rfl, rfl⟩, z⟩
  · refine ⟨its.toList, r, ⟨o, n, I.kIn a o hk, hc, hd, by simpa using hs⟩, ?_⟩
    have e := r.length
    simp only [Array.length_toList] at e
    omega
theorem Inv.tuple (I : Inv X pins σ H s) (h : SqT X.K H a xs) : ∃ its : List Value, Vals xs its ∧ IsTup s.heap a its.toArray ∧ xs.length ≤ sizeLine := by
  rcases h with h | ⟨o, its, n, hk, hc, hs, hz, r⟩
  · obtain ⟨z, its, r, p⟩ := h.ok I.hok
    exact ⟨its, r, p, z⟩
  · refine ⟨its.toList, r, ⟨o, I.kIn a o hk, hc, n, by simpa using hs⟩, ?_⟩
    have e := r.length
    simp only [Array.length_toList] at e
    omega
theorem Inv.list_inj (I : Inv X pins σ H s) (h : SqL X.K H a xs) (h' : SqL X.K H a ys) : xs = ys := by
  obtain ⟨its, r, ⟨o, n, e, _, _, d⟩, _⟩ := I.list h
  obtain ⟨its', r', ⟨o', n', e', _, _, d'⟩, _⟩ := I.list h'
  rw [e] at e'; cases e'
  rw [d] at d'
  injection d' with d1 _
  have : its = its' := by simpa using congrArg Array.toList d1
  subst this
  exact r.inj r'
end


noncomputable abbrev Cx.wish (X : Cx) (E : Value → Shared → Prop) : Cx := { X with xe := E }

noncomputable abbrev Cx.nox (X : Cx) : Cx := X.wish fun _ _ => False
theorem Cx.Ok.wish {X : Cx} (ok : X.Ok) (E : Value → Shared → Prop) : (X.wish E).Ok :=
  ⟨ok.mod, ok.kind, ok.glob, ok.blt, ok.above, ok.inj, ok.has, ok.cab, ok.hd, ok.frames, ok.stk, ok.exf, ok.bs, ok.bsz, ok.noex, ok.exfs, ok.funs, ok.frf⟩
theorem Cx.Ok.unwish {X : Cx} {E : Value → Shared → Prop} (ok : (X.wish E).Ok) : X.Ok :=
  ⟨ok.mod, ok.kind, ok.glob, ok.blt, ok.above, ok.inj, ok.has, ok.cab, ok.hd, ok.frames, ok.stk, ok.exf, ok.bs, ok.bsz, ok.noex, ok.exfs, ok.funs, ok.frf⟩
section
variable {X : Cx} {pins : List (Addr × Obj)} {σ : St} {H : Hp} {s : Shared} {E : Value → Shared → Prop}
theorem Inv.wish (I : Inv X pins σ H s) (E : Value → Shared → Prop) : Inv (X.wish E) pins σ H s := ⟨I.ok.wish E, I.os, I.bare, I.base, I.loc, I.cell, I.free, I.freeC, I.pin, I.hok, I.len⟩
theorem Inv.unwish (I : Inv (X.wish E) pins σ H s) : Inv X pins σ H s := ⟨I.ok.unwish, I.os, I.bare, I.base, I.loc, I.cell, I.free, I.freeC, I.pin, I.hok, I.len⟩
theorem SP.unwish {D : Ends} {f : Flow} {s' : Shared} (h : SP (X.wish E) pins D f s') : SP X pins D f s' := by
  cases f with
  | next => obtain ⟨σ', H', I, q⟩ := h; exact ⟨σ', H', I.unwish, q⟩
  | brk => obtain ⟨σ', H', I, q⟩ := h; exact ⟨σ', H', I.unwish, q⟩
  | cont => obtain ⟨σ', H', I, q⟩ := h; exact ⟨σ', H', I.unwish, q⟩
  | ret u => obtain ⟨v, σ', H', I, r, q⟩ := h; exact ⟨v, σ', H', I.unwish, r, q⟩
theorem PE.nox {e : Expr} {t : TE} (h : PE X.nox e t) : PE X e t := fun pins s σ H Q I hw =>
  wpAny_mono (h pins s σ H Q (I.wish _) hw) (fun _ _ hh9 => by obtain ⟨v, H', I', r, q⟩ := hh9; exact ⟨v, H', I'.unwish, r, q⟩) fun _ _ z => False.elim z
theorem PT.nox {e : Expr} {t : TT} (h : PT X.nox e t) : PT X e t := fun pins s σ H Q I hw =>
  wpAny_mono (h pins s σ H Q (I.wish _) hw) (fun _ _ hh9 => by obtain ⟨H', I', q⟩ := hh9; exact ⟨H', I'.unwish, q⟩) fun _ _ z => False.elim z
theorem PSs.nox {st : List Stmt} {t : TS} (h : PSs X.nox st t) : PSs X st t := fun pins s σ H D I hw =>
  wpAny_mono (h pins s σ H D (I.wish _) hw) (fun _ _ q => q.unwish) fun _ _ z => False.elim z
end


section
variable {X : Cx} {st : Stmt} {rest : List Stmt} {t u : TS} {e : Expr} {te : TE} {pos : Pos}
noncomputable def tNext : TS := fun D σ H => D.nx σ H
noncomputable def tSeq (t u : TS) : TS := fun D σ H => t { D with nx := u D } σ H
theorem pss_nil : PSs X [] tNext := fun _ _ σ H _ I h => wpAny_execs_nil ⟨σ, H, I, h⟩
theorem pss_cons (h1 : PS X st t) (h2 : PSs X rest u) : PSs X (st :: rest) (tSeq t u) := by
  intro pins s σ H D I h
  refine wpAny_execs_cons (thn (h1 pins s σ H { D with nx := u D } I h) fun f s1 q => ?_)
  cases f with
  | next =>
    obtain ⟨σ', H', I', q⟩ := q
    exact h2 pins s1 σ' H' D I' q
  | ret v => exact q
  | brk => exact q
  | cont => exact q
theorem pss_one (h1 : PS X st t) : PSs X [st] t := by
  intro pins s σ H D I h
  refine wpAny_execs_cons (thn (h1 pins s σ H D I h) fun f s1 q => ?_)
  cases f with
  | next => exact wpAny_execs_nil q
  | ret v => exact q
  | brk => exact q
  | cont => exact q
noncomputable def tBreak : TS := fun D σ H => D.bk σ H
noncomputable def tCont : TS := fun D σ H => D.ct σ H
theorem Inv.quiet {pins : List (Addr × Obj)} {σ : St} {H : Hp} {s : Shared} (I : Inv X pins σ H s) : interactive X.env = false := by simp [interactive, I.ok.kind]

noncomputable def tDrop (te : TE) : TS := fun D σ H => te σ H fun _ H1 => D.nx σ H1
theorem ps_expr (he : PE X e te) (hs : swapsWith e none pos.line X.env = pure false := by rfl) : PS X (.Expr e pos) (tDrop te) := by
  intro pins s σ H D I h
  exact wpAny_Expr_any (thn (he pins s σ H _ I h) fun v s1 hh9 => by obtain ⟨x, H1, I1, r1, q1⟩ := hh9; exact ⟨σ, H1, I1, q1⟩) I.quiet hs
noncomputable def tRet (te : TE) : TS := fun D σ H => te σ H D.rt
theorem ps_ret (he : PE X e te) : PS X (.Return (some e) pos) (tRet te) := by
  intro pins s σ H D I h
  exact wpAny_Return_some (thn (he pins s σ H _ I h) fun v s1 hh9 => by obtain ⟨x, H1, I1, r1, q1⟩ := hh9; exact ⟨x, σ, H1, I1, r1, q1⟩)
noncomputable def tRetN : TS := fun D _ H => D.rt .non H
noncomputable def tIfS (c : TT) (t u : TS) : TS := fun D σ H => c σ H fun b H1 => if b = true then t D σ H1 else u D σ H1
theorem ps_if {c : Expr} {a b : List Stmt} {tc : TT} (hc : PT X c tc) (ha : PSs X a t) (hb : PSs X b u) : PS X (.If c a b pos) (tIfS tc t u) := by
  intro pins s σ H D I h
  refine wpAny_If (thn (hc pins s σ H _ I h) fun d s1 hh9 => ?_)
  obtain ⟨H1, I1, q1⟩ := hh9
  cases d with
  | true => exact ha pins s1 σ H1 D I1 q1
  | false => exact hb pins s1 σ H1 D I1 q1

noncomputable def tNever : TS := fun _ _ _ => False
theorem ps_never : PS X st tNever := fun _ _ _ _ _ _ h => h.elim
end


noncomputable abbrev TG := V → St → Hp → (St → Hp → Prop) → Prop
noncomputable abbrev TGs := List V → St → Hp → (St → Hp → Prop) → Prop
noncomputable def PG (X : Cx) (target : Expr) (t : TG) : Prop :=
  ∀ (pins : List (Addr × Obj)) (s : Shared) (σ : St) (H : Hp) (v : V) (u : Value) (Q : St → Hp → Prop), Inv X pins σ H s → RelV v u → t v σ H Q →
    wpAny (model X.prog X.w) X.A (assign target X.env u) (fun _ s' => ∃ σ' H', Inv X pins σ' H' s' ∧ Q σ' H') X.xe s

noncomputable abbrev TSet := V → V → V → Hp → (Hp → Prop) → Prop
section
variable {X : Cx} {pos : Pos}
noncomputable def gName (i : Nat) : TG := fun v σ H Q => Q (σ.set i (some v)) H
theorem pg_name {i : Nat} {x : Str} (hN : X.N.Nodup) (hi : X.N[i]? = some x) (hx : Loc X.env.scope x) (hf : X.fn x = true ∨ X.env.scope.names.lookup x = some .local := by first | exact .inl rfl | exact .inr rfl | assumption) : PG X (.Name x pos) (gName i) := by
  intro pins s σ H v u Q I r h
  exact wpAny_assign_Name (store_ok I hN hi hx r (fun s' I' => ⟨_, H, I', h⟩) hf)
noncomputable def gNil : TGs := fun vs σ H Q => vs = [] ∧ Q σ H
noncomputable def gCons (t : TG) (u : TGs) : TGs := fun vs σ H Q => ∃ v r, vs = v :: r ∧ t v σ H fun σ' H' => u r σ' H' Q
noncomputable def gTup (K : PySem.W.Frag) (n : Nat) (t : TGs) : TG := fun v σ H Q => ∃ a xs, v = .ref a ∧ SqT K H a xs ∧ xs.length = n ∧ t xs σ H Q
noncomputable def gSub (to ti : TE) (t : TSet) : TG := fun v σ H Q => to σ H fun o H1 => ti σ H1 fun i H2 => t o i v H2 fun H3 => Q σ H3
noncomputable def tAsg (te : TE) (g : TG) : TS := fun D σ H => te σ H fun x H1 => g x σ H1 D.nx
theorem ps_set {i : Nat} {x : Str} {e : Expr} {te : TE} {pos' : Pos} (hN : X.N.Nodup) (hi : X.N[i]? = some x) (hx : Loc X.env.scope x) (he : PE X e te) (hs : swapsWith e (some (.Name x pos')) pos.line X.env = pure false := by rfl) (hf : X.fn x = true ∨ X.env.scope.names.lookup x = some .local := by first | exact .inl rfl | exact .inr rfl | assumption) :
    PS X (.Assign [.Name x pos'] e pos) (tAsg te (gName i)) := by
  intro pins s σ H D I h
  refine wpAny_Assign_Name (thn (he pins s σ H _ I h) fun v s1 hh9 => ?_) hs
  obtain ⟨y, H1, I1, r1, q1⟩ := hh9
  exact store_ok I1 hN hi hx r1 (fun s2 I2 => ⟨_, H1, I2, q1⟩) hf

end


section
variable {X : Cx} {pos : Pos}

noncomputable def tWhile (c : TT) (tb : TS) : TS := fun D σ H => ∃ W : Nat → St → Hp → Prop, (∃ m, W m σ H) ∧ ∀ m σ H, W m σ H →
  c σ H fun b H1 => if b = true then ∃ N : St → Hp → Prop, (∀ σ' H', N σ' H' → ∃ m', m' < m ∧ W m' σ' H') ∧ tb { D with nx := N, ct := N, bk := D.nx } σ H1 else D.nx σ H1
end



structure It where
  go : Nat → Hp → Prop
  yld : Nat → Hp → V → Hp → Prop
  stop : Nat → Hp → Prop

noncomputable def FpOk (X : Cx) (pins : List (Addr × Obj)) (H : Hp) (b : Addr) : Prop :=
  H b = none ∧ b ≠ X.env.locals ∧ b ∉ X.fs ∧ (b ∈ X.ex ∨ X.s₀.heap.objs.size ≤ b) ∧ (∀ x c, X.env.cells.lookup x = some c → c ≠ b) ∧ ∀ p ∈ X.pn ++ pins, p.1 ≠ b
theorem Inv.fpOk {X : Cx} {pins : List (Addr × Obj)} {σ : St} {H H' : Hp} {s : Shared} {b : Addr} (I : Inv X pins σ H s) (hb : s.heap.objs.size ≤ b) (hn : H' b = none) : FpOk X pins H' b := by
  refine ⟨hn, Nat.ne_of_gt (Nat.lt_of_lt_of_le I.lt hb), I.nofs hb, .inr (Nat.le_trans I.sz hb), fun x c e z => ?_, fun p hp z => ?_⟩
  · obtain ⟨v, q⟩ := I.cell x c e
    exact absurd (Nat.lt_of_lt_of_le q.lt (by rw [z]; exact hb)) (Nat.lt_irrefl _)
  · exact absurd (Nat.lt_of_lt_of_le (Heap.lt_size (I.pin p hp).1) (by rw [z]; exact hb)) (Nat.lt_irrefl _)
structure Turn (P : Program) (w : World) (K : PySem.W.Frag) (tg : Expr) (J : It) (fp : List Addr) (it : Addr) (tn : Nat → Heap → Prop) : Prop where
  mem : it ∈ fp
  obj : ∀ i h, tn i h → ∀ b ∈ fp, ∃ o, h.get? b = some o ∧ ∀ v, o.data ≠ .cell v
  keep : ∀ i h h', tn i h → (∀ b ∈ fp, ∀ o, h.get? b = some o → h'.get? b = some o) → tn i h'
  item : ∀ (X : Cx), X.prog = P → X.w = w → X.K = K → X.calm = true → ∀ (i : Nat) (pins : List (Addr × Obj)) (s : Shared) (σ : St) (H : Hp) (E : Value → Shared → Prop), Inv X pins σ H s → (∀ b ∈ fp, FpOk X pins H b) → tn i s.heap → J.go i H →
    wpAny (model P w) X.A (pyNext (.ref it)) (fun r s1 => ∃ u, r = some u ∧
      wpAny (model P w) X.A (letOwnedTupleGo tg (.ref it) u) (fun _ s2 => ∃ x H', Inv X pins σ H' s2 ∧ RelV x u ∧ J.yld i H x H' ∧ tn (i + 1) s2.heap ∧ ∀ b ∈ fp, H' b = none) E s1) E s
  done : ∀ (X : Cx), X.prog = P → X.w = w → X.K = K → X.calm = true → ∀ (i : Nat) (pins : List (Addr × Obj)) (s : Shared) (σ : St) (H : Hp) (E : Value → Shared → Prop), Inv X pins σ H s → (∀ b ∈ fp, FpOk X pins H b) → tn i s.heap → J.stop i H →
    wpAny (model P w) X.A (pyNext (.ref it)) (fun r s1 => r = none ∧ Inv X pins σ H s1) E s
  self : ∀ (A : Around) (i : Nat) (s : Shared) (Q : Value → Shared → Prop) (E : Value → Shared → Prop), tn i s.heap → Q (.ref it) s → wpAny (model P w) A (pyIter (.ref it)) Q E s
noncomputable abbrev TI := St → Hp → (It → Hp → Prop) → Prop

noncomputable def PIE (X : Cx) (pins : List (Addr × Obj)) (σ : St) (tg : Expr) (R : It → Hp → Prop) (itv : Value) (s2 : Shared) : Prop :=
  ∃ (it : Addr) (fp : List Addr) (tn : Nat → Heap → Prop) (J : It) (H' : Hp), itv = .ref it ∧ Inv X pins σ H' s2 ∧ Turn X.prog X.w X.K tg J fp it tn ∧ tn 0 s2.heap ∧ (∀ b ∈ fp, FpOk X pins H' b) ∧ R J H'
noncomputable def PI (X : Cx) (tg iter : Expr) (wi : TI) : Prop :=
  ∀ (pins : List (Addr × Obj)) (s : Shared) (σ : St) (H : Hp) (R : It → Hp → Prop), Inv X pins σ H s → wi σ H R →
    wpAny (model X.prog X.w) X.A (eval iter X.env) (fun v s1 => wpAny (model X.prog X.w) X.A (pyIter v) (PIE X pins σ tg R) X.xe s1) X.xe s


theorem go_of {M : Model} {A : Around} {E : Value → Shared → Prop} {s : Shared} {tg : Expr} {it : Addr} {u : Value} {o : Obj} {n : String} {vs : Array Value} {Q : Unit → Shared → Prop} (ho : s.heap.get? it = some o) (hc : o.cls = .type n) (hd : o.data = .fields vs)
    (hn : ["enumerate", "zip", "dict_itemiterator", "dict_reverseitemiterator", "odict_iterator", "itertools.zip_longest", "itertools.pairwise"].contains n = false) (hQ : Q () s) : wpAny M A (letOwnedTupleGo tg (.ref it) u) Q E s := by
  unfold letOwnedTupleGo
  cases tg <;> first
    | exact wpAny_pure hQ
    | (cases u <;> first
        | exact wpAny_pure hQ
        | (refine wpAny_bind (wpAny_load ho ?_)
           rw [hc, hd]
           show wpAny M A (if (["enumerate", "zip", "dict_itemiterator", "dict_reverseitemiterator", "odict_iterator", "itertools.zip_longest", "itertools.pairwise"].contains n && vs[0]? == some (rawInt _)) = true then _ else _) Q E s
           rw [if_neg (by intro h; rw [hn, Bool.false_and] at h; cases h)]
           exact wpAny_pure hQ))


noncomputable def Itl (K : PySem.W.Frag) (a : Addr) : It :=
  ⟨fun i H => ∃ xs x, SqL K H a xs ∧ xs[i]? = some x, fun i H x H' => H' = H ∧ ∀ xs, SqL K H a xs → xs[i]? = some x, fun i H => ∃ xs, SqL K H a xs ∧ xs.length ≤ i⟩
noncomputable def Itt (K : PySem.W.Frag) (a : Addr) : It :=
  ⟨fun i H => ∃ xs x, SqT K H a xs ∧ xs[i]? = some x, fun i H x H' => H' = H ∧ ∀ xs, SqT K H a xs → xs[i]? = some x, fun i H => ∃ xs, SqT K H a xs ∧ xs.length ≤ i⟩

noncomputable def Itr (lo : Int) (n : Nat) : It := ⟨fun i _ => i < n, fun i H x H' => H' = H ∧ x = .int (lo + i), fun i _ => n ≤ i⟩
theorem turn_list {P : Program} {w : World} {K : PySem.W.Frag} {tg : Expr} (a it : Addr) : Turn P w K tg (Itl K a) [it] it (fun i h => h.IsListIter it a i) where
  mem := by simp
  obj := fun i h st b hb => by
    have e : b = it := by simpa using hb
    subst e
    obtain ⟨o, e, c, d⟩ := st
    exact ⟨o, e, fun v z => by rw [d] at z; cases z⟩
  keep := fun i h h' st k => st.at fun o e => k it (by simp) o e
  item := by
    intro X hP hw hK hc i pins s σ H E I hf st hg
    subst hP hw hK
    obtain ⟨xs, x, hq, hx⟩ := hg
    obtain ⟨its, rv, p, hz⟩ := I.list hq
    obtain ⟨u, hu, ru⟩ := rv.get hx
    obtain ⟨f0, f1, f2, f3, f4, f5⟩ := hf it (by simp)
    refine wpAny_pyNext_list_item st p.isList (x := u) (by simpa using hu) fun h' st' sb => ?_
    have I1 : Inv X pins σ H { s with heap := h' } := I.turned (t' := s.toks) (fun b o hb e => (sb.2 b hb).trans e) f0 f1 f3 f4 f5
    obtain ⟨o, e, c, d⟩ := id st'
    exact ⟨u, rfl, go_of (s := { s with heap := h' }) e c d (by decide) ⟨x, H, I1, ru, ⟨rfl, fun ys hy => by rw [I.list_inj hy hq]; exact hx⟩, st', fun b hb => (hf b hb).1⟩⟩
  done := by
    intro X hP hw hK hc i pins s σ H E I hf st hg
    subst hP hw hK
    obtain ⟨xs, hq, hx⟩ := hg
    obtain ⟨its, rv, p, hz⟩ := I.list hq
    obtain ⟨f0, f1, f2, f3, f4, f5⟩ := hf it (by simp)
    have hl := rv.length
    exact wpAny_pyNext_list_end (I.ok.hd hc) st p.isList (by simp; omega) fun h' eb => ⟨rfl, I.turned (t' := s.toks) (fun b o hb e => eb b o hb e) f0 f1 f3 f4 f5⟩
  self := fun _ _ _ _ _ st h => wpAny_pyIter_listiter st h
theorem turn_range {P : Program} {w : World} {K : PySem.W.Frag} {tg : Expr} (it : Addr) (lo : Int) (n : Nat) : Turn P w K tg (Itr lo n) [it] it (fun i h => IsRangeIter h it (lo + (i : Nat) * 1) ((n : Int) - (i : Nat)) 1) where
  mem := by simp
  obj := fun i h st b hb => by
    have e : b = it := by simpa using hb
    subst e
    exact ⟨_, st, fun v z => by
      have z' : Data.fields _ = Data.cell v := z
      cases z'⟩
  keep := fun i h h' st k => k it (by simp) _ st
  item := by
    intro X hP hw hK hc i pins s σ H E I hf st hg
    subst hP hw hK
    obtain ⟨f0, f1, f2, f3, f4, f5⟩ := hf it (by simp)
    have W := Walks.range (prog := X.prog) (w := X.w) (I.ok.hd hc) it lo 1 n
    refine W.item i s _ _ hg st fun v h' tk hv st' kk => ?_
    obtain ⟨t, rfl⟩ := hv
    have I1 : Inv X pins σ H { s with heap := h', toks := tk } := I.turned (fun b o hb e => kk b o (by simpa using hb) e) f0 f1 f3 f4 f5
    refine ⟨_, rfl, go_of (s := { s with heap := h', toks := tk }) (n := "range_iterator") st' rfl rfl (by decide) ⟨.int (lo + i), H, I1, ⟨t, ?_⟩, ⟨rfl, rfl⟩, st', fun b hb => (hf b hb).1⟩⟩
    rw [Int.mul_one]
  done := by
    intro X hP hw hK hc i pins s σ H E I hf st hg
    subst hP hw hK
    obtain ⟨f0, f1, f2, f3, f4, f5⟩ := hf it (by simp)
    exact wpAny_pyNext_range_end (I.ok.hd hc) st (by have : n ≤ i := hg; omega) fun h' eb => ⟨rfl, I.turned (t' := s.toks) (fun b o hb e => eb b o hb e) f0 f1 f3 f4 f5⟩
  self := fun _ _ _ _ _ st h => wpAny_pyIter_rangeiter st h
end L2

namespace L2
open PySem PySem.Spec PyProof.Rows
section
variable {X : Cx} {tg : Expr}
noncomputable def iList (K : PySem.W.Frag) (tl : TE) : TI := fun σ H R => tl σ H fun x H1 => ∃ a, x = .ref a ∧ (∃ xs, SqL K H1 a xs) ∧ R (Itl K a) H1
noncomputable def iTup (K : PySem.W.Frag) (tl : TE) : TI := fun σ H R => tl σ H fun x H1 => ∃ a, x = .ref a ∧ (∃ xs, SqT K H1 a xs) ∧ R (Itt K a) H1
theorem pi_list {l : Expr} {tl : TE} (hl : PE X l tl) : PI X tg l (iList X.K tl) := by
  intro pins s σ H R I h
  refine thn (hl pins s σ H _ I h) fun v s1 hh9 => ?_
  obtain ⟨x, H1, I1, r1, q1⟩ := hh9
  obtain ⟨a, e, ⟨xs, hq⟩, q⟩ := q1
  subst e
  cases r1
  obtain ⟨its, rv, p, hz⟩ := I1.list hq
  refine wpAny_pyIter_list p.isList ?_
  refine ⟨s1.heap.objs.size, [s1.heap.objs.size], _, _, H1, rfl, I1.kept (t' := s1.toks) fun b o e => Heap.get?_push_of_some _ e, turn_list a _, ⟨_, Heap.get?_push_size _ rfl, rfl, rfl⟩, fun b hb => ?_, q⟩
  have e : b = s1.heap.objs.size := by simpa using hb
  subst e
  exact I1.fpOk (Nat.le_refl _) (I1.hok.fresh (Nat.le_refl _))
theorem range_it {pins : List (Addr × Obj)} {σ : St} {H : Hp} {s : Shared} {R : It → Hp → Prop} {E : Value → Shared → Prop} {lo hi : Int} {t u v : Tok} {tk : Nat} (I : Inv X pins σ H s) (h1 : -(2 ^ 62) ≤ lo) (h2 : lo < 2 ^ 62) (h3 : -(2 ^ 62) ≤ hi) (h4 : hi < 2 ^ 62)
    (q : R (Itr lo (hi - lo).toNat) H) : wpAny (model X.prog X.w) X.A (pyIter (.ref s.heap.objs.size)) (PIE X pins σ tg R) E { s with heap := s.heap.push { cls := .type "range", data := .fields #[.int lo t, .int hi u, .int 1 v] }, toks := tk } := by
  refine wpAny_pyIter_range (IsRange.new ..) (small_one h1 h2 h3 h4) ?_
  have I1 : Inv X pins σ H { s with heap := s.heap.push { cls := .type "range", data := .fields #[.int lo t, .int hi u, .int 1 v] }, toks := tk } := I.kept fun b o e => Heap.get?_push_of_some _ e
  refine ⟨(s.heap.push { cls := .type "range", data := .fields #[.int lo t, .int hi u, .int 1 v] }).objs.size, [(s.heap.push { cls := .type "range", data := .fields #[.int lo t, .int hi u, .int 1 v] }).objs.size], _, _, H, rfl,
    I1.kept (t' := tk) fun b o e => Heap.get?_push_of_some _ e, turn_range _ lo (hi - lo).toNat, ?_, fun b hb => ?_, q⟩
  · have e1 : lo + ((0 : Nat) : Int) * 1 = lo := by simp
    have e2 : (((hi - lo).toNat : Nat) : Int) - ((0 : Nat) : Int) = Builtin.Range.rangeSize lo hi 1 := by rw [rangeSize_one]; split <;> omega
    show IsRangeIter _ _ (lo + ((0 : Nat) : Int) * 1) ((((hi - lo).toNat : Nat) : Int) - ((0 : Nat) : Int)) 1
    rw [e1, e2]
    exact Heap.get?_push_size _ rfl
  · have e : b = (s.heap.push { cls := .type "range", data := .fields #[.int lo t, .int hi u, .int 1 v] }).objs.size := by simpa using hb
    subst e
    exact I1.fpOk (Nat.le_refl _) (I1.hok.fresh (Nat.le_refl _))
noncomputable def iRng1 (ta : TA) : TI := fun σ H R => ta σ H fun vs H1 => ∃ j : Int, vs = [.int j] ∧ -(2 ^ 62) ≤ j ∧ j < 2 ^ 62 ∧ R (Itr 0 j.toNat) H1
noncomputable def iRng2 (ta : TA) : TI := fun σ H R => ta σ H fun vs H1 => ∃ i j : Int, vs = [.int i, .int j] ∧ (-(2 ^ 62) ≤ i ∧ i < 2 ^ 62 ∧ -(2 ^ 62) ≤ j ∧ j < 2 ^ 62) ∧ R (Itr i (j - i).toNat) H1
theorem pi_range1 {a : Expr} {ta : TA} {p pos : Pos} (hg : Gl X "range") (hm : X.mg "range" = none) (ha : PA X [a] ta) (hs : starEach [a] X.env = [(false, eval a X.env)] := by rfl) : PI X tg (.Call (.Name "range" p) [a] [] pos) (iRng1 ta) := by
  intro pins s σ H R I h
  refine Call_ (ld_blt I hg hm boot_range (PyProof.Rows.callWith_type1 (thn (ha pos pins s σ H _ I h) fun us s1 hh9 => ?_) hs rfl))
  obtain ⟨vs, H1, I1, r1, q1⟩ := hh9
  obtain ⟨j, e, q1, q2, q⟩ := q1
  subst e
  cases r1 with
  | cons r rr =>
    cases rr
    obtain ⟨t, rfl⟩ := r
    exact call_range_1 (range_it I1 (by omega) (by omega) q1 q2 (by simpa using q))
theorem pi_range2 {a b : Expr} {ta : TA} {p pos : Pos} (hg : Gl X "range") (hm : X.mg "range" = none) (ha : PA X [a, b] ta) (hs : starEach [a, b] X.env = [(false, eval a X.env), (false, eval b X.env)] := by rfl) (hs2 : starEach [b] X.env = [(false, eval b X.env)] := by rfl) :
    PI X tg (.Call (.Name "range" p) [a, b] [] pos) (iRng2 ta) := by
  intro pins s σ H R I h
  refine Call_ (ld_blt I hg hm boot_range (PyProof.Rows.callWith_type1 (thn (ha pos pins s σ H _ I h) fun us s1 hh9 => ?_) (by rw [hs, hs2]) (by rw [hs2]; rfl)))
  obtain ⟨vs, H1, I1, r1, q1⟩ := hh9
  obtain ⟨i, j, e, ⟨q1, q2, q3, q4⟩, q⟩ := q1
  subst e
  cases r1 with
  | cons r rr =>
    cases rr with
    | cons r' rr =>
      cases rr
      obtain ⟨t, rfl⟩ := r
      obtain ⟨t', rfl⟩ := r'
      exact call_range_2 (range_it I1 q1 q2 q3 q4 q)



noncomputable def tFor (wi : TI) (g : TG) (tb : TS) : TS := fun D σ H => wi σ H fun J H1 => ∃ W : Nat → Nat → St → Hp → Prop, (∃ m, W 0 m σ H1) ∧ ∀ i m σ H, W i m σ H →
  (J.stop i H ∧ D.nx σ H) ∨ (J.go i H ∧ ∃ N : St → Hp → Prop, (∀ σ' H', N σ' H' → ∃ m', m' < m ∧ W (i + 1) m' σ' H') ∧ ∀ x H', J.yld i H x H' → g x σ H' fun σ2 H2 => tb { D with nx := N, ct := N, bk := D.nx } σ2 H2)

noncomputable def pinsAt (fp : List Addr) (h : Heap) : List (Addr × Obj) := fp.filterMap fun b => (h.get? b).map fun o => (b, o)
theorem mem_pinsAt {fp : List Addr} {h : Heap} {b : Addr} {o : Obj} (hb : b ∈ fp) (e : h.get? b = some o) : (b, o) ∈ pinsAt fp h := List.mem_filterMap.mpr ⟨b, hb, by rw [e]; rfl⟩
theorem of_pinsAt {fp : List Addr} {h : Heap} {p : Addr × Obj} (hp : p ∈ pinsAt fp h) : p.1 ∈ fp ∧ h.get? p.1 = some p.2 := by
  obtain ⟨b, hb, e⟩ := List.mem_filterMap.mp hp
  cases q : h.get? b with
  | none => rw [q] at e; cases e
  | some o =>
    rw [q] at e
    have e' : (b, o) = p := Option.some.inj e
    subst e'
    exact ⟨hb, q⟩
theorem Inv.pinned {pins : List (Addr × Obj)} {σ : St} {H : Hp} {s : Shared} {fp : List Addr} (I : Inv X pins σ H s) (hf : ∀ b ∈ fp, FpOk X pins H b) (ho : ∀ b ∈ fp, ∃ o, s.heap.get? b = some o ∧ ∀ v, o.data ≠ .cell v) : Inv X (pins ++ pinsAt fp s.heap) σ H s :=
  I.pins_of fun p hp => (List.mem_append.mp hp).elim (fun z => I.pin p (List.mem_append_right _ z)) fun z => by
    obtain ⟨hb, e⟩ := of_pinsAt z
    obtain ⟨f0, f1, f2, _⟩ := hf p.1 hb
    obtain ⟨o, e', d⟩ := ho p.1 hb
    rw [e] at e'; cases e'
    exact ⟨e, f0, f1, f2, d⟩
theorem Inv.unpinned {pins pl : List (Addr × Obj)} {σ : St} {H : Hp} {s : Shared} (I : Inv X (pins ++ pl) σ H s) : Inv X pins σ H s := I.pins_of fun p hp => I.pin p (List.mem_append_right _ (List.mem_append_left _ hp))
theorem ps_for {iter : Expr} {body : List Stmt} {wi : TI} {g : TG} {tb : TS} {pos : Pos} (hp : PassesOwn (model X.prog X.w) X.A X.env X.xe) (hc : X.calm = true) (hi : PI X tg iter wi) (hg : PG X tg g) (hb : PSs X body tb)
    (hs : ∀ x, foldedSetIterable iter X.env x = pure x := by intro _; rfl) : PS X (.For tg iter body [] pos) (tFor wi g tb) := by
  intro pins s σ H D I h
  refine wpAny_For (thn (hi pins s σ H _ I h) fun v s1 h1 => thn h1 fun itv s2 h2 => ?_) hs
  obtain ⟨it, fp, tn, J, H2, e, I2, T, st2, f2, W, ⟨m0, w0⟩, turn⟩ := h2
  subst e
  -- what stays true of the iterator's objects through the loop
  have stat : ∀ {H' : Hp}, (∀ b ∈ fp, H' b = none) → ∀ b ∈ fp, FpOk X pins H' b := fun hn b hb => ⟨hn b hb, (f2 b hb).2⟩
  refine codeAny_forLoop_any (fun n s' => ∃ i σ' H', Inv X pins σ' H' s' ∧ tn i s'.heap ∧ (∀ b ∈ fp, H' b = none) ∧ W i n σ' H') ?_ m0 ⟨0, σ, H2, I2, st2, fun b hb => (f2 b hb).1, w0⟩
  rintro n s3 ⟨i, σ3, H3, I3, st3, fr3, w3⟩
  rcases turn i n σ3 H3 w3 with ⟨stop, qn⟩ | ⟨go, N, hN, step⟩
  · refine wpAny_passesOwn hp (thn (T.done X rfl rfl rfl hc i pins s3 σ3 H3 X.xe I3 (stat fr3) st3 stop) fun r s4 ⟨hr, I4⟩ => ?_)
    subst hr
    exact wpAny_execs_nil ⟨σ3, H3, I4, qn⟩
  · refine wpAny_passesOwn hp (thn (T.item X rfl rfl rfl hc i pins s3 σ3 H3 X.xe I3 (stat fr3) st3 go) fun r s4 ⟨u, hr, h4⟩ => ?_)
    subst hr
    refine wpAny_passesOwn hp (thn h4 fun _ s5 hh9 => ?_)
    obtain ⟨x, H5, I5, r5, y5, st5, fr5⟩ := hh9
    have I5' := I5.pinned (stat fr5) (T.obj _ _ st5)
    refine wpAny_passesOwn hp (thn (hg _ s5 σ3 H5 x u _ I5' r5 (step x H5 y5)) fun _ s6 hh9 => ?_)
    obtain ⟨σ6, H6, I6, q6⟩ := hh9
    refine wpAny_passesOwn hp (thn (hb _ s6 σ6 H6 _ I6 q6) fun f s7 q7 => ?_)
    have again : ∀ {σ7 : St} {H7 : Hp}, Inv X (pins ++ pinsAt fp s5.heap) σ7 H7 s7 → N σ7 H7 → ∃ m, m < n ∧ ∃ i σ' H', Inv X pins σ' H' s7 ∧ tn i s7.heap ∧ (∀ b ∈ fp, H' b = none) ∧ W i m σ' H' := fun {σ7 H7} I7 n7 => by
      obtain ⟨m', hm, w7⟩ := hN σ7 H7 n7
      refine ⟨m', hm, i + 1, σ7, H7, I7.unpinned, T.keep _ _ _ st5 fun b hb o e => (I7.pin (b, o) (List.mem_append_right _ (List.mem_append_right _ (mem_pinsAt hb e)))).1, fun b hb => ?_, w7⟩
      obtain ⟨o, e, d⟩ := T.obj _ _ st5 b hb
      exact (I7.pin (b, o) (List.mem_append_right _ (List.mem_append_right _ (mem_pinsAt hb e)))).2.1
    cases f with
    | next => obtain ⟨σ7, H7, I7, n7⟩ := q7; exact again I7 n7
    | cont => obtain ⟨σ7, H7, I7, n7⟩ := q7; exact again I7 n7
    | brk => obtain ⟨σ7, H7, I7, q7⟩ := q7; exact ⟨σ7, H7, I7.unpinned, q7⟩
    | ret v => obtain ⟨x7, σ7, H7, I7, r7, q7⟩ := q7; exact ⟨x7, σ7, H7, I7.unpinned, r7, q7⟩
end



theorem for_range {lo : Int} {n : Nat} {g : TG} {tb : TS} {D : Ends} {σ : St} {H : Hp} (Pv : Nat → St → Hp → Prop) (h0 : Pv 0 σ H)
    (hs : ∀ i σ H, i < n → Pv i σ H → g (.int (lo + i)) σ H fun σ2 H2 => tb { D with nx := Pv (i + 1), ct := Pv (i + 1), bk := D.nx } σ2 H2) (hd : ∀ σ H, Pv n σ H → D.nx σ H) :
    ∃ W : Nat → Nat → St → Hp → Prop, (∃ m, W 0 m σ H) ∧ ∀ i m σ H, W i m σ H →
      ((Itr lo n).stop i H ∧ D.nx σ H) ∨ ((Itr lo n).go i H ∧ ∃ N : St → Hp → Prop, (∀ σ' H', N σ' H' → ∃ m', m' < m ∧ W (i + 1) m' σ' H') ∧ ∀ x H', (Itr lo n).yld i H x H' → g x σ H' fun σ2 H2 => tb { D with nx := N, ct := N, bk := D.nx } σ2 H2) := by
  refine ⟨fun i m σ H => m = n - i ∧ i ≤ n ∧ Pv i σ H, ⟨n, by simp, Nat.zero_le _, h0⟩, ?_⟩
  rintro i m σ H ⟨rfl, hi, p⟩
  by_cases hlt : i < n
  · refine .inr ⟨hlt, Pv (i + 1), fun σ' H' p' => ⟨n - (i + 1), by omega, rfl, hlt, p'⟩, fun x H' y => ?_⟩
    obtain ⟨e, y⟩ := y
    subst e y
    exact hs i σ _ hlt p
  · have e : i = n := by omega
    subst e
    exact .inl ⟨Nat.le_refl _, hd σ H p⟩

end L2

namespace L2
open PySem PySem.Spec PyProof.Rows

noncomputable abbrev R2 := V → V → Hp → VK → Prop

noncomputable def OpR (X : Cx) (f : Value → Value → Sem Value) (r : R2) : Prop :=
  ∀ (pins : List (Addr × Obj)) (s : Shared) (σ : St) (H : Hp) (x y : V) (v u : Value) (Q : VK), Inv X pins σ H s → RelV x v → RelV y u → r x y H Q →
    wpAny (model X.prog X.w) X.A (f v u) (EP X pins σ Q) X.xe s

noncomputable def CallR (X : Cx) (f : Value) (r : List V → Hp → VK → Prop) : Prop :=
  ∀ (pins : List (Addr × Obj)) (s : Shared) (σ : St) (H : Hp) (xs : List V) (us : List Value) (Q : VK), Inv X pins σ H s → Vals xs us → r xs H Q →
    wpAny (model X.prog X.w) X.A (call f us) (EP X pins σ Q) X.xe s

noncomputable def tOp (r : R2) (ta tb : TE) : TE := fun σ H Q => ta σ H fun x H1 => tb σ H1 fun y H2 => r x y H2 Q
noncomputable def tUn (r : V → Hp → VK → Prop) (ta : TE) : TE := fun σ H Q => ta σ H fun x H1 => r x H1 Q

noncomputable def rI (C : Int → Int → Prop) (g : Int → Int → V) : R2 := fun x y H Q => ∃ i j, x = .int i ∧ y = .int j ∧ C i j ∧ Q (g i j) H
noncomputable def rI0 (g : Int → Int → V) : R2 := fun x y H Q => ∃ i j, x = .int i ∧ y = .int j ∧ Q (g i j) H
noncomputable def rU (g : Int → V) : V → Hp → VK → Prop := fun x H Q => ∃ i, x = .int i ∧ Q (g i) H

section
variable {X : Cx} {a b c : Expr} {ta tb tc : TE} {pos : Pos}

theorem binT (ha : PE X a ta) (hb : PE X b tb) {pins : List (Addr × Obj)} {s : Shared} {σ : St} {H : Hp} {R : V → V → Hp → Prop} (I : Inv X pins σ H s)
    (h : ta σ H fun x H1 => tb σ H1 fun y H2 => R x y H2) {Q : Value → Shared → Prop} {f : Value → Value → Sem Value}
    (hf : ∀ v u s2 x y H2, Inv X pins σ H2 s2 → RelV x v → RelV y u → R x y H2 → wpAny (model X.prog X.w) X.A (f v u) Q X.xe s2) :
    wpAny (model X.prog X.w) X.A (eval a X.env) (fun v s₁ => wpAny (model X.prog X.w) X.A (eval b X.env) (fun u s₂ => wpAny (model X.prog X.w) X.A (f v u) Q X.xe s₂) X.xe s₁) X.xe s := by
  refine thn (ha pins s σ H _ I h) fun v s1 hh9 => ?_
  obtain ⟨x, H1, I1, r1, q1⟩ := hh9
  refine thn (hb pins s1 σ H1 _ I1 q1) fun u s2 hh9 => ?_
  obtain ⟨y, H2, I2, r2, q2⟩ := hh9
  exact hf v u s2 x y H2 I2 r1 r2 q2

theorem pe_op {op : Operator} {r : R2} (ho : OpR X (binaryOp op) r) (ha : PE X a ta) (hb : PE X b tb) : PE X (.BinOp a op b pos) (tOp r ta tb) := by
  intro pins s σ H Q I h
  exact wpAny_BinOp (binT ha hb I h fun v u s2 x y H2 I2 rx ry q => ho pins s2 σ H2 x y v u Q I2 rx ry q)
theorem opI {f : Value → Value → Sem Value} {C : Int → Int → Prop} {g : Int → Int → Int}
    (rule : ∀ (i j : Int) (t u : Tok) (s : Shared) (Q : Value → Shared → Prop) (E : Value → Shared → Prop), C i j → Q (.int (g i j) s.toks) { s with toks := s.toks + 1 } → wpAny (model X.prog X.w) X.A (f (.int i t) (.int j u)) Q E s) :
    OpR X f (rI C fun i j => .int (g i j)) := by
  intro pins s σ H x y v u Q I rx ry h
  obtain ⟨i, j, rfl, rfl, hc, q⟩ := h
  obtain ⟨t, rfl⟩ := rx
  obtain ⟨t', rfl⟩ := ry
  exact rule i j t t' s _ _ hc ⟨.int (g i j), H, I.tok _, ⟨_, rfl⟩, q⟩
theorem opI0 {f : Value → Value → Sem Value} {g : Int → Int → Int}
    (rule : ∀ (i j : Int) (t u : Tok) (s : Shared) (Q : Value → Shared → Prop) (E : Value → Shared → Prop), Q (.int (g i j) s.toks) { s with toks := s.toks + 1 } → wpAny (model X.prog X.w) X.A (f (.int i t) (.int j u)) Q E s) :
    OpR X f (rI0 fun i j => .int (g i j)) := by
  intro pins s σ H x y v u Q I rx ry h
  obtain ⟨i, j, rfl, rfl, q⟩ := h
  obtain ⟨t, rfl⟩ := rx
  obtain ⟨t', rfl⟩ := ry
  exact rule i j t t' s _ _ ⟨.int (g i j), H, I.tok _, ⟨_, rfl⟩, q⟩
theorem opB0 {f : Value → Value → Sem Value} {g : Int → Int → Bool}
    (rule : ∀ (i j : Int) (t u : Tok) (s : Shared) (Q : Value → Shared → Prop) (E : Value → Shared → Prop), Q (.bool (g i j)) s → wpAny (model X.prog X.w) X.A (f (.int i t) (.int j u)) Q E s) :
    OpR X f (rI0 fun i j => .bl (g i j)) := by
  intro pins s σ H x y v u Q I rx ry h
  obtain ⟨i, j, rfl, rfl, q⟩ := h
  obtain ⟨t, rfl⟩ := rx
  obtain ⟨t', rfl⟩ := ry
  exact rule i j t t' s _ _ ⟨.bl (g i j), H, I, rfl, q⟩

noncomputable def CDiv (i j : Int) : Prop := 0 < j ∧ j < 1073741824
noncomputable def CPow (i j : Int) : Prop := 0 ≤ j ∧ j ≤ 1000000 ∧ i.natAbs < 2 ^ 64
noncomputable def CMul (i j : Int) : Prop := (-(2 ^ 64) < i ∧ i < 2 ^ 64) ∨ (-(2 ^ 64) < j ∧ j < 2 ^ 64)
theorem CMul.ok {i j : Int} (h : CMul i j) : IntMulOk i j := by
  rcases h with ⟨h1, h2⟩ | ⟨h1, h2⟩
  · exact .of_left (intBits_le_64 h1 h2)
  · exact .of_right (intBits_le_64 h1 h2)
theorem op_add : OpR X (binaryOp .Add) (rI0 fun i j => .int (i + j)) := opI0 fun _ _ _ _ _ _ _ q => add_int q
theorem op_sub : OpR X (binaryOp .Sub) (rI0 fun i j => .int (i - j)) := opI0 fun _ _ _ _ _ _ _ q => sub_int q
theorem op_mod : OpR X (binaryOp .Mod) (rI (fun _ j => 0 < j) fun i j => .int (i % j)) := opI fun i j _ _ _ _ _ hc q => by
  have h1 : (0 : Int) < j := hc
  exact mod_int' (by omega) (by rw [Int.fmod_eq_emod_of_nonneg i (by omega)]; exact q)
end



noncomputable def scal : V → V → Bool
  | .non, .non => true | .non, .int _ => true | .int _, .non => true | .non, .bl _ => true | .bl _, .non => true | .non, .str _ => true | .str _, .non => true
  | .int _, .int _ => true | .bl _, .bl _ => true | .str _, .str _ => true | .byt _, .byt _ => true
  | .int _, .str _ => true | .str _, .int _ => true | .bl _, .str _ => true | .str _, .bl _ => true
  | _, _ => false
noncomputable def rEq : R2 := fun x y H Q => scal x y = true ∧ Q (.bl (decide (x = y))) H
noncomputable def rNe : R2 := fun x y H Q => scal x y = true ∧ Q (.bl (!decide (x = y))) H

theorem dec_int {i j : Int} : decide (V.int i = V.int j) = (i == j) := by
  rw [Bool.eq_iff_iff]
  simp
theorem dec_bl {i j : Bool} : decide (V.bl i = V.bl j) = (i == j) := by
  rw [Bool.eq_iff_iff]
  simp
theorem dec_str {i j : Str} : decide (V.str i = V.str j) = (i == j) := by
  rw [Bool.eq_iff_iff]
  simp
theorem dec_byt {i j : Array UInt8} : decide (V.byt i = V.byt j) = (i.toList == j.toList) := by
  rw [Bool.eq_iff_iff]
  cases i
  cases j
  simp

section
variable {X : Cx} {a b c : Expr} {ta tb tc : TE} {pos : Pos}
theorem fin_bl {pins : List (Addr × Obj)} {σ : St} {H : Hp} {s : Shared} {Q : VK} {k k' : Bool} (I : Inv X pins σ H s) (q : Q (.bl k) H) (e : k = k') : EP X pins σ Q (.bool k') s := by
  subst e
  exact ⟨.bl k, H, I, rfl, q⟩
theorem op_eq : OpR X (compareOp .Eq) rEq := by
  intro pins s σ H x y v u Q I rx ry h
  obtain ⟨hs, q⟩ := h
  cases x with
  | non =>
    cases rx
    cases y with
    | non => cases ry; exact PySem.EqNone.eq_none_none (fin_bl I q (by simp))
    | bl j => cases ry; exact PySem.EqNone.eq_none_bool (fin_bl I q (by simp))
    | int j => obtain ⟨t', rfl⟩ := ry; exact PySem.EqNone.eq_none_int (fin_bl I q (by simp))
    | str j => obtain ⟨t', rfl⟩ := ry; exact PySem.EqNone.eq_none_str (fin_bl I q (by simp))
    | _ => exact absurd (show false = true from hs) Bool.false_ne_true
  | bl i =>
    cases rx
    cases y with
    | non => cases ry; exact PySem.EqNone.eq_bool_none (fin_bl I q (by simp))
    | bl j => cases ry; exact eq_bool (fin_bl I q dec_bl)
    | str j => obtain ⟨t', rfl⟩ := ry; exact PySem.EqMixed.eq_bool_str (fin_bl I q (by simp))
    | _ => exact absurd (show false = true from hs) Bool.false_ne_true
  | int i =>
    obtain ⟨t, rfl⟩ := rx
    cases y with
    | non => cases ry; exact PySem.EqNone.eq_int_none (fin_bl I q (by simp))
    | int j => obtain ⟨t', rfl⟩ := ry; exact eq_int (fin_bl I q dec_int)
    | str j => obtain ⟨t', rfl⟩ := ry; exact PySem.EqMixed.eq_int_str (fin_bl I q (by simp))
    | _ => exact absurd (show false = true from hs) Bool.false_ne_true
  | str i =>
    obtain ⟨t, rfl⟩ := rx
    cases y with
    | non => cases ry; exact PySem.EqNone.eq_str_none (fin_bl I q (by simp))
    | bl j => cases ry; exact PySem.EqMixed.eq_str_bool (fin_bl I q (by simp))
    | int j => obtain ⟨t', rfl⟩ := ry; exact PySem.EqMixed.eq_str_int (fin_bl I q (by simp))
    | str j => obtain ⟨t', rfl⟩ := ry; exact eq_str (fin_bl I q dec_str)
    | _ => exact absurd (show false = true from hs) Bool.false_ne_true
  | byt i =>
    obtain ⟨t, rfl⟩ := rx
    cases y with
    | byt j => obtain ⟨t', rfl⟩ := ry; exact PySem.W.eq_bytes (fin_bl I q dec_byt)
    | _ => exact absurd (show false = true from hs) Bool.false_ne_true
  | _ => cases y <;> exact absurd (show false = true from hs) Bool.false_ne_true
theorem op_ne : OpR X (compareOp .NotEq) rNe := by
  intro pins s σ H x y v u Q I rx ry h
  obtain ⟨hs, q⟩ := h
  cases x with
  | non =>
    cases rx
    cases y with
    | non => cases ry; exact PySem.EqNone.ne_none_none (fin_bl I q (by simp))
    | bl j => cases ry; exact PySem.EqNone.ne_none_bool (fin_bl I q (by simp))
    | int j => obtain ⟨t', rfl⟩ := ry; exact PySem.EqNone.ne_none_int (fin_bl I q (by simp))
    | str j => obtain ⟨t', rfl⟩ := ry; exact PySem.EqNone.ne_none_str (fin_bl I q (by simp))
    | _ => exact absurd (show false = true from hs) Bool.false_ne_true
  | bl i =>
    cases rx
    cases y with
    | non => cases ry; exact PySem.EqNone.ne_bool_none (fin_bl I q (by simp))
    | bl j => cases ry; exact ne_bool (fin_bl I q (congrArg not dec_bl))
    | str j => obtain ⟨t', rfl⟩ := ry; exact PySem.EqMixed.ne_bool_str (fin_bl I q (by simp))
    | _ => exact absurd (show false = true from hs) Bool.false_ne_true
  | int i =>
    obtain ⟨t, rfl⟩ := rx
    cases y with
    | non => cases ry; exact PySem.EqNone.ne_int_none (fin_bl I q (by simp))
    | int j => obtain ⟨t', rfl⟩ := ry; exact ne_int (fin_bl I q (congrArg not dec_int))
    | str j => obtain ⟨t', rfl⟩ := ry; exact PySem.EqMixed.ne_int_str (fin_bl I q (by simp))
    | _ => exact absurd (show false = true from hs) Bool.false_ne_true
  | str i =>
    obtain ⟨t, rfl⟩ := rx
    cases y with
    | non => cases ry; exact PySem.EqNone.ne_str_none (fin_bl I q (by simp))
    | bl j => cases ry; exact PySem.EqMixed.ne_str_bool (fin_bl I q (by simp))
    | int j => obtain ⟨t', rfl⟩ := ry; exact PySem.EqMixed.ne_str_int (fin_bl I q (by simp))
    | str j => obtain ⟨t', rfl⟩ := ry; exact ne_str (fin_bl I q (congrArg not dec_str))
    | _ => exact absurd (show false = true from hs) Bool.false_ne_true
  | byt i =>
    obtain ⟨t, rfl⟩ := rx
    cases y with
    | byt j => obtain ⟨t', rfl⟩ := ry; exact PySem.W.ne_bytes (fin_bl I q (congrArg not dec_byt))
    | _ => exact absurd (show false = true from hs) Bool.false_ne_true
  | _ => cases y <;> exact absurd (show false = true from hs) Bool.false_ne_true

theorem op_lt : OpR X (compareOp .Lt) (rI0 fun i j => .bl (decide (i < j))) := opB0 fun _ _ _ _ _ _ _ q => lt_int q
theorem op_le : OpR X (compareOp .LtE) (rI0 fun i j => .bl (decide (i ≤ j))) := opB0 fun _ _ _ _ _ _ _ q => le_int q
theorem op_ge : OpR X (compareOp .GtE) (rI0 fun i j => .bl (decide (j ≤ i))) := opB0 fun _ _ _ _ _ _ _ q => ge_int q
theorem op_in_str : OpR X (compareOp .In) (fun x y H Q => ∃ i j, x = .str i ∧ y = .str j ∧ Q (.bl (!(Builtin.Str.occurrences j i 0 j.length 1).isEmpty)) H) := by
  intro pins s σ H x y v u Q I rx ry h
  obtain ⟨i, j, rfl, rfl, q⟩ := h
  obtain ⟨t, rfl⟩ := rx
  obtain ⟨t', rfl⟩ := ry
  exact in_str (fin_bl I q rfl)


theorem op_isN : OpR X (compareOp .Is) (fun x y H Q => y = .non ∧ Q (.bl (decide (x = .non))) H) := by
  intro pins s σ H x y v u Q I rx ry h
  obtain ⟨rfl, q⟩ := h
  cases ry
  refine is_none_gen (fin_bl I q ?_)
  cases x <;> first
    | (cases rx; rfl)
    | (obtain ⟨t, rfl⟩ := rx; rfl)
theorem op_notN : OpR X (compareOp .IsNot) (fun x y H Q => y = .non ∧ Q (.bl (!decide (x = .non))) H) := by
  intro pins s σ H x y v u Q I rx ry h
  obtain ⟨rfl, q⟩ := h
  cases ry
  refine isnot_none_gen (fin_bl I q ?_)
  cases x <;> first
    | (cases rx; rfl)
    | (obtain ⟨t, rfl⟩ := rx; rfl)

theorem nomark (b : Expr) {op : CmpOp} (h : op ≠ .In := by decide) (h2 : op ≠ .NotIn := by decide) : behindInMarks op b = false := by
  have e1 : (op == CmpOp.In) = false := by cases op <;> first | rfl | exact absurd rfl h
  have e2 : (op == CmpOp.NotIn) = false := by cases op <;> first | rfl | exact absurd rfl h2
  cases b <;> simp [behindInMarks, e1, e2]

theorem pe_cmpR {op : CmpOp} {r : R2} (ho : OpR X (compareOp op) r) (ha : PE X a ta) (hb : PE X b tb) (hm : behindInMarks op b = false) : PE X (.Compare a [op] [b] pos) (tOp r ta tb) := by
  intro pins s σ H Q I h
  exact wpAny_Compare1 (binT ha hb I h fun v u s2 x y H2 I2 rx ry q => ho pins s2 σ H2 x y v u Q I2 rx ry q) hm

noncomputable def tTest (t : TE) : TT := fun σ H Q => t σ H fun x H' => ∃ k, x = .bl k ∧ Q k H'
theorem pt_cmpR {op : CmpOp} {r : R2} (ho : OpR X (compareOp op) r) (ha : PE X a ta) (hb : PE X b tb) (hm : behindInMarks op b = false) : PT X (.Compare a [op] [b] pos) (tTest (tOp r ta tb)) := by
  intro pins s σ H Q I h
  refine wpAny_isTrue_Compare1 (thn (ha pins s σ H _ I h) fun v s1 ⟨x, H1, I1, r1, q1⟩ => thn (hb pins s1 σ H1 _ I1 q1) fun u s2 ⟨y, H2, I2, r2, q2⟩ =>
    thn (ho pins s2 σ H2 x y v u _ I2 r1 r2 q2) fun c s3 ⟨z, H3, I3, r3, k, e, q3⟩ => ?_) hm
  subst e
  cases r3
  exact wpAny_truthy_bool ⟨H3, I3, q3⟩

noncomputable def tChain (r r' : R2) (ta tb tc : TE) : TE := fun σ H Q => ta σ H fun x H1 => tb σ H1 fun y H2 => r x y H2 fun z H3 => ∃ k, z = .bl k ∧
  (if k = true then tc σ H3 fun w' H4 => r' y w' H4 Q else Q (.bl false) H3)
theorem pt_chain {op op' : CmpOp} {r r' : R2} (ho : OpR X (compareOp op) r) (ho' : OpR X (compareOp op') r') (ha : PE X a ta) (hb : PE X b tb) (hc : PE X c tc)
    (hm : lastMarks [op, op'] [b, c] = false := by with_unfolding_all rfl) : PT X (.Compare a [op, op'] [b, c] pos) (tTest (tChain r r' ta tb tc)) := by
  intro pins s σ H Q I h
  refine isTrue_chain (thn (ha pins s σ H _ I h) fun v s1 ⟨x, H1, I1, r1, q1⟩ => test_link (thn (hb pins s1 σ H1 _ I1 q1) fun u s2 ⟨y, H2, I2, r2, q2⟩ =>
    thn (ho pins s2 σ H2 x y v u _ I2 r1 r2 q2) fun d s3 ⟨z, H3, I3, r3, k, e, q3⟩ => ?_)) hm
  subst e
  cases r3
  refine wpAny_truthy_bool ?_
  cases k with
  | false =>
    obtain ⟨k', e', q'⟩ := q3
    cases e'
    exact ite_ff ⟨H3, I3, q'⟩
  | true =>
    refine ite_tt (test_last (thn (hc pins s3 σ H3 _ I3 q3) fun w' s4 ⟨z', H4, I4, r4, q4⟩ => thn (ho' pins s4 σ H4 y z' u w' _ I4 r2 r4 q4) fun d' s5 hh9 => ?_))
    obtain ⟨z2, H5, I5, r5, k2, e2, q5⟩ := hh9
    subst e2
    cases r5
    exact wpAny_truthy_bool ⟨H5, I5, q5⟩



theorem line63 : (sizeLine : Nat) < 2 ^ 63 := by rw [sizeLine_eq]; decide
theorem op_add_str : OpR X (binaryOp .Add) (fun x y H Q => ∃ i j, x = .str i ∧ y = .str j ∧ i.length + j.length ≤ sizeLine ∧ Q (.str (i ++ j)) H) := by
  intro pins s σ H x y v u Q I rx ry h
  obtain ⟨i, j, rfl, rfl, hz, q⟩ := h
  obtain ⟨t, rfl⟩ := rx
  obtain ⟨t', rfl⟩ := ry
  exact add_str (fun t' tk => ⟨.str (i ++ j), H, I.tok _, ⟨_, rfl⟩, q⟩) hz
theorem vals1 {x : V} {us : List Value} (r : Vals [x] us) : ∃ u, us = [u] ∧ RelV x u := by
  cases r with
  | cons r1 r2 => cases r2; exact ⟨_, rfl, r1⟩
theorem vals2 {x y : V} {us : List Value} (r : Vals [x, y] us) : ∃ u w', us = [u, w'] ∧ RelV x u ∧ RelV y w' := by
  cases r with
  | cons r1 r2 =>
    cases r2 with
    | cons r3 r4 => cases r4; exact ⟨_, _, rfl, r1, r3⟩
theorem call_str_int : CallR X (.type "str") (fun xs H Q => ∃ i, xs = [.int i] ∧ i.natAbs.log2 < 1920 ∧ Q (.str (toString i)) H) := by
  intro pins s σ H xs us Q I r h
  obtain ⟨i, rfl, hz, q⟩ := h
  obtain ⟨u, rfl, t, rfl⟩ := vals1 r
  exact PySem.P.str_of_int hz ⟨.str _, H, I.tok _, ⟨_, rfl⟩, q⟩
end
end L2

namespace L2
open PySem PySem.Spec PyProof.Rows


structure ObjM (h : Heap) (x dx C : Addr) (mA : Str → Option Value) : Prop where
  obj : h.get? x = some (PySem.W.instObj C dx)
  ns : h.Ns1 dx mA
  ne : dx ≠ x

theorem lookIn_ns {h : Heap} {dx : Addr} {mA : Str → Option Value} (n : h.Ns1 dx mA) : ∃ od, h.get? dx = some od ∧ ∀ name, PySem.W.lookIn name od = some (mA name) := by
  obtain ⟨o, es, ep, ho, hd, hk, _, hm⟩ := n
  refine ⟨o, ho, fun name => ?_⟩
  have e := hm name
  unfold nsFind findBy at e
  rw [← Array.find?_toList] at e
  unfold PySem.W.lookIn
  rw [hd]
  dsimp only
  split
  · rename_i y q
    rw [q] at e
    exact congrArg some e
  · rename_i q
    rw [q] at e
    have a : es.toList.any (·.refKey) = false := by
      rw [List.any_eq_false]
      intro y hy
      obtain ⟨z, t, hkey⟩ := hk y (Array.mem_toList_iff.mp hy)
      simp [DictEntry.refKey, hkey]
    have a' : ¬ es.toList.any (·.refKey) = true := by rw [a]; exact Bool.false_ne_true
    rw [if_neg a']
    exact congrArg some e

theorem ObjM.look {h : Heap} {x dx C : Addr} {mA : Str → Option Value} (I : ObjM h x dx C mA) : ∃ od, PySem.W.InstAt h x (PySem.W.instObj C dx) C (some od) ∧ ∀ name, PySem.W.lookIn name od = some (mA name) :=
  let ⟨od, ho, hl⟩ := lookIn_ns I.ns
  ⟨od, ⟨I.obj, rfl, rfl, ho⟩, hl⟩

section
variable {prog : Program} {w : World} {A : Around} {E : Value → Shared → Prop} {s : Shared} {K : PySem.W.Frag} {x dx C f : Addr} {mA : Str → Option Value} {name : Str} {v : Value}

theorem get_map {expr : Bool} {Q : Value → Shared → Prop} (X : K.In s.heap) (I : ObjM s.heap x dx C mA) (hg : PySem.W.plainGet K C name = true) (hh : PySem.W.hasDictIn K C = true)
    (ha : PySem.W.findIn K (.ref C) name = some none) (hv : mA name = some v) (hv' : PySem.W.handedIn v = true) (h : Q v { s with toks := s.toks + 1 }) :
    wpAny (model prog w) A (getAttr (.ref x) name expr) Q E s := by
  obtain ⟨od, J, hl⟩ := I.look
  exact PySem.W.get_value X J (PySem.W.plainGet_of hg).1 (PySem.W.findObj_own hh ha rfl (by rw [hl, hv])) hv' h

theorem get_meth {pl : Sem Bool} {Q : Value × List Value → Shared → Prop} (X : K.In s.heap) (I : ObjM s.heap x dx C mA) (hg : PySem.W.plainGet K C name = true)
    (hf : PySem.W.findIn K (.ref C) name = some (some (.ref f))) (ht : PySem.W.isFn K (.ref f) = true) (hv : mA name = none) (h : Q (.ref f, [.ref x]) s) :
    wpAny (model prog w) A (getMethod (.ref x) name pl) Q E s := by
  obtain ⟨od, J, hl⟩ := I.look
  exact PySem.W.method_fn X J (PySem.W.plainGet_of hg).1 (PySem.W.plainGet_of hg).2 hf (beq_iff_eq.mp ht) (by show (PySem.W.lookIn name od).map (·.isSome) = some false; rw [hl, hv]; rfl) h

theorem set_map {ns : List Str} {Q : Unit → Shared → Prop} (X : K.In s.heap) (I : ObjM s.heap x dx C mA)
    (hs : PySem.W.findIn K (.ref C) "__setattr__" = some (some (.builtin "object.__setattr__"))) (hp : PySem.W.plainOver K C = true) (ht : PySem.W.takerIn K C name = some none) (hh : PySem.W.hasDictIn K C = true)
    (hw : PySem.Within mA ns) (hsz : ns.length ≤ sizeLine)
    (h : ∀ h', ObjM h' x dx C (fun y => if y = name then some v else mA y) → Heap.SameBut dx s.heap h' → Q () { s with heap := h', toks := s.toks + 2 }) :
    wpAny (model prog w) A (setAttr (.ref x) name v) Q E s := by
  obtain ⟨od, J, hl⟩ := I.look
  refine PySem.W.set_plain X J hs (PySem.W.osa_open (s := { s with toks := s.toks + 1 }) (r := none) X J hp ht fun b => ?_)
  obtain ⟨cd, hc, hd'⟩ := PySem.W.any_some hh
  have hx : s.heap.get? x = some ⟨.ref C, some dx, .plain, #[]⟩ := I.obj
  refine wpAny_bind (wpAny_pure (wpAny_bind (wpAny_bind (wpAny_loadPart hx (wpAny_bind (PySem.W.Looks.here (s := { s with toks := s.toks + 1 }) (PySem.W.looks_clsIn X hc) ?_))))))
  rw [hd']
  refine wpAny_pure (a := some dx) (wpAny_bind (wpAny_pure (wpAny_bind ?_)))
  refine wpAny_nsSet1 (s := { s with toks := s.toks + 1 }) I.ns fun h' hn2 hs2 => ?_
  obtain ⟨oD, esD, epD, hoD, hdD, hcD⟩ := hn2.count (PySem.Within.cons name v hw)
  refine wpAny_bind (wpAny_lookBehind hoD (by rw [hdD]; exact pastItsLine_dict (Nat.le_trans hcD (by rw [List.length_cons]; omega))) ?_)
  exact wpAny_pure (h _ ⟨(hs2.2 _ (Ne.symm I.ne)).trans I.obj, hn2, I.ne⟩ hs2)


theorem make_map {R : Result → Shared → Prop} {vs : List Value} {kw : List (Str × Value)} (X : K.In s.heap) (hm : PySem.W.makesIn K C = true)
    (hi : PySem.W.findIn K (.ref C) "__init__" = some (some (.ref f))) (hf : PySem.W.typeIn K (.ref f) = some (.type "function"))
    (h : codeAny (model prog w) (A.under (.builtin "type.__call__" ⟨.ref C :: vs, kw⟩)) (.call (.ref f) ⟨.ref (s.heap.objs.size + 1) :: vs, kw⟩) (PySem.W.InitBack (s.heap.objs.size + 1) R)
      { s with heap := (s.heap.push PySem.W.emptyDict).push (PySem.W.instObj C s.heap.objs.size) }) :
    codeAny (model prog w) A (.call (.ref C) ⟨vs, kw⟩) R s := by
  obtain ⟨hh, g, d, t, os⟩ := s
  exact PySem.W.make_core (PySem.W.makes_of X hm) (PySem.W.looks_findIn X hi) (fun self => PySem.W.bind_fn X self hf) (.inl rfl) h

end


noncomputable def putF (f : Str) (v : V) : List (Str × V) → List (Str × V)
  | [] => [(f, v)]
  | (g, x) :: r => if g = f then (g, v) :: r else (g, x) :: putF f v r
theorem lookup_putF (f g : Str) (v : V) : ∀ fs : List (Str × V), (putF f v fs).lookup g = if g = f then some v else fs.lookup g
  | [] => by
    show List.lookup g [(f, v)] = _
    by_cases h : g = f
    · have hb : (g == f) = true := beq_iff_eq.mpr h
      simp only [List.lookup, hb, if_pos h]
    · have hb : (g == f) = false := beq_eq_false_iff_ne.mpr h
      simp only [List.lookup, hb, if_neg h]
  | (k, x) :: r => by
    have ih := lookup_putF f g v r
    rw [show putF f v ((k, x) :: r) = (if k = f then (k, v) :: r else (k, x) :: putF f v r) from rfl]
    by_cases hk : k = f
    · rw [if_pos hk]
      by_cases h : g = k
      · have hb : (g == k) = true := beq_iff_eq.mpr h
        simp only [List.lookup, hb, if_pos (h.trans hk)]
      · have hb : (g == k) = false := beq_eq_false_iff_ne.mpr h
        simp only [List.lookup, hb, if_neg (fun e : g = f => h (e.trans hk.symm))]
    · rw [if_neg hk]
      by_cases h : g = k
      · have hb : (g == k) = true := beq_iff_eq.mpr h
        simp only [List.lookup, hb, if_neg (fun e : g = f => hk (h.symm.trans e))]
      · have hb : (g == k) = false := beq_eq_false_iff_ne.mpr h
        simp only [List.lookup, hb]
        exact ih
theorem keys_putF (f : Str) (v : V) : ∀ fs : List (Str × V), f ∈ (putF f v fs).map (·.1) ∧ ∀ g, g ∈ fs.map (·.1) → g ∈ (putF f v fs).map (·.1)
  | [] => ⟨by simp [putF], fun g h => by simp at h⟩
  | (k, x) :: r => by
    obtain ⟨i1, i2⟩ := keys_putF f v r
    rw [show putF f v ((k, x) :: r) = (if k = f then (k, v) :: r else (k, x) :: putF f v r) from rfl]
    by_cases hk : k = f
    · rw [if_pos hk]
      subst hk
      exact ⟨by simp, fun g h => by simpa using h⟩
    · rw [if_neg hk]
      refine ⟨?_, fun g h => ?_⟩
      · rw [List.map_cons]
        exact List.mem_cons_of_mem _ i1
      · rw [List.map_cons] at h ⊢
        rcases List.mem_cons.mp h with e | e
        · exact List.mem_cons.mpr (.inl e)
        · exact List.mem_cons_of_mem _ (i2 g e)
theorem length_putF (f : Str) (v : V) : ∀ fs : List (Str × V), (putF f v fs).length ≤ fs.length + 1
  | [] => by simp [putF]
  | (k, x) :: r => by
    have ih := length_putF f v r
    rw [show putF f v ((k, x) :: r) = (if k = f then (k, v) :: r else (k, x) :: putF f v r) from rfl]
    by_cases hk : k = f
    · rw [if_pos hk, List.length_cons, List.length_cons]; omega
    · rw [if_neg hk, List.length_cons, List.length_cons]; omega

theorem RelO.some_of {v : V} {o : Option Value} (r : RelO (some v) o) : ∃ u, o = some u ∧ RelV v u := by
  cases o with
  | none => exact (show False from r).elim
  | some u => exact ⟨u, rfl, r⟩
theorem RelO.none_of {o : Option Value} (r : RelO none o) : o = none := by
  cases o with
  | none => rfl
  | some u => exact (show False from r).elim
theorem handed_of {v : V} {u : Value} (r : RelV v u) : PySem.W.handedIn u = true := by
  cases v with
  | non => cases (show u = Value.none from r); rfl
  | bl b => cases (show u = Value.bool b from r); rfl
  | int i => obtain ⟨t, e⟩ := (show ∃ t, u = Value.int i t from r); cases e; rfl
  | str x => obtain ⟨t, e⟩ := (show ∃ t, u = Value.str x t from r); cases e; rfl
  | byt b => obtain ⟨t, e⟩ := (show ∃ t, u = Value.bytes b t from r); cases e; rfl
  | flt b => obtain ⟨t, e⟩ := (show ∃ t, u = Value.float b t from r); cases e; rfl
  | ref a => cases (show u = Value.ref a from r); rfl
  | ty n => cases (show u = Value.type n from r); rfl

section
variable {P : Program} {w : World} {H H' : Hp} {h h' : Heap} {a C dx : Addr} {fs fs' : List (Str × V)}
theorem ins_get (hok : HOk P w H h) (e : H a = some (.ins C dx fs)) : ∃ mA, ObjM h a dx C mA ∧ (∀ f, RelO (fs.lookup f) (mA f)) ∧ PySem.Within mA (fs.map (·.1)) ∧ fs.length ≤ 1000 ∧ H dx = some (.own a) := by
  obtain ⟨d, z, ne, ob, mA, n, r, q⟩ := (show ObjOk P w H h a (.ins C dx fs) from hok a _ e)
  exact ⟨mA, ⟨ob, n, ne⟩, r, q, z, d⟩
end


structure Cls (K : PySem.W.Frag) (C : Addr) : Prop where
  pg : PySem.W.plainGet K C Str.empty = true
  hd : PySem.W.hasDictIn K C = true
  po : PySem.W.plainOver K C = true
  sa : PySem.W.findIn K (.ref C) "__setattr__" = some (some (.builtin "object.__setattr__"))
theorem Cls.get {K : PySem.W.Frag} {C : Addr} (c : Cls K C) (f : Str) : PySem.W.plainGet K C f = true := c.pg

noncomputable def NoAttr (K : PySem.W.Frag) (C : Addr) (f : Str) : Prop := PySem.W.findIn K (.ref C) f = some none
theorem NoAttr.taker {K : PySem.W.Frag} {C : Addr} {f : Str} (n : NoAttr K C f) : PySem.W.takerIn K C f = some none := by
  unfold PySem.W.takerIn
  rw [show PySem.W.findIn K (.ref C) f = some none from n]
  rfl

structure Con (K : PySem.W.Frag) (C : Addr) (f : Str) (v : V) (u : Value) : Prop where
  at_ : PySem.W.findIn K (.ref C) f = some (some u)
  rel : RelV v u
  get : PySem.W.specialIn K u "__get__" = some none
  cp : PySem.W.copiedNames.contains f = false

structure Meth (K : PySem.W.Frag) (C : Addr) (m : Str) (f : Addr) : Prop where
  at_ : PySem.W.findIn K (.ref C) m = some (some (.ref f))
  fn : PySem.W.isFn K (.ref f) = true
  kp : PySem.W.keepIn K (.ref f) = true

section
variable {X : Cx} {pins : List (Addr × Obj)} {σ : St} {H : Hp} {s : Shared} {a C dx : Addr} {fs : List (Str × V)} {f : Str} {v : V} {A : Around} {E : Value → Shared → Prop}

theorem getattr_ok {b : Bool} {Q : Value → Shared → Prop} (I : Inv X pins σ H s) (e : H a = some (.ins C dx fs)) (c : Cls X.K C) (n : NoAttr X.K C f) (l : fs.lookup f = some v)
    (h : ∀ u s', Inv X pins σ H s' → RelV v u → Q u s') : wpAny (model X.prog X.w) A (getAttr (.ref a) f b) Q E s := by
  obtain ⟨mA, O, r, _, _, _⟩ := ins_get I.hok e
  obtain ⟨u, hu, ru⟩ := RelO.some_of (v := v) (o := mA f) (by rw [← l]; exact r f)
  exact get_map I.kIn O (c.get f) c.hd n hu (handed_of ru) (h u _ (I.tok _) ru)

theorem getmeth_ok {m : Str} {g : Addr} {pl : Sem Bool} {Q : Value × List Value → Shared → Prop} (I : Inv X pins σ H s) (e : H a = some (.ins C dx fs)) (c : Cls X.K C) (k : Meth X.K C m g) (l : fs.lookup m = none)
    (h : Q (.ref g, [.ref a]) s) : wpAny (model X.prog X.w) A (getMethod (.ref a) m pl) Q E s := by
  obtain ⟨mA, O, r, _, _, _⟩ := ins_get I.hok e
  have hn : mA m = none := RelO.none_of (by rw [← l]; exact r m)
  exact get_meth I.kIn O (c.get m) k.at_ k.fn hn h

theorem setattr_ok {y : V} {u : Value} {Q : Unit → Shared → Prop} (I : Inv X pins σ H s) (e : H a = some (.ins C dx fs)) (c : Cls X.K C) (n : NoAttr X.K C f) (hl : fs.length < 1000) (ry : RelV y u)
    (h : ∀ s', Inv X pins σ (upd H a (.ins C dx (putF f y fs))) s' → Q () s') : wpAny (model X.prog X.w) A (setAttr (.ref a) f u) Q E s := by
  obtain ⟨mA, O, r, wi, _, ho⟩ := ins_get I.hok e
  have hz : (fs.map (·.1)).length ≤ sizeLine := by rw [List.length_map, sizeLine_eq]; omega
  refine set_map I.kIn O c.sa c.po n.taker c.hd wi hz fun h' O' sb => h _ ?_
  have hd : ∃ o, h'.get? dx = some o := let ⟨o, _, _, e', _⟩ := O'.ns; ⟨o, e'⟩
  refine I.write (x := a) (e := dx) (by rw [e]; exact True.intro) (.inr ho) (fun b q hb z => (sb.2 b hb).trans z) hd ?_
  refine ⟨by rw [upd_ne O.ne]; exact ho, ?_, O.ne, O'.obj, _, O'.ns, fun g => ?_, fun g hg => ?_⟩
  · have := length_putF f y fs; omega
  · show RelO ((putF f y fs).lookup g) (if g = f then some u else mA g)
    rw [lookup_putF]
    by_cases q : g = f
    · rw [if_pos q, if_pos q]; exact ry
    · rw [if_neg q, if_neg q]; exact r g
  · by_cases q : g = f
    · rw [q]; exact (keys_putF f y fs).1
    · refine (keys_putF f y fs).2 g (wi g fun z => hg ?_)
      show (if g = f then some u else mA g) = none
      rw [if_neg q]; exact z


theorem Inv.made (I : Inv X pins σ H s) : Inv X pins σ (upd (upd H s.heap.objs.size (.own (s.heap.objs.size + 1))) (s.heap.objs.size + 1) (.ins C s.heap.objs.size []))
    { s with heap := (s.heap.push PySem.W.emptyDict).push (PySem.W.instObj C s.heap.objs.size) } := by
  have e1 : (s.heap.push PySem.W.emptyDict).get? s.heap.objs.size = some PySem.W.emptyDict := Heap.get?_push_size s.heap rfl
  have e2 : ((s.heap.push PySem.W.emptyDict).push (PySem.W.instObj C s.heap.objs.size)).get? (s.heap.objs.size + 1) = some (PySem.W.instObj C s.heap.objs.size) := by
    have := Heap.get?_push_size (s.heap.push PySem.W.emptyDict) (o := PySem.W.instObj C s.heap.objs.size) rfl
    rwa [Heap.size_push] at this
  have e3 : (s.heap.push PySem.W.emptyDict).Ns s.heap.objs.size (fun _ => none) := ⟨PySem.W.emptyDict, #[], _, e1, rfl, (fun e he => absurd he (by simp)), fun _ => rfl⟩
  have I1 := I.laid (a := s.heap.objs.size) (o := .own (s.heap.objs.size + 1)) (h' := s.heap.push PySem.W.emptyDict) (t' := s.toks) (fun b u q => Heap.get?_push_of_some _ q) (Nat.le_refl _) ⟨_, e1⟩
  refine I1.laid (a := s.heap.objs.size + 1) (o := .ins C s.heap.objs.size []) (t' := s.toks) (fun b u q => Heap.get?_push_of_some _ q) (Nat.le_of_eq (Heap.size_push _ _)) ?_
  have ne : s.heap.objs.size ≠ s.heap.objs.size + 1 := Nat.ne_of_lt (Nat.lt_succ_self _)
  refine ⟨by rw [upd_ne ne, upd_same], Nat.zero_le _, ne, e2, fun _ => none, (Heap.Ns1.of_empty e3).at fun o q => Heap.get?_push_of_some _ q, fun _ => True.intro, fun y hy => absurd rfl hy⟩


theorem attr_of {prog : Program} {w : World} {env : Env} {e : Expr} {f : Str} {pos : Pos} {s : Shared} {Q : Value → Shared → Prop} (hb : attributeBase e f env (eval e env) = eval e env)
    (h : wpAny (model prog w) A (eval e env) (fun o s₁ => wpAny (model prog w) A (getAttr o f true) Q E s₁) E s) : wpAny (model prog w) A (eval (.Attribute e f pos) env) Q E s :=
  Attribute_any_ h (by rw [arm_eval_Attribute, hb])
end



noncomputable def tFld (K : PySem.W.Frag) (ta : TE) (f : Str) : TE := fun σ H Q => ta σ H fun x H1 => ∃ a C dx fs v, x = .ref a ∧ H1 a = some (.ins C dx fs) ∧ Cls K C ∧ NoAttr K C f ∧ fs.lookup f = some v ∧ Q v H1

noncomputable def sFld (K : PySem.W.Frag) (ta tv : TE) (f : Str) : TS := fun D σ H => tv σ H fun y H1 => ta σ H1 fun x H2 => ∃ a C dx fs, x = .ref a ∧ H2 a = some (.ins C dx fs) ∧ Cls K C ∧ NoAttr K C f ∧ fs.length < 1000 ∧
  D.nx σ (upd H2 a (.ins C dx (putF f y fs)))

section
variable {X : Cx} {o e value : Expr} {f : Str} {pos pos' tpos : Pos} {ta tv : TE}
theorem pe_fld (he : PE X e ta) (hb : attributeBase e f X.env (eval e X.env) = eval e X.env) : PE X (.Attribute e f pos) (tFld X.K ta f) := by
  intro pins s σ H Q I h
  refine attr_of hb (thn (he pins s σ H _ I h) fun u s1 hh9 => ?_)
  obtain ⟨x, H1, I1, rx, a, C, dx, fs, v, ex, ea, c, n, l, q⟩ := hh9
  subst ex
  obtain rfl : u = Value.ref a := rx
  exact getattr_ok I1 ea c n l fun u' s2 I2 ru => ⟨v, H1, I2, ru, q⟩
theorem ps_fld (ha : PE X o ta) (hv : PE X value tv) (hs : swapsWith value (some (.Attribute o f pos')) pos.line X.env = pure false) : PS X (.Assign [.Attribute o f pos'] value pos) (sFld X.K ta tv f) := by
  intro pins s σ H D I h
  refine plainObj_wpAny_Assign_Attribute (thn (hv pins s σ H _ I h) fun u s1 ⟨y, H1, I1, ry, q⟩ => thn (ha pins s1 σ H1 _ I1 q) fun ov s2 hh9 => ?_) hs
  obtain ⟨x, H2, I2, rx, a, C, dx, fs, ex, ea, c, n, l, q2⟩ := hh9
  subst ex
  obtain rfl : ov = Value.ref a := rx
  exact setattr_ok I2 ea c n l ry fun s3 I3 => ⟨σ, _, I3, q2⟩
end


section
variable {X : Cx} {pins : List (Addr × Obj)} {σ : St} {H : Hp} {s : Shared} {A : Around} {E : Value → Shared → Prop} {Q : Value → Shared → Prop} {c : Value} {b : Bool}

inductive TyOf (K : PySem.W.Frag) (H : Hp) : V → Value → Prop where
  | non : TyOf K H .non (.type "NoneType")
  | bl (x : Bool) : TyOf K H (.bl x) (.type "bool")
  | int (i : Int) : TyOf K H (.int i) (.type "int")
  | str (x : Str) : TyOf K H (.str x) (.type "str")
  | flt (x : UInt64) : TyOf K H (.flt x) (.type "float")
  | lst {a : Addr} {xs : List V} (e : H a = some (.lst xs)) : TyOf K H (.ref a) (.type "list")
  | frz {a : Addr} {o : Obj} {xs : List V} (e : H a = some (.frz o (.lst xs))) : TyOf K H (.ref a) (.type "list")
  | tup {a : Addr} {xs : List V} (e : H a = some (.tup xs)) : TyOf K H (.ref a) (.type "tuple")
  | dK {a : Addr} {kvs : List (Key × V)} (e : H a = some (.dK kvs)) : TyOf K H (.ref a) (.type "dict")
  | dT {a : Addr} {kvs : List (List Key × V)} (e : H a = some (.dT kvs)) : TyOf K H (.ref a) (.type "dict")
  | ins {a C dx : Addr} {fs : List (Str × V)} (e : H a = some (.ins C dx fs)) (cl : Cls K C) (ha : PySem.W.findIn K (.ref C) "__class__" = some (some (.builtin "object.__class__")))
      (hn : PySem.W.specialIn K (.builtin "object.__class__") "__get__" = some (some (.builtin "getset_descriptor.__get__"))) (htk : PySem.W.takesIn K (.builtin "object.__class__") = some true)
      (hm : PySem.W.mroIn K C (.type "object") = some true) : TyOf K H (.ref a) (.ref C)

end
end L2

namespace L2
open PySem PySem.Spec PyProof.Rows


structure Room (k : Nat) (A : Around) : Prop where
  hd : A.handled = none
  dp : A.depth + 3 * k + 5 < recursionLimit
  un : A.units + 16 * k + 200 < cLine
theorem Room.mono {j k : Nat} {A : Around} (r : Room k A) (h : j ≤ k) : Room j A := ⟨r.hd, by have := r.dp; omega, by have := r.un; omega⟩
theorem Room.deeper {k : Nat} {A : Around} (r : Room (k + 1) A) (env : Env) : Room k (A.deeper env) :=
  ⟨r.hd, by have := r.dp; show A.depth + 1 + 3 * k + 5 < _; omega, by have := r.un; show A.units + 3 + 16 * k + 200 < _; omega⟩
theorem Room.in1 {k : Nat} {A : Around} (r : Room (k + 1) A) : Room k A.in1 :=
  ⟨r.hd, by have := r.dp; show A.depth + 3 * k + 5 < _; omega, by have := r.un; show A.units + 1 + 16 * k + 200 < _; omega⟩
theorem make_depth {A : Around} {C : Addr} {us : List Value} {kw : List (Str × Value)} : (A.under (.builtin "type.__call__" ⟨.ref C :: us, kw⟩)).depth = A.depth + 1 := by
  first | rfl | simp [Around.under, Code.weight, Code.isCreation, Code.isGuard, Code.isCaller, Code.frames, Code.isFrame, guardIds]
theorem make_units {A : Around} {C : Addr} {us : List Value} {kw : List (Str × Value)} : (A.under (.builtin "type.__call__" ⟨.ref C :: us, kw⟩)).units = A.units + 1 := by
  first | rfl | simp [Around.under, Code.cUnits, Code.frames, Code.isFrame]
theorem Room.make {k : Nat} {A : Around} (r : Room (k + 1) A) (C : Addr) (us : List Value) (kw : List (Str × Value)) : Room k (A.under (.builtin "type.__call__" ⟨.ref C :: us, kw⟩)) :=
  ⟨r.hd, by have := r.dp; rw [make_depth]; omega, by have := r.un; rw [make_units]; omega⟩
theorem Room.depth {k : Nat} {A : Around} (r : Room k A) : A.depth < recursionLimit := by have := r.dp; omega
theorem Room.units {k : Nat} {A : Around} (r : Room k A) : A.units + 64 < cLine := by have := r.un; omega
noncomputable def tNil : TA := fun _ H Q => Q [] H
noncomputable def tCons (ta : TE) (tr : TA) : TA := fun σ H Q => ta σ H fun x H1 => tr σ H1 fun xs H2 => Q (x :: xs) H2
section
variable {X : Cx} {e : Expr} {es : List Expr} {te : TE} {t : TA} {pos : Pos}
theorem pa_nil : PA X [] tNil := fun _ _ _ _ H Q I h => Calls.spliced_nil ⟨[], H, I, .nil, h⟩
theorem pa_cons (ha : PE X e te) (hr : PA X es t) (hs : starEach (e :: es) X.env = (false, eval e X.env) :: starEach es X.env := by rfl) : PA X (e :: es) (tCons te t) := by
  intro pos pins s σ H Q I h
  rw [hs]
  show wpAny _ _ (spliced ((false, eval e X.env) :: backTo pos (starEach es X.env))) _ _ s
  refine Calls.spliced_cons (thn (ha pins s σ H _ I h) fun u s1 hh9 => ?_)
  obtain ⟨x, H1, I1, r1, q1⟩ := hh9
  exact thn (hr pos pins s1 σ H1 _ I1 q1) fun us s2 hh9 => by obtain ⟨xs, H2, I2, r2, q2⟩ := hh9; exact ⟨x :: xs, H2, I2, .cons r1 r2, q2⟩


noncomputable def tTup (t : TA) : TE := fun σ H Q => t σ H fun xs H1 => xs.length ≤ sizeLine ∧ ∀ p, H1 p = none → Q (.ref p) (upd H1 p (.tup xs))
noncomputable def tLst (t : TA) : TE := fun σ H Q => t σ H fun xs H1 => xs.length ≤ sizeLine ∧ ∀ p, H1 p = none → Q (.ref p) (upd H1 p (.lst xs))
theorem pe_tup {x1} (h : PA X es t) : PE X (.Tuple es x1 pos) (tTup t) := by
  intro pins s σ H Q I hq
  refine wpAny_Tuple_spliced (thn (h pos pins s σ H _ I hq) fun us s1 ⟨xs, H1, I1, r, z, q⟩ => ⟨by rw [← r.length]; exact z, ?_⟩)
  have hf : H1 s1.heap.objs.size = none := I1.hok.fresh (Nat.le_refl _)
  refine ⟨.ref s1.heap.objs.size, upd H1 s1.heap.objs.size (.tup xs), I1.laid (t' := s1.toks) (fun b u e => Heap.get?_push_of_some _ e) (Nat.le_refl _) ?_, rfl, q _ hf⟩
  exact ⟨z, us, r, ⟨_, Heap.get?_push_size _ rfl, rfl, _, rfl⟩⟩
theorem pe_lst (h : PA X es t) : PE X (.List es pos) (tLst t) := by
  intro pins s σ H Q I hq
  refine wpAny_List_spliced (thn (h pos pins s σ H _ I hq) fun us s1 ⟨xs, H1, I1, r, z, q⟩ => ⟨by rw [← r.length]; exact z, ?_⟩)
  have hf : H1 s1.heap.objs.size = none := I1.hok.fresh (Nat.le_refl _)
  refine ⟨.ref s1.heap.objs.size, upd H1 s1.heap.objs.size (.lst xs), I1.laid (t' := s1.toks) (fun b u e => Heap.get?_push_of_some _ e) (Nat.le_refl _) ?_, rfl, q _ hf⟩
  exact ⟨z, us, 0, r, Heap.get?_push_size _ rfl⟩
end



noncomputable abbrev Sp := List V → Hp → VK → XK → Prop

noncomputable abbrev CXT := List Env → Hp → Shared → XK → Value → Shared → Prop


structure Env0 (P : Program) (w : World) (K : PySem.W.Frag) (mg : Str → Option Value) (base : Heap) (A : Around) (outer : List Env) (s : Shared) (H : Hp) : Prop where
  frames : A.frames = some outer
  mod : Mod K mg base
  bs : ∀ b o, base.get? b = some o → s.heap.get? b = some o ∧ H b = none
  bsz : base.objs.size ≤ s.heap.objs.size
  funs : s.heap.FunFrames base outer
  frf : ∀ b ∈ frs outer, H b = none
  hok : HOk P w H s.heap
  bare : AllBare s.gens

noncomputable def CE (outer : List Env) (P : Program) (w : World) (H : Hp) (s : Shared) (Q : VK) (u : Value) (s' : Shared) : Prop :=
  ∃ v H', s'.os = s.os ∧ AllBare s'.gens ∧ Un (frs outer) [] H H' s.heap s'.heap ∧ HOk P w H' s'.heap ∧ RelV v u ∧ Q v H'
noncomputable def CR (CX : CXT) (outer : List Env) (P : Program) (w : World) (H : Hp) (s : Shared) (Q : VK) (E : XK) (r : Result) (s' : Shared) : Prop :=
  match r with
  | .ok (.ret u) => CE outer P w H s Q u s'
  | .ok _ => False
  | .error e => CX outer H s E e s'
structure FnOk (P : Program) (w : World) (K : PySem.W.Frag) (mg : Str → Option Value) (base : Heap) (CX : CXT) (k : Nat) (f : Addr) (fd : FuncData) (ps : List Str) (sp : Sp) : Prop where
  len : ∀ vs H Q E, sp vs H Q E → vs.length = ps.length
  run : ∀ (A : Around) (outer : List Env) (s : Shared) (H : Hp) (args : Args) (us : List Value) (vs : List V) (Q : VK) (E : XK), Room k A → Env0 P w K mg base A outer s H → BindsTo s fd args (ps.zip us) → Vals vs us → sp vs H Q E →
    codeAny (model P w) A (.call (.ref f) args) (CR CX outer P w H s Q E) s
theorem FnOk.mono {P : Program} {w : World} {K : PySem.W.Frag} {mg : Str → Option Value} {base : Heap} {CX : CXT} {j k : Nat} {f : Addr} {fd : FuncData} {ps : List Str} {sp : Sp} (F : FnOk P w K mg base CX j f fd ps sp) (h : j ≤ k) :
    FnOk P w K mg base CX k f fd ps sp := ⟨F.len, fun A outer s H args us vs Q E hr => F.run A outer s H args us vs Q E (hr.mono h)⟩

theorem FnOk.imp {P : Program} {w : World} {K : PySem.W.Frag} {mg : Str → Option Value} {base : Heap} {CX : CXT} {k : Nat} {f : Addr} {fd : FuncData} {ps : List Str} {sp sp' : Sp} (F : FnOk P w K mg base CX k f fd ps sp)
    (h : ∀ vs H Q E, sp' vs H Q E → sp vs H Q E) : FnOk P w K mg base CX k f fd ps sp' :=
  ⟨fun vs H Q E q => F.len vs H Q E (h _ _ _ _ q), fun A outer s H args us vs Q E hr he hb hv hs => F.run A outer s H args us vs Q E hr he hb hv (h _ _ _ _ hs)⟩

theorem Env0.make {P : Program} {w : World} {K : PySem.W.Frag} {mg : Str → Option Value} {base : Heap} {A : Around} {outer : List Env} {s : Shared} {H : Hp} (e : Env0 P w K mg base A outer s H) (C : Addr) (us : List Value) (kw : List (Str × Value)) :
    Env0 P w K mg base (A.under (.builtin "type.__call__" ⟨.ref C :: us, kw⟩)) outer s H := ⟨by first | exact e.frames | (simpa [Around.under, Code.envs, Code.isFrame, pushEnvs] using e.frames), e.mod, e.bs, e.bsz, e.funs, e.frf, e.hok, e.bare⟩
theorem Env0.in1 {P : Program} {w : World} {K : PySem.W.Frag} {mg : Str → Option Value} {base : Heap} {A : Around} {outer : List Env} {s : Shared} {H : Hp} (e : Env0 P w K mg base A outer s H) :
    Env0 P w K mg base A.in1 outer s H := ⟨e.frames, e.mod, e.bs, e.bsz, e.funs, e.frf, e.hok, e.bare⟩

section
variable {X : Cx} {pins : List (Addr × Obj)} {σ : St} {H : Hp} {s s' : Shared}

theorem Inv.env0 (I : Inv X pins σ H s) : Env0 X.prog X.w X.K X.mg X.base X.A X.stack s H :=
  ⟨I.ok.frames, I.ok.mod, I.bs, Nat.le_trans I.ok.bsz I.sz, I.stack, I.stkFree, I.hok, I.bare⟩

theorem Inv.after {Q : VK} {u : Value} (I : Inv X pins σ H s) (h : CE X.stack X.prog X.w H s Q u s') : EP X pins σ Q u s' := by
  obtain ⟨v, H', os, bare, un, hok, r, q⟩ := h
  obtain ⟨hh, g, d, t, os'⟩ := s'
  obtain rfl : os' = s.os := os
  exact ⟨v, H', I.call (h' := hh) (g' := g) (d' := d) (t' := t) (ch := []) un hok bare (fun b z => absurd z (by simp)), r, q⟩
end



noncomputable def tCall (sp : Sp) (dvs : List V) (E : XK) (t : TA) : TE := fun σ H Q => t σ H fun vs H1 => sp (vs ++ dvs) H1 Q E

noncomputable def tMeth (C : Addr) (m : Str) (sp : Sp) (dvs : List V) (E : XK) (ta : TE) (t : TA) : TE := fun σ H Q => ta σ H fun x H1 => ∃ a dx fs, x = .ref a ∧ H1 a = some (.ins C dx fs) ∧ fs.lookup m = none ∧
  t σ H1 fun vs H2 => sp (x :: (vs ++ dvs)) H2 Q E

noncomputable def tMake (C : Addr) (sp : Sp) (dvs : List V) (E : XK) (t : TA) : TE := fun σ H Q => t σ H fun vs H1 => ∀ x dx, H1 x = none → H1 dx = none → dx ≠ x →
  sp (.ref x :: (vs ++ dvs)) (upd (upd H1 dx (.own x)) x (.ins C dx [])) (fun v H2 => v = .non ∧ Q (.ref x) H2) E


noncomputable def Binds (K : PySem.W.Frag) (fd : FuncData) (ps : List Str) (ds : List Value) : Prop :=
  ∀ (s : Shared) (us : List Value), K.In s.heap → (us ++ ds).length = ps.length → BindsTo s fd ⟨us, []⟩ (ps.zip (us ++ ds))

theorem Binds.all {K : PySem.W.Frag} {fd : FuncData} {ps : List Str} (h : ∀ us : List Value, us.length = ps.length → bindArgs fd ⟨us, []⟩ = pure (ps.zip us)) : Binds K fd ps [] := fun s us _ hl => by
  rw [List.append_nil] at hl ⊢
  exact .of_eq (h us hl)


noncomputable def Passes (CX : CXT) (X : Cx) (E : XK) : Prop := ∀ (pins : List (Addr × Obj)) (σ : St) (H : Hp) (s : Shared) (e : Value) (s' : Shared), Inv X pins σ H s → CX X.stack H s E e s' → X.xe e s'

section
variable {X : Cx} {CX : CXT} {k : Nat} {f C : Addr} {fd : FuncData} {ps : List Str} {sp : Sp} {dvs : List V} {ds : List Value} {E : XK} {x m : Str} {p pos apos : Pos} {e o : Expr} {es : List Expr} {ta : TE} {t : TA}


theorem run_fn {pins : List (Addr × Obj)} {σ : St} {H : Hp} {s : Shared} {Q : VK} {us : List Value} {vs : List V} (F : FnOk X.prog X.w X.K X.mg X.base CX k f fd ps sp) (hr : Room k X.A) (hb : Binds X.K fd ps ds) (hd : Vals dvs ds) (hx : Passes CX X E)
    (I : Inv X pins σ H s) (r : Vals vs us) (h : sp (vs ++ dvs) H Q E) : wpAny (model X.prog X.w) X.A (call (.ref f) us) (EP X pins σ Q) X.xe s := by
  have r2 : Vals (vs ++ dvs) (us ++ ds) := r.append hd
  have hl : (us ++ ds).length = ps.length := by rw [← r2.length]; exact F.len _ _ _ _ h
  refine wpAny_call (codeAny_mono (F.run X.A X.stack s H ⟨us, []⟩ (us ++ ds) (vs ++ dvs) Q E hr I.env0 (hb s us I.kIn hl) r2 h) fun r s' hq => ?_)
  cases r with
  | error e => exact hx pins σ H s e s' I hq
  | ok fl =>
    cases fl with
    | ret u => exact I.after hq
    | next => exact False.elim hq
    | brk => exact False.elim hq
    | cont => exact False.elim hq

theorem pe_call (F : FnOk X.prog X.w X.K X.mg X.base CX k f fd ps sp) (hr : Room k X.A) (hg : Gl X x) (hm : X.mg x = some (.ref f)) (hk : PySem.W.keepIn X.K (.ref f) = true) (hb : Binds X.K fd ps ds) (hd : Vals dvs ds) (hx : Passes CX X E)
    (ha : PA X (e :: es) t) (hdb : (x == ("__debug__" : Str)) = false := by decide) (he : starEach (e :: es) X.env = (false, eval e X.env) :: starEach es X.env := by rfl) (hpl : (backTo pos (starEach es X.env)).any (·.1) = false := by rfl) :
    PE X (.Call (.Name x p) (e :: es) [] pos) (tCall sp dvs E t) := by
  intro pins s σ H Q I h
  refine wpAny_Call_Name_kw (ld_glob I hg hm ?_ hdb)
  refine PySem.W.callWith_K (h₀ := X.base) I.ok.mod.kin hk (thn (ha pos pins s σ H _ I h) fun us s1 ⟨vs, H1, I1, r, q⟩ => ⟨I1.kIn, ?_⟩) he hpl
  exact run_fn F hr hb hd hx I1 r q
theorem pe_meth {pl : Sem Bool} (he : PE X o ta) (c : Cls X.K C) (hm : Meth X.K C m f) (F : FnOk X.prog X.w X.K X.mg X.base CX k f fd ps sp) (hr : Room k X.A) (hb : Binds X.K fd ps ds) (hd : Vals dvs ds) (hx : Passes CX X E) (ha : PA X (e :: es) t)
    (hst : starEach (e :: es) X.env = (false, eval e X.env) :: starEach es X.env := by rfl) (hpl : (backTo pos (starEach es X.env)).any (·.1) = false := by rfl)
    (ht : eval (.Call (.Attribute o m apos) (e :: es) [] pos) X.env = (do
      let ov ← eval o X.env
      standAt apos.atName
      let (f, first) ← holding [ov] (getMethod ov m pl)
      callWith pos f first (backTo pos (starEach (e :: es) X.env)) (backToKw pos (keywordEach [] X.env))) := by rfl) :
    PE X (.Call (.Attribute o m apos) (e :: es) [] pos) (tMeth C m sp dvs E ta t) := by
  intro pins s σ H Q I h
  refine PySem.W.methodCall_KW (pl := pl) (thn (he pins s σ H _ I h) fun u s1 hh9 => ?_) ht
  obtain ⟨x, H1, I1, rx, a, dx, fs, ex, ea, l, q⟩ := hh9
  subst ex
  obtain rfl : u = Value.ref a := rx
  refine getmeth_ok I1 ea c hm l ?_
  refine PySem.W.callWith_K (first := [.ref a]) (h₀ := X.base) I.ok.mod.kin hm.kp (thn (ha pos pins s1 σ H1 _ I1 q) fun us s2 ⟨vs, H2, I2, r, q2⟩ => ⟨I2.kIn, ?_⟩) hst hpl
  exact run_fn (us := .ref a :: us) (vs := .ref a :: vs) F hr hb hd hx I2 (.cons rfl r) q2

theorem pe_meth0 {pl : Sem Bool} (he : PE X o ta) (c : Cls X.K C) (hm : Meth X.K C m f) (F : FnOk X.prog X.w X.K X.mg X.base CX k f fd ps sp) (hr : Room k X.A) (hb : Binds X.K fd ps ds) (hd : Vals dvs ds) (hx : Passes CX X E)
    (ht : eval (.Call (.Attribute o m apos) [] [] pos) X.env = (do
      let ov ← eval o X.env
      standAt apos.atName
      let (f, first) ← holding [ov] (getMethod ov m pl)
      callWith pos f first (backTo pos (starEach [] X.env)) (backToKw pos (keywordEach [] X.env))) := by rfl) :
    PE X (.Call (.Attribute o m apos) [] [] pos) (tMeth C m sp dvs E ta tNil) := by
  intro pins s σ H Q I h
  refine PySem.W.methodCall_KW (pl := pl) (thn (he pins s σ H _ I h) fun u s1 hh9 => ?_) ht
  obtain ⟨x, H1, I1, rx, a, dx, fs, ex, ea, l, q⟩ := hh9
  subst ex
  obtain rfl : u = Value.ref a := rx
  refine getmeth_ok I1 ea c hm l ?_
  exact PySem.W.callWith_K0 (first := [.ref a]) I1.kIn hm.kp (run_fn (us := [.ref a]) (vs := [.ref a]) F hr hb hd hx I1 (.cons rfl .nil) q)


structure Mk (K : PySem.W.Frag) (C f : Addr) : Prop where
  makes : PySem.W.makesIn K C = true
  init : PySem.W.findIn K (.ref C) "__init__" = some (some (.ref f))
  fn : PySem.W.isFn K (.ref f) = true
  kp : PySem.W.keepIn K (.ref C) = true

end



section
variable {X : Cx} {CX : CXT} {k : Nat} {f C : Addr} {fd : FuncData} {ps ks : List Str} {sp : Sp} {E : XK} {x m : Str} {p pos apos kpos : Pos} {e o : Expr} {es : List Expr} {kws : List Keyword} {te ta : TE} {t tk : TA} {nm : Option Str}
structure KBinds (K : PySem.W.Frag) (fd : FuncData) (ps ks : List Str) (g : List Value → List Value → List Value) (gV : List V → List V → List V) : Prop where
  to : ∀ (s : Shared) (us ws : List Value), K.In s.heap → (g us ws).length = ps.length → BindsTo s fd ⟨us, ks.zip ws⟩ (ps.zip (g us ws))
  rel : ∀ {vs : List V} {us : List Value} {zs : List V} {ws : List Value}, Vals vs us → Vals zs ws → Vals (gV vs zs) (g us ws)
variable {g : List Value → List Value → List Value} {gV : List V → List V → List V}
end



structure FnScope (N P : List Str) (sc : Scope) : Prop where
  kind : sc.kind = .function
  co : sc.isCoroutine = false
  gen : sc.isGenerator = false
  nd : N.Nodup
  pre : N.take P.length = P
  par : ∀ x ∈ P, sc.names.lookup x = some .local ∨ sc.names.lookup x = some .cell
  nofree : ∀ y ∈ sc.names, y.2 ≠ .free

theorem bindL_out {kindOf : Str → Option NameKind} {x : Str} : ∀ {binds : List (Str × Value)} {m : Str → Option Value}, (∀ v, (x, v) ∉ binds) → bindL kindOf binds m x = m x
  | [], _, _ => rfl
  | (n, v) :: r, m, h => by
    unfold bindL
    rw [bindL_out fun w hw => h w (List.mem_cons_of_mem _ hw)]
    split
    · have : x ≠ n := by rintro rfl; exact h v List.mem_cons_self
      simp [this]
    · rfl
theorem bindC_out {kindOf : Str → Option NameKind} {x : Str} : ∀ {binds : List (Str × Value)} {m : Str → Option Value}, (∀ v, (x, v) ∉ binds) → bindC kindOf binds m x = m x
  | [], _, _ => rfl
  | (n, v) :: r, m, h => by
    unfold bindC
    rw [bindC_out fun w hw => h w (List.mem_cons_of_mem _ hw)]
    split
    · rfl
    · have : x ≠ n := by rintro rfl; exact h v List.mem_cons_self
      simp [this]
theorem bindL_get {kindOf : Str → Option NameKind} {x : Str} {v : Value} : ∀ {P : List Str} {vs : List Value} {i : Nat} {m : Str → Option Value}, P.Nodup → P[i]? = some x → vs[i]? = some v → kindOf x = some .local →
    bindL kindOf (P.zip vs) m x = some v
  | [], _, _, _, _, h, _, _ => by simp at h
  | _ :: _, [], _, _, _, _, h, _ => by simp at h
  | p :: P, w :: vs, 0, m, nd, h1, h2, hk => by
    simp at h1 h2; subst h1; subst h2
    show bindL kindOf ((p, w) :: P.zip vs) m p = _
    unfold bindL
    rw [bindL_out fun v hv => (List.nodup_cons.mp nd).1 (List.of_mem_zip hv).1, if_pos hk]
    simp
  | p :: P, w :: vs, i + 1, m, nd, h1, h2, hk => by
    show bindL kindOf ((p, w) :: P.zip vs) m x = _
    unfold bindL
    exact bindL_get (i := i) (List.nodup_cons.mp nd).2 (by simpa using h1) (by simpa using h2) hk
theorem bindC_get {kindOf : Str → Option NameKind} {x : Str} {v : Value} : ∀ {P : List Str} {vs : List Value} {i : Nat} {m : Str → Option Value}, P.Nodup → P[i]? = some x → vs[i]? = some v → kindOf x ≠ some .local →
    bindC kindOf (P.zip vs) m x = some v
  | [], _, _, _, _, h, _, _ => by simp at h
  | _ :: _, [], _, _, _, _, h, _ => by simp at h
  | p :: P, w :: vs, 0, m, nd, h1, h2, hk => by
    simp at h1 h2; subst h1; subst h2
    show bindC kindOf ((p, w) :: P.zip vs) m p = _
    unfold bindC
    rw [bindC_out fun v hv => (List.nodup_cons.mp nd).1 (List.of_mem_zip hv).1, if_neg hk]
    simp
  | p :: P, w :: vs, i + 1, m, nd, h1, h2, hk => by
    show bindC kindOf ((p, w) :: P.zip vs) m x = _
    unfold bindC
    exact bindC_get (i := i) (List.nodup_cons.mp nd).2 (by simpa using h1) (by simpa using h2) hk


noncomputable def start (N : List Str) (vs : List V) : St := vs.map some ++ List.replicate (N.length - vs.length) none


noncomputable def cxOf (CX : CXT) (P : Program) (w : World) (K : PySem.W.Frag) (mg : Str → Option Value) (base : Heap) (N : List Str) (qual : Str) (scope : Scope) (f : Addr) (cd : Value) (A : Around) (outer : List Env) (s : Shared) (H : Hp) (E : XK) : Cx where
  prog := P
  w := w
  K := K
  mg := mg
  base := base
  A := A.deeper (envOfC qual scope s.heap.objs.size f cd)
  N := N
  s₀ := s
  H₀ := H
  env := envOfC qual scope s.heap.objs.size f cd
  outer := outer
  stack := envOfC qual scope s.heap.objs.size f cd :: outer
  ex := []
  calm := true
  fn := fun _ => true
  pn := []
  xe := fun e s' => wpAny (model P w) (A.deeper (envOfC qual scope s.heap.objs.size f cd)) (leaving (envOfC qual scope s.heap.objs.size f cd) e) (fun _ s'' => CX outer H s E e s'') (fun e' s'' => CX outer H s E e' s'') s'

theorem cell_has {sc : Scope} {n : Nat} {x : Str} (h : sc.names.lookup x = some .cell) : ∃ c, (cellsFrom n sc.names []).lookup x = some c := by
  have q := PySem.W.cellsFrom_some sc.names n [] (.inl h)
  exact Option.isSome_iff_exists.mp q

theorem inv_start {CX : CXT} {P : Program} {w : World} {K : PySem.W.Frag} {mg : Str → Option Value} {base : Heap} {N ps : List Str} {qual : Str} {scope : Scope} {f : Addr} {cd : Value} {A : Around} {outer : List Env} {s s1 : Shared} {H : Hp} {E : XK} {us : List Value} {vs : List V}
    (S : FnScope N ps scope) (hd : A.handled = none) (e0 : Env0 P w K mg base A outer s H) (hl : vs.length = ps.length) (r : Vals vs us)
    (x : InCallC s s.heap.objs.size (bindL (envOfC qual scope s.heap.objs.size f cd).kindOf (ps.zip us) fun _ => none) (cellsFrom (s.heap.objs.size + 1) scope.names []) (bindC (envOfC qual scope s.heap.objs.size f cd).kindOf (ps.zip us) fun _ => none) s1) :
    Inv (cxOf CX P w K mg base N qual scope f cd A outer s H E) [] (start N vs) H s1 := by
  have hpl : ps.length ≤ N.length := by have := congrArg List.length S.pre; rw [List.length_take] at this; omega
  obtain ⟨h1, tk, rfl, hk⟩ := x.done
  have noA : ∀ b : Addr, b ∉ (cxOf CX P w K mg base N qual scope f cd A outer s H E).ex := fun b z => absurd (show b ∈ ([] : List Addr) from z) (by simp)
  refine ⟨⟨e0.mod, S.kind, rfl, rfl, Nat.le_refl _, fun y z c h1 h2 => ?_, fun y hy => ?_, fun y c _ h => ?_, fun _ => hd, Around.frames_deeper e0.frames, .inr ⟨rfl, rfl⟩, fun b z => absurd z (noA b), e0.bs, e0.bsz, fun b _ _ => noA b, fun b z => absurd z (noA b), e0.funs, e0.frf⟩,
    rfl, e0.bare, Un.kept hk, ⟨_, x.toInCall.ns, fun i y v h1 h2 h3 => ?_⟩, fun y c h => ⟨_, x.cell y c h⟩, e0.hok.fresh (Nat.le_refl _), fun y c h => ?_, fun p hp => absurd (show p ∈ ([] : List (Addr × Obj)) from hp) (by simp), e0.hok.kept hk, ?_⟩
  · exact name_of_addr x.apart (PySem.mem_of_lookup h1) (PySem.mem_of_lookup h2)
  · have hy : scope.names.lookup y = some .cell ∨ scope.names.lookup y = some .free := hy
    rcases hy with hy | hy
    · exact cell_has hy
    · exact absurd rfl (S.nofree _ (PySem.mem_of_lookup hy))
  · exact Nat.le_of_lt (x.above y c (PySem.mem_of_lookup h))
  · have hi : i < vs.length := by
      unfold start at h2
      by_cases hi : i < vs.length
      · exact hi
      · rw [List.getElem?_append_right (by simpa using hi)] at h2
        rw [List.getElem?_replicate] at h2
        split at h2 <;> cases h2
    have ha : vs[i]? = some v := by
      unfold start at h2
      rw [List.getElem?_append_left (by simpa using hi), List.getElem?_map] at h2
      cases e : vs[i]? with
      | none => rw [e] at h2; cases h2
      | some a => rw [e] at h2; cases h2; rfl
    obtain ⟨u, hu, rv⟩ := r.get ha
    have hp : ps[i]? = some y := by
      rw [← S.pre, List.getElem?_take_of_lt (by omega)]; exact h1
    have ndP : ps.Nodup := by rw [← S.pre]; exact S.nd.sublist (List.take_sublist _ _)
    refine ⟨u, rv, ?_⟩
    rcases S.par y (List.mem_of_getElem? hp) with k | k
    · exact .inl ⟨k, bindL_get ndP hp hu k⟩
    · obtain ⟨c, e⟩ := cell_has (n := s.heap.objs.size + 1) k
      refine .inr ⟨.inl k, c, e, ?_⟩
      have q := x.cell y c e
      rw [bindC_get ndP hp hu (by show scope.names.lookup y ≠ _; rw [k]; decide)] at q
      exact q
  · exact e0.hok.fresh (Nat.le_of_lt (x.above y c (PySem.mem_of_lookup h)))
  · unfold start
    show _ = N.length
    rw [List.length_append, List.length_map, List.length_replicate]
    omega


theorem fn_of {CX : CXT} {P : Program} {w : World} {K : PySem.W.Frag} {mg : Str → Option Value} {base : Heap} {k : Nat} {f : Addr} {name qual : Str} {params : Arguments} {body : List Stmt} {scope : Scope} {dV kV doc pm cdv ct oc : Value} {an od : Option Addr}
    {osl : Array (Option Value)} {N ps : List Str} {sp : Sp} (lk : K.lookup f = some ⟨oc, od, .func (PySem.W.fnOf name qual params body scope dV kV doc pm an cdv ct), osl⟩) (hcd : PySem.W.codeIn K cdv qual = true) (S : FnScope N ps scope)
    (len : ∀ vs H Q E, sp vs H Q E → vs.length = ps.length)
    (hbody : ∀ (A : Around) (outer : List Env) (s : Shared) (H : Hp) (vs : List V) (Q : VK) (E : XK), Room k (A.deeper (envOfC qual scope s.heap.objs.size f cdv)) → sp vs H Q E →
      ∃ t, PSs (cxOf CX P w K mg base N qual scope f cdv A outer s H E) body t ∧ t { nx := fun _ H' => Q .non H', rt := Q } (start N vs) H) :
    FnOk P w K mg base CX (k + 1) f (PySem.W.fnOf name qual params body scope dV kV doc pm an cdv ct) ps sp := by
  refine ⟨len, fun A outer s H args us vs Q E hr e0 hb r hsp => ?_⟩
  have hl := len _ _ _ _ hsp
  have KX : K.In s.heap := e0.mod.kin.keeps fun b o e => (e0.bs b o e).1
  have lim : s.heap.NoLimit := e0.mod.nolimit.keeps fun b o e => (e0.bs b o e).1
  have hkind : ∀ y ∈ ps.zip us, scope.names.lookup y.1 = some .local ∨ (scope.names.lookup y.1 = some .cell ∧ ((cellsFrom (s.heap.objs.size + 1) scope.names []).lookup y.1).isSome = true) := fun ⟨n, v⟩ hy => by
    rcases S.par n (List.of_mem_zip hy).1 with q | q
    · exact .inl q
    · exact .inr ⟨q, PySem.W.cellsFrom_some _ _ _ (.inl q)⟩
  refine codeAny_call_function hr.depth (KX _ _ lk) rfl S.co S.gen rfl (PySem.W.codeRec_of KX hcd) (hb _ _ _ _ ?_)
  refine wpAny_newFunctionEnv_cells S.kind hkind fun env he s1 x => ?_
  subst he
  refine ⟨lim.keeps x.toInCall.keep, codeAny_func ?_⟩
  obtain ⟨t, ht, hq⟩ := hbody A outer s H vs Q E (hr.deeper _) hsp
  have I : Inv (cxOf CX P w K mg base N qual scope f cdv A outer s H E) [] (start N vs) H s1 := inv_start S hr.hd e0 hl r x
  refine wpAny_mono (ht [] s1 (start N vs) H _ I hq) (fun fl s' hs => ?_) fun e s' hs => hs
  have fin : ∀ {σ' : St} {H' : Hp} {v : V} {u : Value}, Inv (cxOf CX P w K mg base N qual scope f cdv A outer s H E) [] σ' H' s' → RelV v u → Q v H' → CE outer P w H s Q u s' :=
    fun {σ' H' v u} J rv q => ⟨v, H', J.os, J.bare, J.base, J.hok, rv, q⟩
  cases fl with
  | ret u =>
    obtain ⟨v, σ', H', J, rv, q⟩ := hs
    exact fin J rv q
  | next =>
    obtain ⟨σ', H', J, q⟩ := hs
    exact fin (v := V.non) (u := Value.none) J rfl q
  | brk =>
    obtain ⟨_, _, _, q⟩ := hs
    exact False.elim q
  | cont =>
    obtain ⟨_, _, _, q⟩ := hs
    exact False.elim q
end L2

namespace L2
open PySem PySem.Spec PyProof.Rows
section
variable {X : Cx} {x : Str} {p pos : Pos} {e : Expr} {es : List Expr} {t : TA} {id T : String} {r : List V → Hp → VK → Prop}

noncomputable def tCB (r : List V → Hp → VK → Prop) (t : TA) : TE := fun σ H Q => t σ H fun vs H1 => r vs H1 Q

theorem pe_callB (hc : CallR X (.builtin id) r) (hg : Gl X x) (hm : X.mg x = none) (hv : bootBuiltins x = some (.builtin id)) (ha : PA X (e :: es) t) (hn : x ≠ "__name__" := by decide) (hdb : (x == ("__debug__" : Str)) = false := by decide)
    (he : starEach (e :: es) X.env = (false, eval e X.env) :: starEach es X.env := by rfl) (hpl : (backTo pos (starEach es X.env)).any (·.1) = false := by rfl) : PE X (.Call (.Name x p) (e :: es) [] pos) (tCB r t) := by
  intro pins s σ H Q I h
  refine wpAny_Call_Name_kw (ld_blt I hg hm hv ?_ hn hdb)
  exact PyProof.Rows.callWith_builtin1 (thn (ha pos pins s σ H _ I h) fun us s1 hh9 => by obtain ⟨vs, H1, I1, r1, q1⟩ := hh9; exact hc pins s1 σ H1 vs us Q I1 r1 q1) he hpl

theorem pe_callTy (hc : CallR X (.type T) r) (hg : Gl X x) (hm : X.mg x = none) (hv : bootBuiltins x = some (.type T)) (ha : PA X (e :: es) t) (hn : x ≠ "__name__" := by decide) (hdb : (x == ("__debug__" : Str)) = false := by decide)
    (he : starEach (e :: es) X.env = (false, eval e X.env) :: starEach es X.env := by rfl) (hpl : (backTo pos (starEach es X.env)).any (·.1) = false := by rfl) : PE X (.Call (.Name x p) (e :: es) [] pos) (tCB r t) := by
  intro pins s σ H Q I h
  refine wpAny_Call_Name_kw (ld_blt I hg hm hv ?_ hn hdb)
  exact PyProof.Rows.callWith_type1 (thn (ha pos pins s σ H _ I h) fun us s1 hh9 => by obtain ⟨vs, H1, I1, r1, q1⟩ := hh9; exact hc pins s1 σ H1 vs us Q I1 r1 q1) he hpl

end
end L2

namespace HT
open PySem PyProof.Rows


noncomputable def lexLt : List Int → List Int → Bool
  | [], [] => false
  | [], _ :: _ => true
  | _ :: _, [] => false
  | x :: xs, y :: ys => if x = y then lexLt xs ys else decide (x < y)
section
open PySem.SeqAt
open PySem.AutoSeq1 (wpAny_loadPart')
open PySem.MeetsSeq PySem.MeetsSeq2 PySem.MeetsSeq3

end

section
variable {prog : Program} {w : World} {A : Around} {E : Value → Shared → Prop} {s : Shared}

noncomputable def sIx (n d : Nat) : Option Int → Nat
  | none => d
  | some v => if v < 0 then (v + (n : Int)).toNat else min v.toNat n
end
end HT

namespace L2
open PySem PySem.Spec PyProof.Rows


noncomputable abbrev TO := St → Hp → (Option Int → Hp → Prop) → Prop

noncomputable def PO (X : Cx) (e : Option Expr) (t : TO) : Prop :=
  ∀ (pins : List (Addr × Obj)) (s : Shared) (σ : St) (H : Hp) (Q : Option Int → Hp → Prop), Inv X pins σ H s → t σ H Q →
    wpAny (model X.prog X.w) X.A (evalPart e X.env) (fun u s' => ∃ o H', Inv X pins σ H' s' ∧ IsPart u o ∧ Q o H') X.xe s
noncomputable def tNoPart : TO := fun _ H Q => Q none H
noncomputable def tPart (t : TE) : TO := fun σ H Q => t σ H fun x H1 => ∃ i, x = .int i ∧ Q (some i) H1

theorem intsAre_of {ns : List Int} : ∀ {us : List Value}, Vals (ns.map V.int) us → IntsAre us ns := by
  induction ns with
  | nil => intro us r; rw [List.map_nil] at r; cases r; exact .nil
  | cons n ns ih =>
    intro us r
    rw [List.map_cons] at r
    cases r with
    | cons r1 r2 =>
      obtain ⟨t, e⟩ := r1
      subst e
      exact .cons n t (ih r2)

section
variable {X : Cx} {e : Expr} {te : TE} {lo hi : Option Expr} {tl th : TO} {pos p2 : Pos}

theorem po_none : PO X none tNoPart := by
  intro pins s σ H Q I h
  rw [evalPart_none]
  exact wpAny_pure ⟨none, H, I, .none, h⟩
theorem po_some (h : PE X e te) : PO X (some e) (tPart te) := by
  intro pins s σ H Q I hw
  rw [evalPart_some]
  refine thn (h pins s σ H _ I hw) fun u s1 hh9 => ?_
  obtain ⟨x, H1, I1, r1, q1⟩ := hh9
  obtain ⟨i, rfl, q⟩ := q1
  obtain ⟨t, rfl⟩ := r1
  exact ⟨some i, H1, I1, .int i t, q⟩


noncomputable def SlR (X : Cx) (r : V → Option Int → Option Int → Hp → VK → Prop) : Prop :=
  ∀ (pins : List (Addr × Obj)) (s : Shared) (σ : St) (H : Hp) (x : V) (v vl vu : Value) (lo hi : Option Int) (sl : Addr) (Q : VK), Inv X pins σ H s → RelV x v → s.heap.IsSliceOf sl vl vu .none → IsPart vl lo → IsPart vu hi → r x lo hi H Q →
    ∃ T id, typeLookup (.type T) "__getitem__" = pure (some (.builtin id)) ∧ s.TypeIs v T ∧ wpAny (model X.prog X.w) X.A (getItem v (.ref sl)) (EP X pins σ Q) X.xe s
noncomputable def tSl (r : V → Option Int → Option Int → Hp → VK → Prop) (te : TE) (tl th : TO) : TE := fun σ H Q => te σ H fun x H1 => tl σ H1 fun l H2 => th σ H2 fun u H3 => r x l u H3 Q

theorem pe_slice {r : V → Option Int → Option Int → Hp → VK → Prop} (hr : SlR X r) (he : PE X e te) (hl : PO X lo tl) (hu : PO X hi th) : PE X (.Subscript e (.Slice lo hi none p2) pos) (tSl r te tl th) := by
  intro pins s σ H Q I h
  refine Subscript_ (thn (he pins s σ H _ I h) fun v s1 hh9 => ?_)
  obtain ⟨x, H1, I1, r1, q1⟩ := hh9
  refine wpAny_Slice (thn (hl pins s1 σ H1 _ I1 q1) fun vl s2 ⟨l, H2, I2, pl, q2⟩ => thn (hu pins s2 σ H2 _ I2 q2) fun vu s3 hh9 => ?_)
  obtain ⟨u, H3, I3, pu, q3⟩ := hh9
  rw [evalPart_none]
  refine wpAny_pure ?_
  have I4 : Inv X pins σ H3 { s3 with heap := s3.heap.push { cls := .type "slice", data := .fields #[vl, vu, .none] } } := I3.kept (t' := s3.toks) fun b ob q => Heap.get?_push_of_some _ q
  obtain ⟨T, id, hT, ht, hg⟩ := hr pins { s3 with heap := s3.heap.push { cls := .type "slice", data := .fields #[vl, vu, .none] } } σ H3 x v vl vu l u s3.heap.objs.size Q I4 r1 (Heap.IsSliceOf.new ..) pl pu q3
  show wpAny (model X.prog X.w) X.A (subscriptTail e (.Slice lo hi none p2) v (.ref s3.heap.objs.size)) (EP X pins σ Q) X.xe { s3 with heap := s3.heap.push { cls := .type "slice", data := .fields #[vl, vu, .none] } }
  exact tail_any (ops := [.ref s3.heap.objs.size, v]) ht hT hg (by with_unfolding_all rfl)


noncomputable def cutV (xs : List V) (lo hi : Option Int) : List V := (xs.drop (HT.sIx xs.length 0 lo)).take (HT.sIx xs.length xs.length hi - HT.sIx xs.length 0 lo)
theorem cutV_length (xs : List V) (lo hi : Option Int) : (cutV xs lo hi).length ≤ xs.length := by
  unfold cutV
  rw [List.length_take, List.length_drop]
  omega

end
end L2

namespace L2
open PySem PySem.Spec PyProof.Rows



noncomputable def ixN (n : Nat) (i : Int) : Option Nat := if 0 ≤ i then (if i < n then some i.toNat else none) else if -(n : Int) ≤ i then some (i + n).toNat else none
noncomputable def atI {α : Type} (xs : List α) (i : Int) : Option α := (ixN xs.length i).bind fun j => xs[j]?
theorem ixN_seq {n : Nat} {i : Int} {j : Nat} (h : ixN n i = some j) : seqIndex? i n = some j ∧ j < n ∧ -(n : Int) ≤ i ∧ i < n := by
  unfold ixN at h
  by_cases h0 : 0 ≤ i
  · rw [if_pos h0] at h
    by_cases h1 : i < n
    · rw [if_pos h1] at h
      have e : i.toNat = j := Option.some.inj h
      exact ⟨by rw [seqIndex_of h0 h1, e], by omega, by omega, h1⟩
    · rw [if_neg h1] at h; cases h
  · rw [if_neg h0] at h
    by_cases h1 : -(n : Int) ≤ i
    · rw [if_pos h1] at h
      have e : (i + n).toNat = j := Option.some.inj h
      exact ⟨by rw [seqIndex_neg (by omega) h1, e], by omega, h1, by omega⟩
    · rw [if_neg h1] at h; cases h
theorem atI_get {α : Type} {xs : List α} {i : Int} {v : α} (h : atI xs i = some v) : ∃ j, seqIndex? i xs.length = some j ∧ xs[j]? = some v ∧ j < xs.length ∧ -(xs.length : Int) ≤ i ∧ i < xs.length := by
  unfold atI at h
  cases e : ixN xs.length i with
  | none => rw [e] at h; cases h
  | some j =>
    rw [e] at h
    obtain ⟨h1, h2, h3, h4⟩ := ixN_seq e
    exact ⟨j, h1, h, h2, h3, h4⟩
theorem atI_nat {α : Type} {xs : List α} {j : Nat} {v : α} (h : xs[j]? = some v) : atI xs (j : Int) = some v := by
  have hj : j < xs.length := (List.getElem?_eq_some_iff.mp h).1
  have e : ixN xs.length (j : Int) = some j := by
    unfold ixN
    rw [if_pos (by omega), if_pos (by omega)]; simp
  unfold atI; rw [e]; exact h
noncomputable def PlainIx (b : Expr) : Prop := ∀ o i, subscripted b false o i = operate [o, i] (getItem o i)

noncomputable def IxR (X : Cx) (r : R2) : Prop :=
  ∀ (value slice : Expr) (pins : List (Addr × Obj)) (s : Shared) (σ : St) (H : Hp) (x y : V) (v u : Value) (Q : VK), Inv X pins σ H s → RelV x v → RelV y u → r x y H Q →
    subscripted slice false v u = operate [v, u] (getItem v u) → wpAny (model X.prog X.w) X.A (subscriptTail value slice v u) (EP X pins σ Q) X.xe s

noncomputable def MtR (X : Cx) (id : String) (r : V → List V → Hp → VK → Prop) : Prop :=
  ∀ (pins : List (Addr × Obj)) (s : Shared) (σ : St) (H : Hp) (x : V) (xs : List V) (v : Value) (us : List Value) (Q : VK), Inv X pins σ H s → RelV x v → Vals xs us → r x xs H Q →
    wpAny (model X.prog X.w) X.A (call (.builtin id) (v :: us)) (EP X pins σ Q) X.xe s
section
variable {X : Cx} {a b : Expr} {ta tb : TE} {pos : Pos}
theorem pe_ix {r : R2} (hr : IxR X r) (ha : PE X a ta) (hb : PE X b tb) (hs : PlainIx b) : PE X (.Subscript a b pos) (tOp r ta tb) := by
  intro pins s σ H Q I h
  exact Subscript_ (binT ha hb I h fun v u s2 x y H2 I2 rx ry q => hr a b pins s2 σ H2 x y v u Q I2 rx ry q (hs _ _))

noncomputable def rIxL (K : PySem.W.Frag) : R2 := fun x y H Q => ∃ p xs i v, x = .ref p ∧ y = .int i ∧ SqL K H p xs ∧ atI xs i = some v ∧ Q v H
theorem ix_list : IxR X (rIxL X.K) := by
  intro value slice pins s σ H x y v u Q I rx ry h hs
  obtain ⟨p, xs, i, z, rfl, rfl, hq, he, q⟩ := h
  cases rx
  obtain ⟨t, rfl⟩ := ry
  obtain ⟨its, r, pl, hz⟩ := I.list hq
  obtain ⟨j, h1, h2, h3, h4, h5⟩ := atI_get he
  obtain ⟨w, ew, rw'⟩ := r.get h2
  have hl := r.length
  have hn := line63
  have fin : EP X pins σ Q w s := ⟨z, H, I, rw', q⟩
  by_cases h0 : 0 ≤ i
  · have hj : i.toNat = j := by
      rw [seqIndex_of h0 h5] at h1
      exact Option.some.inj h1
    exact item_listR pl.isList h0 (by omega) (by rw [hj]; simpa using ew) fin hs
  · have hj : (i + (its.toArray.size : Int)).toNat = j := by
      rw [seqIndex_neg (by omega) h4] at h1
      rw [List.size_toArray, ← hl]
      exact Option.some.inj h1
    exact subscriptTail_builtinR (x := w) pl.isList.typeIs slot_list_getitem.lookup
      (wpAny_getItem_list_neg (Q := fun r s' => r = w ∧ EP X pins σ Q r s') pl.isList (by omega) (by rw [List.size_toArray] <;> omega) (by omega) (by rw [hj]; simpa using ew) ⟨rfl, fin⟩) hs
theorem Inv.lst {pins : List (Addr × Obj)} {σ : St} {H : Hp} {s : Shared} {p : Addr} {xs : List V} (I : Inv X pins σ H s) (h : H p = some (.lst xs)) :
    ∃ (its : List Value) (n : Nat), Vals xs its ∧ s.heap.get? p = some { cls := .type "list", data := .seq its.toArray n } ∧ xs.length ≤ sizeLine := by
  obtain ⟨z, its, n, r, e⟩ := I.hok p _ h
  exact ⟨its, n, r, e, z⟩

theorem slice_bounds (lo hi : Option Int) (n : Nat) : (sliceBounds lo hi none n).1 = ((HT.sIx n 0 lo : Nat) : Int) ∧ (sliceBounds lo hi none n).2.1 = ((HT.sIx n n hi : Nat) : Int) ∧ (sliceBounds lo hi none n).2.2 = 1 := by
  refine ⟨?_, ?_, rfl⟩
  · cases lo with
    | none => simp [sliceBounds, HT.sIx]
    | some i =>
      simp only [sliceBounds, HT.sIx, Option.getD_none, show (1 : Int) > 0 by decide, if_true]
      by_cases h : i < 0
      · simp only [h, if_true] <;> omega
      · simp only [h, if_false] <;> omega
  · cases hi with
    | none => simp [sliceBounds, HT.sIx]
    | some i =>
      simp only [sliceBounds, HT.sIx, Option.getD_none, show (1 : Int) > 0 by decide, if_true]
      by_cases h : i < 0
      · simp only [h, if_true] <;> omega
      · simp only [h, if_false] <;> omega
theorem slicePick_cut (its : List Value) (lo hi : Option Int) : slicePick its.toArray lo hi none = ((its.drop (HT.sIx its.length 0 lo)).take (HT.sIx its.length its.length hi - HT.sIx its.length 0 lo)).toArray := by
  obtain ⟨h1, h2, h3⟩ := slice_bounds lo hi its.toArray.size
  unfold slicePick
  rw [h1, h2, h3]
  simp only [sliceRange_one, pick_run, List.size_toArray] <;> rfl

noncomputable def rSlL (K : PySem.W.Frag) : V → Option Int → Option Int → Hp → VK → Prop := fun x lo hi H Q => ∃ a xs, x = .ref a ∧ SqL K H a xs ∧ ∀ p, H p = none → Q (.ref p) (upd H p (.lst (cutV xs lo hi)))
theorem sl_list : SlR X (rSlL X.K) := by
  intro pins s σ H x v vl vu lo hi sl Q I rx hs pl pu h
  obtain ⟨a, xs, rfl, hx, q⟩ := h
  cases rx
  obtain ⟨its, r, ht, hz⟩ := I.list hx
  have hlen := r.length
  refine ⟨"list", _, slot_list_getitem.lookup, ht.isList.typeIs, ?_⟩
  refine wpAny_getItem_list_slice ht.isList hs pl pu .none (by simp) ?_ (by rw [List.size_toArray] <;> omega)
  rw [slicePick_cut, ← hlen]
  refine ⟨.ref s.heap.objs.size, _, I.laid (t' := s.toks) (o := .lst (cutV xs lo hi)) (fun b ob q => Heap.get?_push_of_some _ q) (Nat.le_refl _) ?_, rfl, q _ (I.hok.fresh (Nat.le_refl _))⟩
  exact ⟨Nat.le_trans (cutV_length xs lo hi) hz, _, 0, (r.drop (HT.sIx xs.length 0 lo)).take (HT.sIx xs.length xs.length hi - HT.sIx xs.length 0 lo), Heap.get?_push_size _ rfl⟩


theorem call_len_seq : CallR X (.builtin "len") (fun xs H Q => ∃ p ys, xs = [.ref p] ∧ (SqL X.K H p ys ∨ SqT X.K H p ys) ∧ Q (.int ys.length) H) := by
  intro pins s σ H xs us Q I r h
  obtain ⟨p, ys, rfl, hq, q⟩ := h
  obtain ⟨u, rfl, rx⟩ := vals1 r
  cases rx
  have hn := line63
  rcases hq with hq | hq
  · obtain ⟨its, r', pl, hz⟩ := I.list hq
    have hlen := r'.length
    exact Calls.call_len_list pl.isList (by simp only [List.size_toArray] <;> omega) ⟨.int ys.length, H, I.tok _, ⟨s.toks + 1, by rw [List.size_toArray, hlen]⟩, q⟩
  · obtain ⟨its, r', pl, hz⟩ := I.tuple hq
    have hlen := r'.length
    exact len_tuple pl (by simp only [List.size_toArray] <;> omega) ⟨.int ys.length, H, I.tok _, ⟨s.toks + 1, by rw [List.size_toArray, hlen]⟩, q⟩
theorem call_len_str : CallR X (.builtin "len") (fun xs H Q => ∃ z, xs = [.str z] ∧ z.length ≤ sizeLine ∧ Q (.int z.length) H) := by
  intro pins s σ H xs us Q I r h
  obtain ⟨z, rfl, hz, q⟩ := h
  obtain ⟨u, rfl, t, rfl⟩ := vals1 r
  have hn := line63
  exact len_str (by omega) ⟨.int z.length, H, I.tok _, ⟨_, rfl⟩, q⟩
noncomputable def tyV (K : PySem.W.Frag) (T : String) (x : V) (H : Hp) : Prop := match x with
  | .str _ => T = "str"
  | .int _ => T = "int"
  | .ref p => (T = "list" ∧ ∃ xs, SqL K H p xs) ∨ (T = "tuple" ∧ ∃ o, K.lookup p = some o ∧ o.cls = .type "tuple" ∧ o.dict = none) ∨
      (T = "dict" ∧ ((∃ kvs, H p = some (.dK kvs)) ∨ ∃ kvs, H p = some (.dT kvs))) ∨ (T = "set" ∧ ∃ S n, H p = some (.set S n))
  | _ => False
theorem tyV_is {pins : List (Addr × Obj)} {σ : St} {H : Hp} {s : Shared} {T : String} {x : V} {v : Value} (I : Inv X pins σ H s) (r : RelV x v) (ty : tyV X.K T x H) :
    s.TypeIs v T ∧ ∀ a, v = .ref a → ∃ ob, s.heap.get? a = some ob ∧ ob.dict = none := by
  cases x with
  | str z =>
    obtain ⟨t, rfl⟩ := r
    cases (show T = "str" from ty)
    exact ⟨typeIs_str s z t, fun _ e => nomatch e⟩
  | int i =>
    obtain ⟨t, rfl⟩ := r
    cases (show T = "int" from ty)
    exact ⟨typeIs_int s i t, fun _ e => nomatch e⟩
  | ref p =>
    cases r
    rcases ty with ⟨rfl, xs, hq⟩ | ⟨rfl, o, hk, hc, hd⟩ | ⟨rfl, hk⟩ | ⟨rfl, S, n, hk⟩
    · obtain ⟨its, _, pl, _⟩ := I.list hq
      refine ⟨pl.isList.typeIs, fun a e => ?_⟩
      cases e
      obtain ⟨o, n, e, c, hd, _⟩ := pl
      exact ⟨o, e, hd⟩
    · refine ⟨⟨o, I.kIn p o hk, hc⟩, fun a e => ?_⟩
      cases e
      exact ⟨o, I.kIn _ o hk, hd⟩
    · have z : ∃ o, s.heap.get? p = some o ∧ o.ExactDict := by
        rcases hk with ⟨kvs, hk⟩ | ⟨kvs, hk⟩
        · obtain ⟨_, _, _, _, o, _, _, e, ex, _⟩ := I.hok p _ hk
          exact ⟨o, e, ex⟩
        · obtain ⟨_, _, _, _, o, _, _, e, ex, _⟩ := I.hok p _ hk
          exact ⟨o, e, ex⟩
      obtain ⟨o, e, ex⟩ := z
      refine ⟨⟨o, e, ex.1⟩, fun a e2 => ?_⟩
      cases e2
      exact ⟨o, e, ex.2.1⟩
    · obtain ⟨o, _, _, _, e, ex, _⟩ := I.hok p _ hk
      refine ⟨⟨o, e, ex.1⟩, fun a e2 => ?_⟩
      cases e2
      exact ⟨o, e, ex.2.1⟩
  | _ => exact False.elim ty
noncomputable def tBM0 (K : PySem.W.Frag) (T : String) (r : V → List V → Hp → VK → Prop) (to : TE) : TE := fun σ H Q => to σ H fun x H1 => tyV K T x H1 ∧ r x [] H1 Q
noncomputable def tBM (K : PySem.W.Frag) (T : String) (r : V → List V → Hp → VK → Prop) (to : TE) (t : TA) : TE := fun σ H Q => to σ H fun x H1 => tyV K T x H1 ∧ t σ H1 fun xs H2 => r x xs H2 Q
variable {o e : Expr} {es : List Expr} {to : TE} {t : TA} {name : Str} {apos cpos : Pos} {T id : String} {r : V → List V → Hp → VK → Prop}
theorem pe_bm (pa : PlainAttrs T) (slot : Slot T name id) (hty : typeOf (.builtin id) = pure (.type "method_descriptor")) (hm : MtR X id r) (ho : PE X o to) (ha : PA X (e :: es) t)
    (hbase : attributeBase o name X.env (eval o X.env) = eval o X.env := by rfl)
    (hfew : ((backTo cpos (starEach (e :: es) X.env)).all (fun x => !x.1) && (backToKw cpos (keywordEach [] X.env)).all (fun x => x.1.isSome)
      && decide ((e :: es).length + ([] : List Keyword).length + (if ([] : List Keyword).isEmpty then 0 else 1) < 30)) = true := by rfl)
    (hline : (apos.endLine == cpos.line) = true := by rfl) (hs : starEach (e :: es) X.env = (false, eval e X.env) :: starEach es X.env := by rfl) (hplain : (backTo cpos (starEach es X.env)).any (·.1) = false := by rfl) :
    PE X (.Call (.Attribute o name apos) (e :: es) [] cpos) (tBM X.K T r to t) := by
  intro pins s σ H Q I h
  refine wpAny_Call_method_late hbase hfew hline rfl (thn (ho pins s σ H _ I h) fun v s1 hh9 => ?_)
  obtain ⟨x, H1, I1, r1, ty, q1⟩ := hh9
  obtain ⟨h1, h2⟩ := tyV_is I1 r1 ty
  refine ⟨T, id, pa, slot, hty, h1, h2, ?_⟩
  have hA := ha cpos pins s1 σ H1 _ I1 q1
  rw [hs] at hA ⊢
  refine Calls.callWith_builtin (by show (false || (backTo cpos (starEach es X.env)).any (·.1)) = false; rw [hplain] <;> rfl) (Calls.evalArgs_plain ?_)
  exact thn hA fun us s2 hh9 => by obtain ⟨vs, H2, I2, r2, q2⟩ := hh9; exact hm pins s2 σ H2 x vs v us Q I2 r1 r2 q2

end
end L2

namespace L2
open PySem PySem.Spec PyProof.Rows

noncomputable def MtM (X : Cx) (id : String) (r : V → List V → Hp → VK → Prop) : Prop :=
  ∀ (pins : List (Addr × Obj)) (s : Shared) (σ : St) (H : Hp) (x : V) (xs : List V) (v : Value) (us : List Value) (Q : VK), Inv X pins σ H s → RelV x v → Vals xs us → r x xs H Q →
    wpAny (model X.prog X.w) X.A (call (.builtin id) (v :: us)) (EP X pins σ Q) X.xe s


theorem Vals.one {x : V} {us : List Value} (h : Vals [x] us) : ∃ u, us = [u] ∧ RelV x u := by
  cases h with
  | cons r t =>
    cases t
    exact ⟨_, rfl, r⟩
theorem Vals.two {x y : V} {us : List Value} (h : Vals [x, y] us) : ∃ u v, us = [u, v] ∧ RelV x u ∧ RelV y v := by
  cases h with
  | cons r t =>
    obtain ⟨v, rfl, q⟩ := Vals.one t
    exact ⟨_, _, rfl, r, q⟩
theorem Vals.zero : ∀ {us : List Value}, Vals [] us → us = []
  | _, .nil => rfl
theorem Vals.dropLast {xs : List V} {us : List Value} (h : Vals xs us) : Vals xs.dropLast us.dropLast := by
  induction h with
  | nil => exact .nil
  | cons r t ih =>
    cases t with
    | nil => exact .nil
    | cons q t' => exact .cons r ih
theorem Vals.eraseIdx : ∀ {xs : List V} {us : List Value} (i : Nat), Vals xs us → Vals (xs.eraseIdx i) (us.eraseIdx i)
  | _, _, _, .nil => .nil
  | _, _, 0, .cons _ t => t
  | _, _, i + 1, .cons r t => .cons r (Vals.eraseIdx i t)
section
variable {X : Cx} {pins : List (Addr × Obj)} {σ : St} {H : Hp} {s : Shared} {l b : Addr} {xs ys zs : List V}


theorem Inv.lset {its its' : List Value} {n : Nat} {f : Array Value → Array Value} {t' : Nat} (I : Inv X pins σ H s) (hH : H l = some (.lst xs))
    (e : s.heap.get? l = some { cls := .type "list", data := .seq its.toArray n }) (hf : f its.toArray = its'.toArray) (hv : Vals ys its') (hz : ys.length ≤ sizeLine) :
    Inv X pins σ (upd H l (.lst ys)) { s with heap := s.heap.update l (Obj.mapSeq f), toks := t' } := by
  have q := PySem.IsL.update e f
  rw [hf] at q
  refine I.write (x := l) (e := l) (by rw [hH]; exact trivial) (.inl rfl) (fun b' u hb hu => (Heap.get?_update_other s.heap (Obj.mapSeq f) (Ne.symm hb)).trans hu) ⟨_, q⟩ ?_
  exact ⟨hz, its', _, hv, q⟩
theorem Inv.lnew {its : List Value} {t' : Nat} (I : Inv X pins σ H s) (hv : Vals ys its) (hz : ys.length ≤ sizeLine) :
    Inv X pins σ (upd H s.heap.objs.size (.lst ys)) { s with heap := s.heap.push { cls := .type "list", data := .seq its.toArray }, toks := t' } :=
  I.laid (fun _ _ q => Heap.get?_push_of_some _ q) (Nat.le_refl _) ⟨hz, its, 0, hv, Heap.get?_push_size _ rfl⟩
theorem Inv.fresh (I : Inv X pins σ H s) : H s.heap.objs.size = none := I.hok.fresh (Nat.le_refl _)
theorem Inv.lstM (I : Inv X pins σ H s) (hH : H l = some (.lst xs)) : xs.length ≤ sizeLine ∧ ∃ (its : List Value) (n : Nat), Vals xs its ∧ xs.length = its.length ∧ s.heap.get? l = some { cls := .type "list", data := .seq its.toArray n } := by
  obtain ⟨z, its, n, r, e⟩ := I.hok l _ hH
  exact ⟨z, its, n, r, r.length, e⟩

end

section
variable {X : Cx}


noncomputable def rAppend : V → List V → Hp → VK → Prop := fun x vs H Q => ∃ l xs y, x = .ref l ∧ vs = [y] ∧ H l = some (.lst xs) ∧ xs.length < sizeLine ∧ Q .non (upd H l (.lst (xs ++ [y])))
theorem mt_append : MtM X "list.append" rAppend := by
  intro pins s σ H x vs v us Q I rx rv h
  obtain ⟨l, xs, y, rfl, rfl, hH, hz, q⟩ := h
  cases rx
  obtain ⟨u, rfl, ru⟩ := rv.one
  obtain ⟨z, its, n, r, hl, e⟩ := I.lstM hH
  refine call_meets F.slot_list_append ⟨_, e, rfl⟩ F.entry_list_append (F.args_list_append_2 _ _) (PySem.list_append l its.toArray n u (by rw [List.size_toArray]; omega)) ⟨e, ?_⟩
  refine ⟨.non, _, I.lset (its' := its ++ [u]) hH e (by simp) (r.append (.cons ru .nil)) ?_, rfl, q⟩
  rw [List.length_append, List.length_singleton]
  omega

noncomputable def rCat : R2 := fun x y H Q => ∃ l b xs zs, x = .ref l ∧ y = .ref b ∧ H l = some (.lst xs) ∧ H b = some (.lst zs) ∧ xs.length + zs.length ≤ sizeLine ∧ ∀ p, H p = none → Q (.ref p) (upd H p (.lst (xs ++ zs)))
theorem op_cat : OpR X (binaryOp .Add) rCat := by
  intro pins s σ H x y v u Q I rx ry h
  obtain ⟨l, b, xs, zs, rfl, rfl, hH, hB, hz, q⟩ := h
  cases rx
  cases ry
  obtain ⟨z, its, n, r, hl, e⟩ := I.lstM hH
  obtain ⟨z2, its2, n2, r2, hl2, e2⟩ := I.lstM hB
  refine PySem.P.add_list e e2 ?_ (by rw [List.size_toArray, List.size_toArray]; omega)
  have ea : its.toArray ++ its2.toArray = (its ++ its2).toArray := by simp
  rw [ea]
  exact ⟨.ref _, _, I.lnew (t' := s.toks) (r.append r2) (by rw [List.length_append]; omega), rfl, q _ I.fresh⟩

end


section
variable {prog : Program} {w : World} {A : Around} {E : Value → Shared → Prop} {s : Shared}

end

section
variable {X : Cx}

end
end L2

namespace L2
open PySem PySem.Spec PyProof.Rows


section
variable {κ : Type} [DecidableEq κ]
noncomputable def valV (kvs : List (κ × V)) (k : κ) : Option V := (kvs.find? fun kv => decide (kv.1 = k)).map (·.2)

noncomputable def putK (kvs : List (κ × V)) (k : κ) (v : V) : List (κ × V) :=
  if (kvs.any fun kv => decide (kv.1 = k)) = true then kvs.map (fun kv => if kv.1 = k then (kv.1, v) else kv) else kvs ++ [(k, v)]
noncomputable def dropK (kvs : List (κ × V)) (k : κ) : List (κ × V) := kvs.filter fun kv => decide (kv.1 ≠ k)

theorem valV_pos {p : κ × V} {r : List (κ × V)} {k : κ} (e : p.1 = k) : valV (p :: r) k = some p.2 := by simp [valV, List.find?_cons, e]
theorem valV_neg {p : κ × V} {r : List (κ × V)} {k : κ} (e : ¬ p.1 = k) : valV (p :: r) k = valV r k := by simp [valV, List.find?_cons, e]
theorem valV_any (k : κ) : ∀ kvs : List (κ × V), (kvs.any fun kv => decide (kv.1 = k)) = (valV kvs k).isSome
  | [] => rfl
  | p :: r => by
    rw [List.any_cons]
    by_cases e : p.1 = k
    · simp only [valV_pos e, decide_eq_true e, Bool.true_or, Option.isSome_some]
    · rw [valV_neg e, decide_eq_false e, Bool.false_or]; exact valV_any k r
theorem length_putK (kvs : List (κ × V)) (k : κ) (v : V) : (putK kvs k v).length ≤ kvs.length + 1 := by
  unfold putK
  split
  · rw [List.length_map]; omega
  · rw [List.length_append, List.length_cons, List.length_nil]; omega
theorem RelO.isSome_eq {o : Option V} {u : Option Value} (r : RelO o u) : o.isSome = u.isSome := by
  cases o with
  | none => cases u with
    | none => rfl
    | some _ => exact (show False from r).elim
  | some _ => cases u with
    | none => exact (show False from r).elim
    | some _ => rfl
theorem RelO.getD {o : Option V} {u : Option Value} {d : V} {d' : Value} (r : RelO o u) (rd : RelV d d') : RelV (o.getD d) (u.getD d') := by
  cases o with
  | none => cases u with
    | none => exact rd
    | some _ => exact (show False from r).elim
  | some _ => cases u with
    | none => exact (show False from r).elim
    | some _ => exact r


theorem KV.val {kvs : List (κ × V)} {vs : List (κ × Value)} (r : KV kvs vs) (k : κ) : RelO (valV kvs k) (valueAt vs k) := by
  unfold KV at r
  induction r with
  | nil => exact True.intro
  | @cons p q ps qs h t ih =>
    obtain ⟨h1, h2⟩ := h
    by_cases e : p.1 = k
    · have e' : q.1 = k := h1.symm.trans e
      have b : valueAt (q :: qs) k = some q.2 := by simp [valueAt, List.find?_cons, e']
      rw [valV_pos e, b]; exact h2
    · have e' : ¬ q.1 = k := fun z => e (h1.trans z)
      have b : valueAt (q :: qs) k = valueAt qs k := by simp [valueAt, List.find?_cons, e']
      rw [valV_neg e, b]; exact ih
theorem KV.any {kvs : List (κ × V)} {vs : List (κ × Value)} (r : KV kvs vs) (k : κ) : (kvs.any fun kv => decide (kv.1 = k)) = vs.any fun kv => decide (kv.1 = k) := by
  unfold KV at r
  induction r with
  | nil => rfl
  | cons h t ih => rw [List.any_cons, List.any_cons, ih, h.1]
theorem KV.repl {kvs : List (κ × V)} {vs : List (κ × Value)} (r : KV kvs vs) (k : κ) {y : V} {u : Value} (ry : RelV y u) :
    KV (kvs.map fun kv => if kv.1 = k then (kv.1, y) else kv) (vs.map fun kv => if kv.1 = k then (kv.1, u) else kv) := by
  unfold KV at r ⊢
  induction r with
  | nil => exact .nil
  | @cons p q ps qs h t ih =>
    rw [List.map_cons, List.map_cons]
    refine .cons ?_ ih
    obtain ⟨h1, h2⟩ := h
    by_cases e : p.1 = k
    · rw [if_pos e, if_pos (h1.symm.trans e)]; exact ⟨h1, ry⟩
    · rw [if_neg e, if_neg (fun z => e (h1.trans z))]; exact ⟨h1, h2⟩
theorem KV.put {kvs : List (κ × V)} {vs : List (κ × Value)} (r : KV kvs vs) (k : κ) {y : V} {u : Value} (ry : RelV y u) : KV (putK kvs k y) (stored vs k u) := by
  unfold putK stored
  rw [r.any k]
  by_cases e : (vs.any fun kv => decide (kv.1 = k)) = true
  · rw [if_pos e, if_pos e]; exact r.repl k ry
  · rw [if_neg e, if_neg e]; exact Paired.snoc r ⟨rfl, ry⟩
theorem KV.drop {kvs : List (κ × V)} {vs : List (κ × Value)} (r : KV kvs vs) (k : κ) : KV (dropK kvs k) (without vs k) := by
  unfold KV at r ⊢
  unfold dropK without
  induction r with
  | nil => exact .nil
  | @cons p q ps qs h t ih =>
    obtain ⟨h1, h2⟩ := h
    rw [List.filter_cons, List.filter_cons]
    by_cases e : p.1 = k
    · have a : ¬ decide (p.1 ≠ k) = true := by simp [e]
      have b : ¬ decide (q.1 ≠ k) = true := by simp [h1.symm.trans e]
      rw [if_neg a, if_neg b]; exact ih
    · have e' : ¬ q.1 = k := fun z => e (h1.trans z)
      have a : decide (p.1 ≠ k) = true := by simp [e]
      have b : decide (q.1 ≠ k) = true := by simp [e']
      rw [if_pos a, if_pos b]; exact .cons ⟨h1, h2⟩ ih
theorem KV.length {kvs : List (κ × V)} {vs : List (κ × Value)} (r : KV kvs vs) : kvs.length = vs.length := Paired.length r
theorem dropK_le (kvs : List (κ × V)) (k : κ) : (dropK kvs k).length ≤ kvs.length := List.length_filter_le _ _
end



theorem kV_is {P : Program} {w : World} {k : Key} {u : Value} (r : RelV (kV k) u) : (mixKind P w).is k u = true := by
  cases k with
  | inl i => obtain ⟨t, e⟩ := (show ∃ t, u = Value.int i t from r); subst e; exact mixKind_int P w i t
  | inr x => obtain ⟨t, e⟩ := (show ∃ t, u = Value.str x t from r); subst e; exact mixKind_str P w x t
theorem items_are {P : Program} {w : World} : ∀ {ks : List Key} {us : List Value}, Vals (ks.map kV) us → ItemsAre (mixKind P w) ks us
  | [], _, r => by rw [List.map_nil] at r; cases r; exact .nil
  | k :: ks, _, r => by
    rw [List.map_cons] at r
    cases r with
    | cons h t => exact .cons (kV_is h) (items_are t)


noncomputable abbrev KT (H : Hp) : List (List Key × V) → List (List Key × Addr × Value) → Prop := Paired fun p q => p.1 = q.1 ∧ H q.2.1 = some (.tup (p.1.map kV)) ∧ RelV p.2 q.2.2
theorem KT.val {H : Hp} {kvs : List (List Key × V)} {xs : List (List Key × Addr × Value)} (r : KT H kvs xs) (k : List Key) : RelO (valV kvs k) ((atKey xs k).map (·.2)) := by
  induction r with
  | nil => exact True.intro
  | @cons p q ps qs h t ih =>
    obtain ⟨h1, _, h2⟩ := h
    by_cases e : p.1 = k
    · have e' : q.1 = k := h1.symm.trans e
      have b : atKey (q :: qs) k = some q.2 := by simp [atKey, List.find?_cons, e']
      rw [valV_pos e, b]; exact h2
    · have e' : ¬ q.1 = k := fun z => e (h1.trans z)
      have b : atKey (q :: qs) k = atKey qs k := by simp [atKey, List.find?_cons, e']
      rw [valV_neg e, b]; exact ih
theorem KT.repl {H : Hp} {kvs : List (List Key × V)} {xs : List (List Key × Addr × Value)} (r : KT H kvs xs) (k : List Key) {y : V} {u : Value} (ry : RelV y u) :
    KT H (kvs.map fun kv => if kv.1 = k then (kv.1, y) else kv) (xs.map (putAt k u)) := by
  induction r with
  | nil => exact .nil
  | @cons p q ps qs h t ih =>
    rw [List.map_cons, List.map_cons]
    refine .cons ?_ ih
    obtain ⟨h1, h2, h3⟩ := h
    unfold putAt
    by_cases e : p.1 = k
    · rw [if_pos e, if_pos (h1.symm.trans e)]; exact ⟨h1, h2, ry⟩
    · rw [if_neg e, if_neg (fun z => e (h1.trans z))]; exact ⟨h1, h2, h3⟩
theorem KT.put {H : Hp} {kvs : List (List Key × V)} {xs : List (List Key × Addr × Value)} (r : KT H kvs xs) (k : List Key) {b : Addr} {y : V} {u : Value} (hb : H b = some (.tup (k.map kV))) (ry : RelV y u) :
    KT H (putK kvs k y) (storedH xs k b u) := by
  have e : (kvs.any fun kv => decide (kv.1 = k)) = (atKey xs k).isSome := by
    rw [valV_any, (r.val k).isSome_eq, Option.isSome_map]
  unfold putK storedH
  rw [e]
  by_cases q : (atKey xs k).isSome = true
  · rw [if_pos q, if_pos q]; exact r.repl k ry
  · rw [if_neg q, if_neg q]; exact Paired.snoc r ⟨rfl, hb, ry⟩
theorem KT.keeps {H H' : Hp} {kvs : List (List Key × V)} {xs : List (List Key × Addr × Value)} (r : KT H kvs xs) (ht : ∀ b ys, H b = some (.tup ys) → H' b = some (.tup ys)) : KT H' kvs xs :=
  Paired.mapP r fun _ _ z => ⟨z.1, ht _ _ z.2.1, z.2.2⟩

section
variable {P : Program} {w : World} {H : Hp} {h : Heap} {a : Addr}
theorem rd_of {u : HO} (ok : HOk P w H h) (e : Rd H a u) : ObjOk P w H h a u := e.ok ok
theorem dk_rd {kvs : List (Key × V)} (ok : HOk P w H h) (e : Rd H a (.dK kvs)) : kvs.length ≤ sizeLine ∧ (a == sysModules) = false ∧ ∃ vs, KV kvs vs ∧ h.DictOf (mixKind P w) a vs :=
  show ObjOk P w H h a (.dK kvs) from rd_of ok e
theorem dk_of {kvs : List (Key × V)} (ok : HOk P w H h) (e : H a = some (.dK kvs)) : kvs.length ≤ sizeLine ∧ (a == sysModules) = false ∧ ∃ vs, KV kvs vs ∧ h.DictOf (mixKind P w) a vs := dk_rd ok (.inl e)

theorem key_of {ks : List Key} (ok : HOk P w H h) (e : H a = some (.tup (ks.map kV))) : (tupleKind (mixKind P w)).is h ks a := by
  obtain ⟨_, its, r, o, h1, h2, n, h3⟩ := (show ObjOk P w H h a (.tup (ks.map kV)) from ok a _ e)
  exact ⟨o, its.toArray, n, h1, h2, h3, by simpa using items_are r⟩
theorem dt_rd {kvs : List (List Key × V)} (ok : HOk P w H h) (e : Rd H a (.dT kvs)) : kvs.length ≤ sizeLine ∧ (a == sysModules) = false ∧
    ∃ xs, KT H kvs xs ∧ h.DictOfH (tupleKind (mixKind P w)) a xs := by
  obtain ⟨z, y, xs, r, o, es, ep, h1, h2, h3, h4, h5⟩ := (show ObjOk P w H h a (.dT kvs) from rd_of ok e)
  refine ⟨z, y, xs, r, o, es, ep, h1, h2, h3, h4, fun x hx => ?_, h5⟩
  have all : ∀ {l : List (List Key × V)} {m : List (List Key × Addr × Value)}, KT H l m → ∀ x ∈ m, (tupleKind (mixKind P w)).is h x.1 x.2.1 := by
    intro l m q
    induction q with
    | nil => intro x hx; exact nomatch hx
    | @cons p q ps qs hq t ih =>
      intro x hx
      rcases List.mem_cons.mp hx with e | hx
      · subst e
        exact key_of ok (by rw [← hq.1]; exact hq.2.1)
      · exact ih x hx
  exact all r x hx
theorem dt_of {kvs : List (List Key × V)} (ok : HOk P w H h) (e : H a = some (.dT kvs)) : kvs.length ≤ sizeLine ∧ (a == sysModules) = false ∧
    ∃ xs, KT H kvs xs ∧ h.DictOfH (tupleKind (mixKind P w)) a xs := dt_rd ok (.inl e)
end


noncomputable def DGet (H : Hp) (a : Addr) (y : V) (r : Option V) : Prop :=
  (∃ kvs k, Rd H a (.dK kvs) ∧ y = kV k ∧ r = valV kvs k) ∨ ∃ kvs k b, Rd H a (.dT kvs) ∧ y = .ref b ∧ H b = some (.tup (k.map kV)) ∧ r = valV kvs k

noncomputable def DPut (H : Hp) (a : Addr) (y v : V) (H' : Hp) : Prop :=
  (∃ kvs k, H a = some (.dK kvs) ∧ y = kV k ∧ kvs.length < sizeLine ∧ H' = upd H a (.dK (putK kvs k v))) ∨
  ∃ kvs k b, H a = some (.dT kvs) ∧ y = .ref b ∧ H b = some (.tup (k.map kV)) ∧ kvs.length < sizeLine ∧ H' = upd H a (.dT (putK kvs k v))
theorem DGet.k {H : Hp} {a : Addr} {kvs : List (Key × V)} {k : Key} (e : H a = some (.dK kvs)) : DGet H a (kV k) (valV kvs k) := .inl ⟨kvs, k, .inl e, rfl, rfl⟩
theorem DGet.t {H : Hp} {a b : Addr} {kvs : List (List Key × V)} {k : List Key} (e : H a = some (.dT kvs)) (eb : H b = some (.tup (k.map kV))) : DGet H a (.ref b) (valV kvs k) := .inr ⟨kvs, k, b, .inl e, rfl, eb, rfl⟩
theorem DPut.k {H : Hp} {a : Addr} {kvs : List (Key × V)} {k : Key} {v : V} (e : H a = some (.dK kvs)) (hl : kvs.length < sizeLine) : DPut H a (kV k) v (upd H a (.dK (putK kvs k v))) := .inl ⟨kvs, k, e, rfl, hl, rfl⟩
theorem DPut.t {H : Hp} {a b : Addr} {kvs : List (List Key × V)} {k : List Key} {v : V} (e : H a = some (.dT kvs)) (eb : H b = some (.tup (k.map kV))) (hl : kvs.length < sizeLine) :
    DPut H a (.ref b) v (upd H a (.dT (putK kvs k v))) := .inr ⟨kvs, k, b, e, rfl, eb, hl, rfl⟩


section
variable {X : Cx} {pins : List (Addr × Obj)} {σ : St} {H : Hp} {s : Shared} {a : Addr} {y v : V} {u r : Value} {o : Option V} {A : Around} {E : Value → Shared → Prop}

theorem Inv.big (I : Inv X pins σ H s) : sysModules < s.heap.objs.size := by
  have h : mainGlobals < s.heap.objs.size := (I.mod.glob.keeps I.bk).lt
  exact Nat.lt_trans (by decide) h


theorem d_notIn {Q : Value → Shared → Prop} (hu : A.units + 1 < cLine) (I : Inv X pins σ H s) (g : DGet H a y o) (ry : RelV y u) (h : ∀ s', Inv X pins σ H s' → Q (.bool (!o.isSome)) s') :
    wpAny (model X.prog X.w) A (compareOp .NotIn u (.ref a)) Q E s := by
  rcases g with ⟨kvs, k, e, ey, l⟩ | ⟨kvs, k, b, e, ey, eb, l⟩
  · subst ey
    obtain ⟨z, hd, vs, rel, dd⟩ := dk_rd I.hok e
    refine wpAny_notIn_of (kV_is ry) hd dd.mapOf ?_
    rw [← (rel.val k).isSome_eq, ← l]
    exact h _ (I.tok _)
  · subst ey
    cases (show u = Value.ref b from ry)
    obtain ⟨z, hd, xs, rel, dd⟩ := dt_rd I.hok e
    refine wpAny_notIn_heap (tupleKind_room_in1 hu) (key_of I.hok eb) hd dd ?_
    have q := (rel.val k).isSome_eq
    rw [Option.isSome_map] at q
    rw [← q, ← l]
    exact h _ (I.tok _)

theorem d_write {h' : Heap} {t' : Nat} {ob : HO} (I : Inv X pins σ H s) (mu : Mut (H a)) (hs : Heap.SameBut a s.heap h') (he : ∃ q, h'.get? a = some q) (new : ObjOk X.prog X.w (upd H a ob) h' a ob) :
    Inv X pins σ (upd H a ob) { s with heap := h', toks := t' } :=
  I.write (x := a) (e := a) mu (.inl rfl) (fun b q hb z => (hs.2 b hb).trans z) he new
theorem dk_new {P : Program} {w : World} {H' : Hp} {h' : Heap} {kvs : List (Key × V)} {vs : List (Key × Value)} (z : kvs.length ≤ sizeLine) (hd : (a == sysModules) = false) (rel : KV kvs vs) (dd : h'.DictOf (mixKind P w) a vs) :
    ObjOk P w H' h' a (.dK kvs) := ⟨z, hd, vs, rel, dd⟩

theorem d_setItem {H' : Hp} {Q : Unit → Shared → Prop} (hu : A.units + 1 < cLine) (I : Inv X pins σ H s) (g : DPut H a y v H') (ry : RelV y u) (rv : RelV v r) (h : ∀ s', Inv X pins σ H' s' → Q () s') :
    wpAny (model X.prog X.w) A (setItem (.ref a) u r) Q E s := by
  rcases g with ⟨kvs, k, e, ey, l, eH⟩ | ⟨kvs, k, b, e, ey, eb, l, eH⟩
  · subst ey eH
    obtain ⟨z, hd, vs, rel, dd⟩ := dk_of I.hok e
    have hz : vs.length ≤ sizeLine := by rw [← rel.length]; exact z
    have hl : (putK kvs k v).length ≤ sizeLine := by have := length_putK kvs k v; omega
    refine wpAny_setItem_pairs (hsz := hz) (kV_is ry) dd fun h' dd' hs => h _ ?_
    have he : ∃ q, h'.get? a = some q := let ⟨q, _, _, hq, _⟩ := dd'; ⟨q, hq⟩
    exact d_write I (by rw [e]; exact True.intro) hs he (dk_new hl hd (rel.put k rv) dd')
  · subst ey eH
    cases (show u = Value.ref b from ry)
    obtain ⟨z, hd, xs, rel, dd⟩ := dt_of I.hok e
    have hz : xs.length ≤ sizeLine := by rw [← Paired.length rel]; exact z
    have hl : (putK kvs k v).length ≤ sizeLine := by have := length_putK kvs k v; omega
    refine wpAny_setItem_heap (hsz := hz) (tupleKind_room_in1 hu) (key_of I.hok eb) dd fun h' dd' hs => h _ ?_
    obtain ⟨q, es, ep, hq, h2, h3, h4, _, h5⟩ := dd'
    refine d_write I (by rw [e]; exact True.intro) hs ⟨q, hq⟩ ⟨hl, hd, _, (rel.put k eb rv).keeps fun c ys ec => ?_, q, es, ep, hq, h2, h3, h4, h5⟩
    rw [upd_ne (ne_of ec e (fun z => nomatch z))]
    exact ec
end

section
variable {X : Cx} {pins : List (Addr × Obj)} {σ : St} {H : Hp} {s : Shared} {a : Addr} {kvs : List (Key × V)} {k : Key} {u : Value} {A : Around} {E : Value → Shared → Prop}

end




noncomputable def tDGet (td ty : TE) : TE := fun σ H Q => td σ H fun x H1 => ty σ H1 fun y H2 => ∃ a v, x = .ref a ∧ DGet H2 a y (some v) ∧ Q v H2

noncomputable def tDIn (ty td : TE) : TE := fun σ H Q => ty σ H fun y H1 => td σ H1 fun x H2 => ∃ a o, x = .ref a ∧ DGet H2 a y o ∧ Q (.bl o.isSome) H2
noncomputable def tDNotIn (ty td : TE) : TE := fun σ H Q => ty σ H fun y H1 => td σ H1 fun x H2 => ∃ a o, x = .ref a ∧ DGet H2 a y o ∧ Q (.bl (!o.isSome)) H2

noncomputable def sDPut (td ty tv : TE) : TS := fun D σ H => tv σ H fun v H1 => td σ H1 fun x H2 => ty σ H2 fun y H3 => ∃ a H4, x = .ref a ∧ DPut H3 a y v H4 ∧ D.nx σ H4

section
variable {X : Cx} {o i e value : Expr} {pos pos' tpos : Pos} {td ty tv : TE}
theorem pc_dnotin (hu : X.A.units + 1 < cLine) (hi : PE X i ty) (ho : PE X o td) : PC X .NotIn i o (tDNotIn ty td) := by
  intro pins s σ H Q I h
  refine thn (hi pins s σ H _ I h) fun iv s1 ⟨y, H1, I1, ry, q1⟩ => thn (ho pins s1 σ H1 _ I1 q1) fun u s2 hh9 => ?_
  obtain ⟨x, H2, I2, rx, a, ov, ex, g, q2⟩ := hh9
  subst ex
  obtain rfl : u = Value.ref a := rx
  exact d_notIn hu I2 g ry fun s3 I3 => ⟨.bl (!ov.isSome), H2, I3, rfl, q2⟩
theorem ps_dput (hu : X.A.units + 1 < cLine) (ho : PE X o td) (hi : PE X i ty) (hv : PE X value tv) (hs : swapsWith value (some (.Subscript o i pos')) pos.line X.env = pure false) :
    PS X (.Assign [.Subscript o i pos'] value pos) (sDPut td ty tv) := by
  intro pins s σ H D I h
  refine wpAny_Assign_Subscript (thn (hv pins s σ H _ I h) fun r s1 ⟨v, H1, I1, rv, q1⟩ => thn (ho pins s1 σ H1 _ I1 q1) fun u s2 ⟨x, H2, I2, rx, q2⟩ => thn (hi pins s2 σ H2 _ I2 q2) fun iv s3 hh9 => ?_) hs
  obtain ⟨y, H3, I3, ry, a, H4, ex, g, q3⟩ := hh9
  subst ex
  obtain rfl : u = Value.ref a := rx
  exact d_setItem hu I3 g ry rv fun s4 I4 => ⟨σ, H4, I4, q3⟩
end



theorem dt_empty {P : Program} {w : World} {H : Hp} (h : Heap) (hb : sysModules < h.objs.size) : ObjOk P w H (h.push { cls := .type "dict", data := .dict #[] }) h.objs.size (.dT []) :=
  ⟨Nat.zero_le _, beq_eq_false_iff_ne.mpr (Ne.symm (Nat.ne_of_lt hb)), [], .nil, _, #[], 0, Heap.get?_push_size _ rfl, ⟨rfl, rfl, rfl⟩, rfl, rfl, List.nodup_nil⟩

noncomputable def tDNewT : TE := fun _ H Q => ∀ p, H p = none → Q (.ref p) (upd H p (.dT []))
section
variable {X : Cx} {pos : Pos}
theorem pe_dnewT : PE X (.Dict [] [] pos) tDNewT := fun pins s σ H Q I h =>
  wpAny_Dict_empty ⟨.ref s.heap.objs.size, _, I.laid (a := s.heap.objs.size) (o := .dT []) (t' := s.toks) (fun _ _ q => Heap.get?_push_of_some _ q) (Nat.le_refl _) (dt_empty s.heap I.big), rfl, h _ (I.hok.fresh (Nat.le_refl _))⟩
end


noncomputable def tPairs : List (TE × TE) → St → Hp → (List (V × V) → Hp → Prop) → Prop
  | [], _, H, Q => Q [] H
  | (tk, tv) :: r, σ, H, Q => tk σ H fun x H1 => tv σ H1 fun y H2 => tPairs r σ H2 fun ps H3 => Q ((x, y) :: ps) H3
noncomputable def mergeK (kvs more : List (Key × V)) : List (Key × V) := more.foldl (fun acc kv => putK acc kv.1 kv.2) kvs
noncomputable def tDisp (trs : List (TE × TE)) : TE := fun σ H Q => ∀ p, H p = none → tPairs trs σ (upd H p (.dK [])) fun ps H2 => H2 p = some (.dK []) ∧ ∃ kvs : List (Key × V), ps = kvs.map (fun kv => (kV kv.1, kv.2)) ∧ kvs.length ≤ 15 ∧ Q (.ref p) (upd H2 p (.dK (mergeK [] kvs)))
structure M1 (X : Cx) (o : Expr) (m : Str) (apos : Pos) (e : Expr) (cpos : Pos) : Prop where
  base : attributeBase o m X.env (eval o X.env) = eval o X.env
  few : ((backTo cpos (starEach [e] X.env)).all (fun x => !x.1) && (backToKw cpos (keywordEach [] X.env)).all (fun x => x.1.isSome)
    && decide (([e] : List Expr).length + ([] : List Keyword).length + (if ([] : List Keyword).isEmpty then 0 else 1) < 30)) = true
  line : (apos.endLine == cpos.line) = true
  trees : backTo cpos (starEach [e] X.env) = [(false, eval e X.env)]
structure M2 (X : Cx) (o : Expr) (m : Str) (apos : Pos) (e f : Expr) (cpos : Pos) : Prop where
  base : attributeBase o m X.env (eval o X.env) = eval o X.env
  few : ((backTo cpos (starEach [e, f] X.env)).all (fun x => !x.1) && (backToKw cpos (keywordEach [] X.env)).all (fun x => x.1.isSome)
    && decide (([e, f] : List Expr).length + ([] : List Keyword).length + (if ([] : List Keyword).isEmpty then 0 else 1) < 30)) = true
  line : (apos.endLine == cpos.line) = true
  trees : backTo cpos (starEach [e, f] X.env) = [(false, eval e X.env), (false, eval f X.env)]


noncomputable def IsD (H : Hp) (a : Addr) : Prop := (∃ kvs, Rd H a (.dK kvs)) ∨ ∃ kvs, Rd H a (.dT kvs)
theorem isD_at {X : Cx} {pins : List (Addr × Obj)} {σ : St} {H : Hp} {s : Shared} {a : Addr} (I : Inv X pins σ H s) (d : IsD H a) :
    s.TypeIs (.ref a) "dict" ∧ (∀ b, Value.ref a = .ref b → ∃ ob, s.heap.get? b = some ob ∧ ob.dict = none) ∧ (a == sysModules) = false := by
  rcases d with ⟨kvs, e⟩ | ⟨kvs, e⟩
  · obtain ⟨_, hd, vs, _, dd⟩ := dk_rd I.hok e
    refine ⟨dd.typeIs, fun b q => ?_, hd⟩
    cases q
    obtain ⟨ob, _, _, h1, h2, _⟩ := dd
    exact ⟨ob, h1, h2.2.1⟩
  · obtain ⟨_, hd, xs, _, dd⟩ := dt_rd I.hok e
    refine ⟨dd.typeIs, fun b q => ?_, hd⟩
    cases q
    obtain ⟨ob, _, _, h1, h2, _⟩ := dd
    exact ⟨ob, h1, h2.2.1⟩

section
variable {X : Cx} {pins : List (Addr × Obj)} {σ : St} {H : Hp} {s : Shared} {a : Addr} {y d : V} {u r : Value} {o : Option V} {A : Around} {E : Value → Shared → Prop}

theorem d_get1 {Q : Value → Shared → Prop} (hu : A.units + 1 < cLine) (I : Inv X pins σ H s) (g : DGet H a y o) (ry : RelV y u) (h : ∀ w' s', Inv X pins σ H s' → RelV (o.getD .non) w' → Q w' s') :
    wpAny (model X.prog X.w) A (call (.builtin "dict.get") [.ref a, u]) Q E s := by
  rcases g with ⟨kvs, k, e, ey, l⟩ | ⟨kvs, k, b, e, ey, eb, l⟩
  · subst ey
    obtain ⟨z, hd, vs, rel, dd⟩ := dk_rd I.hok e
    refine call_meetsIn PySem.F.slot_dict_get dd.typeIs PySem.F.entry_dict_get (PySem.F.args_dict_get_2 _ _) (meets_dict_get (mixKind X.prog X.w) a (kV_is ry) hd) ⟨_, dd.mapOf, h _ _ (I.tok _) ?_⟩
    rw [l]
    exact (rel.val k).getD rfl
  · subst ey
    cases (show u = Value.ref b from ry)
    obtain ⟨z, hd, xs, rel, dd⟩ := dt_rd I.hok e
    refine call_meetsIn PySem.F.slot_dict_get dd.typeIs PySem.F.entry_dict_get (PySem.F.args_dict_get_2 _ _) (meetsH_dict_get (tupleKind (mixKind X.prog X.w)) a b hd) ⟨tupleKind_room_in1 hu, k, xs, key_of I.hok eb, dd, h _ _ (I.tok _) ?_⟩
    rw [l]
    exact (rel.val k).getD rfl

end

noncomputable def tDGet1 (td ty : TE) : TE := fun σ H Q => td σ H fun x H1 => ∃ a, x = .ref a ∧ IsD H1 a ∧ ty σ H1 fun y H2 => ∃ o, DGet H2 a y o ∧ Q (o.getD .non) H2
section
variable {X : Cx} {o e f : Expr} {apos cpos : Pos} {td ty tx : TE}
theorem pe_dget1 (hu : X.A.units + 1 < cLine) (ho : PE X o td) (he : PE X e ty) (m : M1 X o "get" apos e cpos) : PE X (.Call (.Attribute o "get" apos) [e] [] cpos) (tDGet1 td ty) := by
  intro pins s σ H Q I h
  refine wpAny_Call_method m.base m.few m.line PySem.F.plainAttrs_dict PySem.F.slot_dict_get PySem.F.type_dict_get (thn (ho pins s σ H _ I h) fun u s1 hh9 => ?_)
  obtain ⟨x, H1, I1, rx, a, ex, d, q1⟩ := hh9
  subst ex
  obtain rfl : u = Value.ref a := rx
  obtain ⟨t1, t2, _⟩ := isD_at I1 d
  refine ⟨t1, t2, ?_⟩
  rw [m.trees]
  refine Calls.callWith_builtin rfl (Calls.evalArgs_plain (Calls.spliced_cons (thn (he pins s1 σ H1 _ I1 q1) fun iv s2 ⟨y, H2, I2, ry, ov, g, q2⟩ => Calls.spliced_nil ?_)))
  exact d_get1 hu I2 g ry fun w' s3 I3 rw' => ⟨_, H2, I3, rw', q2⟩
end


section
variable {X : Cx} {pins : List (Addr × Obj)} {σ : St} {H : Hp} {s : Shared} {a : Addr} {kvs : List (Key × V)} {A : Around} {E : Value → Shared → Prop}
end


section
variable {X : Cx} {pins : List (Addr × Obj)} {σ : St} {H : Hp} {s : Shared} {a : Addr} {y : V} {u : Value} {A : Around} {E : Value → Shared → Prop}

end
end L2

namespace Att
open PySem PySem.W PySem.Calls PyProof.Rows


theorem ints_of_wellAll {P : Params} {h : Heap} : ∀ (ns : List Int) (vs : List Value), WellAll P h vs (ns.map WData.int) → IntsAre vs ns := by
  intro ns
  induction ns with
  | nil =>
    intro vs w
    rw [List.map_nil] at w
    cases w
    exact .nil
  | cons n ns ih =>
    intro vs w
    rw [List.map_cons] at w
    cases w with
    | cons a b =>
      cases a
      exact .cons _ _ (ih _ b)

theorem script_of {l : OpenLaw} {n : Nat} (hn : l.most = some n) {P : Params} {h : Heap} {args : List WData} {vals : List Value}
    (hpre : l.row.toRowW.claim.pre args = true) (hwl : WellAll P h vals args) :
    ∃ a vs ns, vals = [Value.ref a] ∧ args = [WData.list (ns.map WData.int)] ∧ h.get? a = some { cls := .type "list", data := .seq vs.toArray } ∧ IntsAre vs ns ∧ ns.length ≤ n := by
  have hsh : WShape.hasAll [] args [.list .int] = true := (pre_splitW hpre).1
  have hc : l.pre.holds [] { args := args } = true := (pre_splitW hpre).2
  obtain ⟨d, r, rfl, h1, h2⟩ := hasAllW_cons hsh
  obtain rfl := hasAllW_nil h2
  obtain ⟨xs, rfl, h3⟩ := hasW_list h1
  obtain ⟨ns, rfl⟩ := items_int h3
  have hlen : ns.length ≤ n := by
    unfold OpenLaw.pre at hc
    have h4 : (WTm.not (.lt (.lit (.int (n : Int))) (.len (.arg 0)))).holds [] { args := [.list (ns.map .int)] } = true := by
      have h4 := (holds_andW hc).1
      rw [hn] at h4
      exact h4
    have h5 := condW_of h4 (w_not (w_lt w_lit (w_len_list (w_arg rfl))))
    rw [List.length_map] at h5
    refine Nat.le_of_not_lt fun q => ?_
    have q' : (n : Int) < ((ns.length : Nat) : Int) := by omega
    first
      | (rw [decide_eq_true q'] at h5; exact absurd h5 (by decide))
      | (simp at h5; omega)
  cases hwl with
  | cons w1 w2 =>
    cases w2
    cases w1 with
    | list ho hall => exact ⟨_, _, ns, rfl, rfl, ho, ints_of_wellAll ns _ hall, hlen⟩

theorem post_true (l : OpenLaw) (args : List WData) : l.row.toRowW.claim.post args (.bool true) args = true :=
  postW_of (r := l.row.toRowW) (X := (true == true))
    (show WShape.has [] (.bool true) .bool = true by first | rfl | decide | simp [WShape.has, WShape.arms, WShape.armsAll])
    (show (WTm.eq .res (.lit (.bool true))).value [] { args := args, res := some (.bool true), after := args } = some (.bool (true == true)) from w_eq_bool (w_res rfl) w_lit) rfl


theorem attach_call {l : OpenLaw} {n : Nat} {q : Program} {loose : List Str} {XP : (Str → Option Value) → Heap → Prop} {YP : World → Heap → Prop} {d : DefRec}
    (hn : l.most = some n) (hdf : d.params.defaults = [])
    (call : ∀ (w : World) (s₀ s₁ : Shared) (mg mb : Str → Option Value) (fa : Addr) (o : Obj) (pm cd doc : Value) (a : Addr) (vs : List Value) (ns : List Int),
      Ground q loose [] XP w s₀ mg mb s₁.heap → YP w s₁.heap →
      s₁.heap.get? fa = some o → o.data = .func (docDef d.name d.params d.body d.scope pm cd doc) → s₁.heap.CodeRec cd d.name → mg d.name = some (.ref fa) →
      s₁.heap.get? a = some { cls := .type "list", data := .seq vs.toArray } → IntsAre vs ns → ns.length ≤ n → s₁.gens = #[] →
      codeAny (model l.prog w) callerA (.call (.ref fa) ⟨[.ref a], []⟩) (fun r s' => r = .ok (.ret (.bool true)) ∧ OldK s₁.heap s'.heap ∧ s'.os = s₁.os ∧ AllBare s'.gens) s₁) :
    WalkO q loose XP YP l.row.toRowW d [] (fun f vs => PySem.call f vs) := by
  intro w s₀ s₁ mg mb G Y fa o pm cd doc dV kV ho hd hcd hD hmg hg args vals as hpre hlay hrd hwl hlo
  obtain rfl : dV = .none := Dflts.none hD hdf
  obtain rfl : kV = .none := Dflts.noKw hD
  obtain ⟨a, vs, ns, rfl, rfl, hobj, hints, hlen⟩ := script_of hn hpre hwl
  refine enter_call (codeAny_mono (call w s₀ s₁ mg mb fa o pm cd doc a vs ns G Y ho (fd_plain hd) hcd hmg hobj hints hlen hg) fun r s' hq => ?_)
  obtain ⟨rfl, h2, h3, h4⟩ := hq
  exact ⟨.inl ⟨.bool true, .bool true, [], rfl, fun _ => rfl, .bool true, post_true l _, fun _ => ⟨List.Pairwise.nil, fun _ hm => (nomatch hm)⟩⟩, h2, h3, h4⟩


section
variable {prog : Program} {w : World} {A : Around} {E : Value → Shared → Prop} {s : Shared} {K : Frag}


end
end Att

namespace L2
open PySem PySem.Spec PyProof.Rows

theorem vals_ints : ∀ {vs : List Value} {ns : List Int}, IntsAre vs ns → Vals (ns.map V.int) vs
  | _, _, .nil => .nil
  | _, _, .cons n t h => .cons ⟨t, rfl⟩ (vals_ints h)


noncomputable def Only (H : Hp) : Prop := ∀ b, H b = none ∨ ∃ o xs, H b = some (.frz o (.lst xs))


theorem law_call {P : Program} {w : World} {K : PySem.W.Frag} {mg mb : Str → Option Value} {CX : CXT} {k : Nat} {fa a : Addr} {fd : FuncData} {x : Str} {sp : Sp} {s₁ : Shared} {vs : List Value} {ns : List Int}
    (KX : K.In s₁.heap) (hns : s₁.heap.Ns mainGlobals mg) (hb : s₁.heap.Ns builtinsNs mb) (hbb : ∀ x : Str, x ≠ "__name__" → mb x = bootBuiltins x) (hlim : s₁.heap.NoLimit) (hg : s₁.gens = #[])
    (ha : s₁.heap.get? a = some { cls := .type "list", data := .seq vs.toArray }) (hi : IntsAre vs ns) (hl : ns.length ≤ sizeLine) (hr : Room k callerA)
    (F : ∀ base : Heap, K.In base → base.Ns mainGlobals mg → FnOk P w K mg base CX k fa fd [x] sp) (hbind : ∀ (s : Shared) (u : Value), BindsTo s fd ⟨[u], []⟩ [(x, u)])
    (hsp : ∀ H : Hp, Only H → SqL K H a (ns.map V.int) → sp [.ref a] H (fun v _ => v = .bl true) fun _ _ _ => False)
    (hCX : ∀ H e s', CX [] H s₁ (fun _ _ _ => False) e s' → False) :
    codeAny (model P w) callerA (.call (.ref fa) ⟨[.ref a], []⟩) (fun r s' => r = .ok (.ret (.bool true)) ∧ OldK s₁.heap s'.heap ∧ s'.os = s₁.os ∧ AllBare s'.gens) s₁ := by
  have rv := vals_ints hi
  have lenV := hi.length
  -- from an abstract heap in which nothing but the script may be tracked
  have core : ∀ H : Hp, Only H → SqL K H a (ns.map V.int) → HOk P w H s₁.heap → (∀ b, H b ≠ none → b = a) → (H a ≠ none → K.lookup a = none) →
      codeAny (model P w) callerA (.call (.ref fa) ⟨[.ref a], []⟩) (fun r s' => r = .ok (.ret (.bool true)) ∧ OldK s₁.heap s'.heap ∧ s'.os = s₁.os ∧ AllBare s'.gens) s₁ := by
    intro H hO hS hok hA hK
    have base_of : ∀ {b : Addr} {o : Obj}, s₁.heap.get? b = some o → H b = none → (hidT s₁.heap H).get? b = some o := fun e n => hidT_get e n
    have noA : ∀ {b : Addr} {o : Obj} {es : Array DictEntry} {ep : Nat}, s₁.heap.get? b = some o → o.data = .dict es ep → H b = none := fun {b o es ep} e d => by
      cases q : H b with
      | none => rfl
      | some u =>
        have e' : b = a := hA b (by rw [q]; simp)
        subst e'
        rw [ha] at e; cases e
        have d' : Data.seq vs.toArray _ = Data.dict es ep := d
        cases d'
    have nsK : ∀ {b : Addr} {m : Str → Option Value}, s₁.heap.Ns b m → (hidT s₁.heap H).Ns b m := fun {b m} ⟨o, es, ep, e, d, r⟩ => ⟨o, es, ep, base_of e (noA e d), d, r⟩
    have hKb : K.In (hidT s₁.heap H) := fun b o e => base_of (KX b o e) (by
      cases q : H b with
      | none => rfl
      | some u =>
        have e' : b = a := hA b (by rw [q]; simp)
        subst e'
        rw [hK (by rw [q]; simp)] at e; cases e)
    have hM : Mod K mg (hidT s₁.heap H) := ⟨hKb, nsK hns, ⟨mb, nsK hb, hbb⟩, let ⟨mc, h1, h2⟩ := hlim; ⟨mc, nsK h1, h2⟩⟩
    have e0 : Env0 P w K mg (hidT s₁.heap H) callerA [] s₁ H := ⟨rfl, hM, fun b o e => of_hidT e, Nat.le_of_eq (hidT_size _ _), trivial, fun b hb => absurd (show b ∈ ([] : List Addr) from hb) (by simp), hok, .of_eq hg⟩
    refine codeAny_mono ((F _ hKb (nsK hns)).run callerA [] s₁ H ⟨[.ref a], []⟩ [.ref a] [.ref a] _ _ hr e0 (hbind s₁ (.ref a)) (.cons rfl .nil) (hsp H hO hS)) fun r s' h => ?_
    cases r with
    | error e => exact (hCX H e s' h).elim
    | ok fl =>
      cases fl with
      | next => exact False.elim h
      | brk => exact False.elim h
      | cont => exact False.elim h
      | ret u =>
        obtain ⟨v, H', os, bare, un, hok', r', q⟩ := h
        have q' : v = .bl true := q
        subst q'
        obtain rfl : u = Value.bool true := r'
        refine ⟨rfl, OldK.of_keep fun b o e => ?_, os, bare⟩
        cases q : H b with
        | none => exact un.keep b o e q (by intro z; exact absurd (show b ∈ ([] : List Addr) from z) (by simp)) (by simp)
        | some u =>
          rcases hO b with z | ⟨ob, xs, z⟩
          · rw [q] at z; cases z
          · have z2 := un.frzs b ob _ z
            obtain ⟨e1, _⟩ := hok b _ z
            obtain ⟨e2, _⟩ := hok' b _ z2
            rw [e] at e1; cases e1
            exact e2
  cases hk : K.lookup a with
  | some o =>
    -- the script is one of the module's own objects
    have e := KX a o hk
    rw [ha] at e
    cases e
    refine core (fun _ => none) (fun _ => .inl rfl) (.inr ⟨_, vs.toArray, _, hk, rfl, rfl, rfl, by rw [List.size_toArray, lenV]; exact hl, by simpa using rv⟩) (fun b u z => by have z' : (none : Option HO) = some u := z; cases z') (fun b z => absurd rfl z) fun z => absurd rfl z
  | none =>
    refine core (fun b => if b = a then some (.frz { cls := .type "list", data := .seq vs.toArray } (.lst (ns.map V.int))) else none) (fun b => ?_) (.inl (.inr ⟨{ cls := .type "list", data := .seq vs.toArray }, if_pos rfl⟩)) (fun b u z => ?_) (fun b z => ?_) fun _ => hk
    · by_cases hb : b = a
      · exact .inr ⟨_, _, if_pos hb⟩
      · exact .inl (if_neg hb)
    · by_cases hb : b = a
      · have z' := (if_pos hb).symm.trans z
        cases z'
        subst hb
        exact ⟨ha, by rw [List.length_map]; exact hl, vs, _, rv, ha⟩
      · have z' := (if_neg hb).symm.trans z
        cases z'
    · by_cases hb : b = a
      · exact hb
      · exact absurd (if_neg hb) z
end L2

namespace L2
open PySem PySem.Spec PyProof.Rows

theorem walk_of {l : PySem.W.OpenLaw} {n k : Nat} {q : Program} {loose : List Str} {XP : (Str → Option Value) → Heap → Prop} {YP : World → Heap → Prop} {d : DefRec} {K : Params → PySem.W.Frag} {CX : World → CXT} {sp : World → Sp} {x : Str}
    (hn : l.most = some n) (hn2 : n ≤ sizeLine) (hdf : d.params.defaults = []) (hr : Room k callerA)
    (hY : ∀ (w : World) (h : Heap), YP w h → (K w.params).In h)
    (F : ∀ (w : World) (mg : Str → Option Value) (fa : Addr) (h : Heap), (K w.params).In h → h.Ns mainGlobals mg → mg d.name = some (.ref fa) →
      ∃ fd : FuncData, (∀ (s : Shared) (u : Value), BindsTo s fd ⟨[u], []⟩ [(x, u)]) ∧
        ∀ base : Heap, (K w.params).In base → base.Ns mainGlobals mg → FnOk l.prog w (K w.params) mg base (CX w) k fa fd [x] (sp w))
    (hsp : ∀ (w : World) (H : Hp) (a : Addr) (ns : List Int), ns.length ≤ n → Only H → SqL (K w.params) H a (ns.map V.int) → sp w [.ref a] H (fun v _ => v = .bl true) fun _ _ _ => False)
    (hCX : ∀ (w : World) (H : Hp) (s : Shared) (e : Value) (s' : Shared), CX w [] H s (fun _ _ _ => False) e s' → False) :
    PySem.W.WalkO q loose XP YP l.row.toRowW d [] (fun f vs => PySem.call f vs) := by
  refine Att.attach_call hn hdf fun w s₀ s₁ mg mb fa o pm cd doc a vs ns G Y ho hd hcd hmg hobj hints hlen hg => ?_
  have KX := hY w _ Y
  obtain ⟨fd, hb, hF⟩ := F w mg fa _ KX G.T.g hmg
  exact law_call KX G.T.g G.T.b G.T.builtins G.T.nolimit hg hobj hints (Nat.le_trans hlen hn2) hr hF hb (fun H hO hS => hsp w H a ns hlen hO hS) fun H e s' => hCX w H s₁ e s'

end L2




namespace L2
open PySem PySem.Spec PyProof.Rows



noncomputable def inClass (s : Stmt) (j : Nat) : Stmt := match s with
  | .ClassDef _ _ _ body _ _ _ _ _ _ _ => body.getD j (.Pass ⟨0, 0, 0, 0⟩)
  | _ => .Pass ⟨0, 0, 0, 0⟩
noncomputable def defArgs (s : Stmt) : Arguments := match s with
  | .FunctionDef _ a _ _ _ _ _ _ _ _ => a
  | _ => { posonlyargs := [], args := [], vararg := none, kwonlyargs := [], kw_defaults := [], kwarg := none, defaults := [] }
noncomputable def defBody (s : Stmt) : List Stmt := match s with
  | .FunctionDef _ _ b _ _ _ _ _ _ _ => b
  | _ => []
noncomputable def defScope (s : Stmt) : Scope := match s with
  | .FunctionDef _ _ _ _ _ _ sc _ _ _ => sc
  | _ => { kind := .function, names := [], isGenerator := false, isCoroutine := false }


noncomputable abbrev CX0 : CXT := fun _ _ _ _ _ _ => False
noncomputable abbrev E0 : XK := fun _ _ _ => False
theorem pass0 {X : Cx} : Passes CX0 X E0 := fun _ _ _ _ _ _ _ h => h.elim


structure Fun (K : PySem.W.Frag) (x qual : Str) (st : Stmt) (f : Addr) (fd : FuncData) : Prop where
  ex : ∃ (oc : Value) (od : Option Addr) (kV doc pm : Value) (an : Option Addr) (cdv ct : Value) (osl : Array (Option Value)),
    fd = PySem.W.fnOf x qual (defArgs st) (defBody st) (defScope st) .none kV doc pm an cdv ct ∧ K.lookup f = some ⟨oc, od, .func fd, osl⟩ ∧ PySem.W.codeIn K cdv qual = true
  kp : PySem.W.keepIn K (.ref f) = true
section
variable {P : Program} {w : World} {K : PySem.W.Frag} {mg : Str → Option Value} {base : Heap}

theorem Fun.ok {x qual : Str} {st : Stmt} {f : Addr} {fd : FuncData} {N ps : List Str} {k : Nat} {sp : Sp} (F : Fun K x qual st f fd) (S : FnScope N ps (defScope st)) (len : ∀ vs H Q E, sp vs H Q E → vs.length = ps.length)
    (hbody : ∀ (cdv : Value) (A : Around) (outer : List Env) (s : Shared) (H : Hp) (vs : List V) (Q : VK) (E : XK), Room k (A.deeper (envOfC qual (defScope st) s.heap.objs.size f cdv)) → sp vs H Q E →
      ∃ t, PSs (cxOf CX0 P w K mg base N qual (defScope st) f cdv A outer s H E).nox (defBody st) t ∧ t { nx := fun _ H' => Q .non H', rt := Q } (start N vs) H) : FnOk P w K mg base CX0 (k + 1) f fd ps sp := by
  obtain ⟨oc, od, kV, doc, pm, an, cdv, ct, osl, rfl, lk, hcd⟩ := F.ex
  refine fn_of lk hcd S len fun A outer s H vs Q E hr hsp => ?_
  obtain ⟨t, h, q⟩ := hbody cdv A outer s H vs Q E hr hsp
  exact ⟨t, h.nox, q⟩

theorem Fun.binds {x qual : Str} {st : Stmt} {f : Addr} {fd : FuncData} {ps : List Str} (F : Fun K x qual st f fd)
    (h : ∀ (kV doc pm : Value) (an : Option Addr) (cdv ct : Value) (us : List Value), us.length = ps.length → bindArgs (PySem.W.fnOf x qual (defArgs st) (defBody st) (defScope st) .none kV doc pm an cdv ct) ⟨us, []⟩ = pure (ps.zip us)) : Binds K fd ps [] := by
  obtain ⟨oc, od, kV, doc, pm, an, cdv, ct, osl, rfl, lk, hcd⟩ := F.ex
  exact .all (h kV doc pm an cdv ct)
theorem fun_mk {x qual : Str} {st : Stmt} {f : Addr} {oc : Value} {od an : Option Addr} {osl : Array (Option Value)} {kV doc pm cdv ct : Value} (l : K.lookup f = some ⟨oc, od, .func (PySem.W.fnOf x qual (defArgs st) (defBody st) (defScope st) .none kV doc pm an cdv ct), osl⟩)
    (c : PySem.W.codeIn K cdv qual = true) (k : PySem.W.keepIn K (.ref f) = true) : Fun K x qual st f (PySem.W.fnOf x qual (defArgs st) (defBody st) (defScope st) .none kV doc pm an cdv ct) := ⟨⟨oc, od, kV, doc, pm, an, cdv, ct, osl, rfl, l, c⟩, k⟩
end
theorem hu_of {A : Around} {k : Nat} (hr : Room k A) : A.units + 1 < cLine := Nat.lt_of_le_of_lt (Nat.add_le_add_left (by decide : 1 ≤ 64) _) hr.units
theorem small1000 {n : Nat} (h : n ≤ 1000) : n < sizeLine := Nat.lt_of_le_of_lt h (by decide)


section
variable {X : Cx}
theorem pv (i : Nat) {x : Str} {pos : Pos} (hN : X.N[i]? = some x := by rfl) (hv : Vis X.env.scope x := by first | exact Or.inl rfl | exact Or.inr (Or.inl rfl) | exact Or.inr (Or.inr rfl)) (hd : (x == ("__debug__" : Str)) = false := by decide)
    (hcd : (x == ("__classdict__" : Str)) = false := by decide) : PE X (.Name x pos) (tVar i) := pe_var hN hv hd hcd

end


noncomputable def Same (H H' : Hp) : Prop := ∀ b o, H b = some o → H' b = some o
theorem Same.refl (H : Hp) : Same H H := fun _ _ h => h
theorem Same.trans {H H1 H2 : Hp} (a : Same H H1) (b : Same H1 H2) : Same H H2 := fun c o h => b c o (a c o h)
theorem Same.free {H H' : Hp} (e : Same H H') {l : Addr} (h : H' l = Option.none) : H l = Option.none := by
  cases q : H l with
  | none => rfl
  | some o =>
    rw [e l o q] at h
    cases h
theorem Same.seq {K : PySem.W.Frag} {H H' : Hp} {a : Addr} {xs : List V} (e : Same H H') (h : SqL K H a xs) : SqL K H' a xs := by
  rcases h with (h | ⟨o, h⟩) | h
  · exact .inl (.inl (e _ _ h))
  · exact .inl (.inr ⟨o, e _ _ h⟩)
  · exact .inr h


section
variable {κ : Type} [DecidableEq κ]
end
end L2


set_option maxHeartbeats 1000000

namespace HwSort
open PySem PySem.W PyProof.Rows


noncomputable abbrev at0 (p : Array Nat) (i : Nat) : Nat := p.getD i 0

section
variable (cmp : Nat → Nat → (Bool → Shared → Prop) → Shared → Prop) (s : Shared) (lt : Nat → Nat → Bool) (N : Nat)

structure Ord : Prop where
  ask : ∀ i j C, i < N → j < N → C (lt i j) s → cmp i j C s
  trans : ∀ i j k, i < N → j < N → k < N → lt i j = true → lt j k = true → lt i k = true
  asym : ∀ i j, i < N → j < N → lt i j = true → lt j i = false
  tot : ∀ i j, i < N → j < N → i ≠ j → lt i j = true ∨ lt j i = true
end


structure Arr (N : Nat) (p : Array Nat) : Prop where
  size : p.size = N
  low : ∀ i, i < N → at0 p i < N
  inj : ∀ i j, i < N → j < N → at0 p i = at0 p j → i = j
  perm : p.Perm (List.toArray (List.range N))

section
variable {cmp : Nat → Nat → (Bool → Shared → Prop) → Shared → Prop} {s : Shared} {lt : Nat → Nat → Bool} {N : Nat}

end

section
variable {prog : Program} {w : World} {A : Around} {E : Value → Shared → Prop} {κ : SortKind} {it : Array Keyed} {s : Shared} {lt : Nat → Nat → Bool}
end
end HwSort

set_option maxHeartbeats 1000000

namespace L2
open PySem PySem.Spec PyProof.Rows


structure Cz where
  C : Addr
  s : Shared
  H : Hp
  fp : List Addr


noncomputable def cxComp (X : Cx) (N' : List Str) (scope : Scope) (cl : List (Str × Addr)) (z : Cz) : Cx where
  prog := X.prog
  w := X.w
  K := X.K
  mg := X.mg
  base := X.base
  A := X.A
  N := N'
  s₀ := z.s
  H₀ := z.H
  env := compEnvC scope cl z.C X.env
  outer := X.stack
  stack := X.stack
  ex := z.fp
  fn := fun _ => false
  calm := X.calm
  pn := []
  xe := fun _ _ => False


noncomputable def cloOf (env : Env) (names : List (Str × NameKind)) (acc : List (Str × Addr)) : List (Str × Addr) :=
  match names with
  | [] => acc
  | (n, k) :: r => cloOf env r (if k == .free then (n, (env.cells.lookup n).getD 0) :: acc else acc)

theorem clo_loop {env : Env} : ∀ (names : List (Str × NameKind)) (acc : List (Str × Addr)), (∀ x ∈ names, x.2 = .free → ∃ c, env.cells.lookup x.1 = some c) →
    (forIn (m := Sem) names acc fun x cs => (if x.2 == .free then do let c ← cellOf env x.1; pure (ForInStep.yield ((x.1, c) :: cs)) else pure (ForInStep.yield cs))) = pure (cloOf env names acc)
  | [], acc, _ => rfl
  | (n, k) :: r, acc, h => by
    rw [List.forIn_cons]
    have hr : ∀ x ∈ r, x.2 = .free → ∃ c, env.cells.lookup x.1 = some c := fun x hx => h x (List.mem_cons_of_mem _ hx)
    by_cases hk : k = .free
    · subst hk
      obtain ⟨c, e⟩ := h (n, .free) List.mem_cons_self rfl
      have e2 : cellOf env n = pure c := by unfold cellOf; rw [e]
      simp only [beq_self_eq_true, if_true, e2, pure_bind]
      rw [clo_loop r _ hr]
      simp only [cloOf, beq_self_eq_true, if_true, e, Option.getD_some]
    · have hb : (k == NameKind.free) = false := by simpa using hk
      simp only [hb, Bool.false_eq_true, if_false, pure_bind]
      rw [clo_loop r _ hr]
      simp only [cloOf, hb, Bool.false_eq_true, if_false]

theorem closureFor_eq {scope : Scope} {env : Env} (h : ∀ x ∈ scope.names, x.2 = .free → ∃ c, env.cells.lookup x.1 = some c) : closureFor scope env = pure (cloOf env scope.names []) := by
  have e := clo_loop scope.names [] h
  have e2 : closureFor scope env = (forIn (m := Sem) scope.names ([] : List (Str × Addr)) fun x cs => (if x.2 == .free then do let c ← cellOf env x.1; pure (ForInStep.yield ((x.1, c) :: cs)) else pure (ForInStep.yield cs))) >>= fun r => pure r := rfl
  rw [e2, e, pure_bind]

theorem clo_sub {env : Env} : ∀ (names : List (Str × NameKind)) (acc : List (Str × Addr)) (x : Str) (c : Addr), (∀ y ∈ names, y.2 = .free → ∃ c, env.cells.lookup y.1 = some c) →
    (∀ y d, acc.lookup y = some d → env.cells.lookup y = some d) → (cloOf env names acc).lookup x = some c → env.cells.lookup x = some c
  | [], acc, x, c, _, ha, h => ha x c h
  | (n, k) :: r, acc, x, c, hn, ha, h => by
    have hr : ∀ y ∈ r, y.2 = .free → ∃ c, env.cells.lookup y.1 = some c := fun y hy => hn y (List.mem_cons_of_mem _ hy)
    unfold cloOf at h
    by_cases hk : k = .free
    · subst hk
      obtain ⟨d, e⟩ := hn (n, .free) List.mem_cons_self rfl
      simp only [beq_self_eq_true, if_true] at h
      refine clo_sub r _ x c hr (fun y d' hy => ?_) h
      rw [List.lookup_cons] at hy
      by_cases hyn : (y == n) = true
      · rw [hyn] at hy
        have hy' : (env.cells.lookup n).getD 0 = d' := by simpa using hy
        rw [e] at hy'
        rw [beq_iff_eq.mp hyn, e]
        simpa using hy'
      · have hyn' : (y == n) = false := by simpa using hyn
        rw [hyn'] at hy
        exact ha y d' hy
    · have hb : (k == NameKind.free) = false := by simpa using hk
      simp only [hb, Bool.false_eq_true, if_false] at h
      exact clo_sub r _ x c hr ha h
theorem clo_has {env : Env} : ∀ (names : List (Str × NameKind)) (acc : List (Str × Addr)) (x : Str), ((x, NameKind.free) ∈ names ∨ ∃ c, acc.lookup x = some c) → ∃ c, (cloOf env names acc).lookup x = some c
  | [], acc, x, h => by
    rcases h with h | h
    · cases h
    · exact h
  | (n, k) :: r, acc, x, h => by
    unfold cloOf
    by_cases hk : k = .free
    · subst hk
      simp only [beq_self_eq_true, if_true]
      refine clo_has r _ x ?_
      rcases h with h | ⟨c, h⟩
      · rcases List.mem_cons.mp h with e | e
        · cases e
          exact .inr ⟨_, by rw [List.lookup_cons, beq_self_eq_true]⟩
        · exact .inl e
      · rw [List.lookup_cons]
        by_cases hyn : (x == n) = true
        · exact .inr ⟨_, by rw [hyn]⟩
        · have hyn' : (x == n) = false := by simpa using hyn
          exact .inr ⟨c, by rw [hyn']; exact h⟩
    · have hb : (k == NameKind.free) = false := by simpa using hk
      simp only [hb, Bool.false_eq_true, if_false]
      refine clo_has r _ x ?_
      rcases h with h | h
      · rcases List.mem_cons.mp h with e | e
        · cases e
          exact absurd rfl hk
        · exact .inl e
      · exact .inr h

theorem lookup_relabel {env : Env} (x : Str) : ∀ (names : List (Str × NameKind)),
    (names.map fun (n, k) => if (k == NameKind.free && env.scope.kind == .function && env.kindOf n == some .cell) then (n, NameKind.cell) else (n, k)).lookup x =
      (names.lookup x).map fun k => if (k == NameKind.free && env.scope.kind == .function && env.kindOf x == some .cell) then NameKind.cell else k
  | [] => rfl
  | (n, k) :: r => by
    have ih := lookup_relabel (env := env) x r
    rw [List.map_cons]
    dsimp only
    by_cases hxn : (x == n) = true
    · have e : x = n := beq_iff_eq.mp hxn
      subst e
      by_cases hc : (k == NameKind.free && env.scope.kind == .function && env.kindOf x == some .cell) = true
      · rw [if_pos hc, List.lookup_cons, List.lookup_cons, beq_self_eq_true]
        simp only [Option.map_some, if_pos hc]
      · rw [if_neg hc, List.lookup_cons, List.lookup_cons, beq_self_eq_true]
        simp only [Option.map_some, if_neg hc]
    · have hxn' : (x == n) = false := by simpa using hxn
      by_cases hc : (k == NameKind.free && env.scope.kind == .function && env.kindOf n == some .cell) = true
      · rw [if_pos hc, List.lookup_cons, List.lookup_cons, hxn']
        exact ih
      · rw [if_neg hc, List.lookup_cons, List.lookup_cons, hxn']
        exact ih


noncomputable def chkComp (osc : Scope) (N N' : List Str) (scope : Scope) : Bool :=
  scope.kind == .function &&
  scope.names.all (fun x => x.2 != .cell && (x.2 != .local || scope.names.lookup x.1 == some .local) && (x.2 != .free || osc.names.lookup x.1 == some .cell || osc.names.lookup x.1 == some .free)) &&
  decide (N.length ≤ N'.length) &&
  (List.range N.length).all fun i => match N'[i]? with
    | some x => match scope.names.lookup x with
      | some .local => false
      | some .cell => false
      | some .free => N[i]? == some x
      | _ => true
    | none => true

structure NamesOk (osc : Scope) (N N' : List Str) (scope : Scope) : Prop where
  kind : scope.kind = .function
  cell : ∀ x ∈ scope.names, x.2 ≠ .cell
  loc : ∀ x ∈ scope.names, x.2 = .local → scope.names.lookup x.1 = some .local
  free : ∀ x ∈ scope.names, x.2 = .free → osc.names.lookup x.1 = some .cell ∨ osc.names.lookup x.1 = some .free
  len : N.length ≤ N'.length
  old : ∀ (i : Nat) (x : Str), i < N.length → N'[i]? = some x → scope.names.lookup x ≠ some .local ∧ scope.names.lookup x ≠ some .cell ∧ (scope.names.lookup x = some .free → N[i]? = some x)

theorem names_ok {osc : Scope} {N N' : List Str} {scope : Scope} (h : chkComp osc N N' scope = true) : NamesOk osc N N' scope := by
  unfold chkComp at h
  simp only [Bool.and_eq_true, List.all_eq_true, decide_eq_true_eq, beq_iff_eq, Bool.or_eq_true, bne_iff_ne, List.mem_range] at h
  obtain ⟨⟨⟨h1, h2⟩, h3⟩, h4⟩ := h
  refine ⟨h1, fun x hx => (h2 x hx).1.1, fun x hx e => ?_, fun x hx e => ?_, h3, fun i x hi e => ?_⟩
  · rcases (h2 x hx).1.2 with z | z
    · exact absurd e z
    · exact z
  · rcases (h2 x hx).2 with (z | z) | z
    · exact absurd e z
    · exact .inl z
    · exact .inr z
  · have q := h4 i hi
    rw [e] at q
    cases hl : scope.names.lookup x with
    | none => simp
    | some k =>
      simp only [hl] at q
      cases k <;> simp_all

section
variable {X : Cx} {pins : List (Addr × Obj)} {σ : St} {H : Hp} {s : Shared}


theorem cells_of (I : Inv X pins σ H s) {osc : Scope} {N N' : List Str} {scope : Scope} (ho : X.env.scope = osc) (hn : NamesOk osc N N' scope) : ∀ x ∈ scope.names, x.2 = .free → ∃ c, X.env.cells.lookup x.1 = some c := fun x hx e =>
  I.ok.has x.1 (by have z := hn.free x hx e; rw [← ho] at z; exact z)


theorem inv_comp {osc : Scope} {N' : List Str} {scope : Scope} {fp : List Addr} {h1 : Heap} {tk : Nat} {n0 : Nat} (I : Inv X pins σ H s) (ho : X.env.scope = osc) (hn : NamesOk osc X.N N' scope) (hl : N'.length = X.N.length + n0)
    (hf : ∀ b ∈ fp, FpOk X pins H b) (hthere : ∀ b ∈ fp, b < s.heap.objs.size) {m0 : Str → Option Value} (ns : h1.Ns s.heap.objs.size m0) (keep : ∀ b o, s.heap.get? b = some o → h1.get? b = some o) :
    Inv (cxComp X N' scope (cloOf X.env scope.names []) ⟨s.heap.objs.size, s, H, fp⟩) [] (σ ++ List.replicate n0 none) H { s with heap := h1, toks := tk } := by
  have hc := cells_of I ho hn
  have sub : ∀ x c, (cloOf X.env scope.names []).lookup x = some c → X.env.cells.lookup x = some c := fun x c => clo_sub scope.names [] x c hc fun y d e => by cases e
  have kl : ∀ x, (relabel scope X.env).names.lookup x = (scope.names.lookup x).map fun k => if (k == NameKind.free && X.env.scope.kind == .function && X.env.kindOf x == some .cell) then NameKind.cell else k := fun x => lookup_relabel x scope.names
  have kf : ∀ x, ((relabel scope X.env).names.lookup x = some .cell ∨ (relabel scope X.env).names.lookup x = some .free) → scope.names.lookup x = some .free := fun x hx => by
    rw [kl] at hx
    cases e : scope.names.lookup x with
    | none => rw [e] at hx; simp at hx
    | some k =>
      rw [e] at hx
      cases k with
      | free => rfl
      | cell => exact absurd rfl (hn.cell _ (PySem.mem_of_lookup e))
      | _ => simp at hx
  have fresh : H s.heap.objs.size = none := I.hok.fresh (Nat.le_refl _)
  refine ⟨⟨I.ok.mod, ?kind, I.ok.glob, I.ok.blt, Nat.le_refl _, fun x y c e1 e2 => I.ok.inj x y c (sub x c e1) (sub y c e2), fun x hx => ?has, fun x c e => ?cab, I.ok.hd, I.ok.frames, .inl rfl, fun b hb => ?exf, fun b o e => I.bs b o e,
    Nat.le_trans I.ok.bsz I.sz, fun b o e hb => ?noex, fun b hb hs => ?exfs, I.stack, I.stkFree⟩, rfl, I.bare, Un.kept keep, ⟨m0, ns, fun i x v e1 e2 e3 => ?loc⟩, fun x c e => ?cell, fresh, fun x c e => I.freeC x c (sub x c e), fun p hp => absurd hp (by intro z; cases z), I.hok.kept keep, ?len⟩
  case kind => exact hn.kind
  case has => exact clo_has scope.names [] x (.inl (PySem.mem_of_lookup (kf x hx)))
  case cab => exact absurd e (by intro z; cases z)
  case exf =>
    obtain ⟨_, _, _, _, f4, _⟩ := hf b hb
    exact ⟨Nat.ne_of_lt (hthere b hb), fun x c e => f4 x c (sub x c e)⟩
  case noex =>
    obtain ⟨_, _, _, f3, _, _⟩ := hf b hb
    rcases f3 with f3 | f3
    · exact I.ok.noex b o e f3
    · exact absurd (Nat.lt_of_lt_of_le (Heap.lt_size e) (Nat.le_trans I.ok.bsz f3)) (Nat.lt_irrefl _)
  case exfs =>
    obtain ⟨_, f1, f2, _⟩ := hf b hb
    rcases List.mem_cons.mp (I.stkSub b hs) with z | z
    · exact f1 z
    · exact f2 z
  case loc =>
    have hi : i < σ.length := by
      by_cases hi : i < σ.length
      · exact hi
      · rw [List.getElem?_append_right (by omega), List.getElem?_replicate] at e2
        split at e2 <;> cases e2
    rw [List.getElem?_append_left hi] at e2
    have hiN : i < X.N.length := by rw [← I.len]; exact hi
    obtain ⟨o1, o2, o3⟩ := hn.old i x hiN e1
    have hfr : scope.names.lookup x = some .free := by
      rcases e3 with e3 | e3
      · have e3' : (relabel scope X.env).names.lookup x = some .local := e3
        rw [kl] at e3'
        cases e : scope.names.lookup x with
        | none => rw [e] at e3'; simp at e3'
        | some k =>
          rw [e] at e3'
          cases k with
          | «local» => exact absurd e o1
          | cell => exact absurd e o2
          | free => rfl
          | _ => simp at e3'
      · exact kf x e3
    have hcx : X.env.kindOf x = some .cell ∨ X.env.kindOf x = some .free := by
      have z := hn.free (x, .free) (PySem.mem_of_lookup hfr) rfl
      rw [← ho] at z
      exact z
    obtain ⟨m, hm, hlk⟩ := I.loc
    obtain ⟨u, r, lk⟩ := hlk i x v (o3 hfr) e2 (.inr hcx)
    refine ⟨u, r, .inr ⟨?_, ?_⟩⟩
    · show (relabel scope X.env).names.lookup x = some .cell ∨ (relabel scope X.env).names.lookup x = some .free
      rw [kl, hfr, Option.map_some]
      split
      · exact .inl rfl
      · exact .inr rfl
    · rcases lk with ⟨k1, _⟩ | ⟨_, c, ec, ic⟩
      · rcases hcx with z | z <;> (rw [z] at k1; cases k1)
      · obtain ⟨c', ec'⟩ := clo_has (env := X.env) scope.names [] x (.inl (PySem.mem_of_lookup hfr))
        have e4 := sub x c' ec'
        rw [ec] at e4
        cases e4
        obtain ⟨oc, hoc, hd⟩ := ic
        exact ⟨c, ec', oc, keep c oc hoc, hd⟩
  case cell =>
    obtain ⟨v, oc, hoc, hd⟩ := I.cell x c (sub x c e)
    exact ⟨v, oc, keep c oc hoc, hd⟩
  case len =>
    show (σ ++ List.replicate n0 none).length = N'.length
    rw [List.length_append, List.length_replicate, I.len, hl]
end


noncomputable def PIf (X : Cx) (ifs : List Expr) (t : TT) : Prop :=
  ∀ (pins : List (Addr × Obj)) (s : Shared) (σ : St) (H : Hp) (Q : Bool → Hp → Prop), Inv X pins σ H s → t σ H Q →
    wpAny (model X.prog X.w) X.A (forIn ifs true fun c r => if r = true then do let ok ← isTrue c X.env (eval c X.env); pure (ForInStep.yield ok) else pure (ForInStep.yield r)) (TP X pins σ Q) X.xe s
noncomputable def tYes : TT := fun _ H Q => Q true H
theorem pif_nil {X : Cx} : PIf X [] tYes := fun _ _ _ H _ I h => wpAny_tests_nil ⟨H, I, h⟩
noncomputable def CompTurn (p : Addr) (J : It) (g : TG) (tt : TT) (te : TE) (W : Nat → Nat → St → Hp → Prop) (i m : Nat) (σ : St) (H : Hp) : Prop :=
  J.go i H ∧ ∃ N : St → Hp → Prop, (∀ σ' H', N σ' H' → ∃ m', m' < m ∧ W (i + 1) m' σ' H') ∧ ∀ x H', J.yld i H x H' → g x σ H' fun σ3 H3 => tt σ3 H3 fun b H4 =>
    if b = true then te σ3 H4 fun v H5 => ∃ ys, H5 p = some (.lst ys) ∧ ys.length < sizeLine ∧ N σ3 (upd H5 p (.lst (ys ++ [v])))
    else N σ3 H4
noncomputable def CompR (n0 : Nat) (g : Cz → TG) (tt : Cz → TT) (te : Cz → TE) (σ : St) (Q : VK) (J : It) (H1 : Hp) : Prop :=
  ∀ p, H1 p = none → ∃ W : Nat → Nat → St → Hp → Prop, (∃ m, W 0 m (σ ++ List.replicate n0 none) (upd H1 p (.lst []))) ∧
    ∀ z i m σ2 H, W i m σ2 H → (J.stop i H ∧ Q (.ref p) H) ∨ CompTurn p J (g z) (tt z) (te z) W i m σ2 H
noncomputable def tComp (n0 : Nat) (wi : TI) (g : Cz → TG) (tt : Cz → TT) (te : Cz → TE) : TE := fun σ H Q => wi σ H fun J H1 => CompR n0 g tt te σ Q J H1

section
variable {X : Cx} {tg elt iter : Expr} {ifs : List Expr} {scope : Scope} {pos : Pos} {osc : Scope} {N' : List Str} {n0 : Nat} {wi : TI} {g : Cz → TG} {tt : Cz → TT} {te : Cz → TE}


theorem comp_block {pins : List (Addr × Obj)} {σ : St} {Q : VK} {s2 : Shared} {H2 : Hp} {it : Addr} {fp : List Addr} {tn : Nat → Heap → Prop} {J : It} {E : Value → Shared → Prop} {RR : Value → Addr → Result → Shared → Prop}
    (hc : X.calm = true) (ho : X.env.scope = osc) (hn : NamesOk osc X.N N' scope) (hl : N'.length = X.N.length + n0)
    (hg : ∀ z, PG (cxComp X N' scope (cloOf X.env scope.names []) z) tg (g z)) (hf : ∀ z, PIf (cxComp X N' scope (cloOf X.env scope.names []) z) ifs (tt z)) (he : ∀ z, PE (cxComp X N' scope (cloOf X.env scope.names []) z) elt (te z))
    (I2 : Inv X pins σ H2 s2) (T : Turn X.prog X.w X.K tg J fp it tn) (st2 : tn 0 s2.heap) (f2 : ∀ b ∈ fp, FpOk X pins H2 b) (h : CompR n0 g tt te σ Q J H2)
    (hRR : ∀ p C s' H', Inv X pins σ H' s' → FpOk X pins H' C → (∃ m, s'.heap.Ns C m) → Q (.ref p) H' → RR (.ref p) C (.ok .next) s') :
    wpAny (model X.prog X.w) X.A (newList []) (fun acc s₃ => wpAny (model X.prog X.w) X.A (newFunctionEnv scope X.env.globals (cloOf X.env scope.names []) [] X.env.qual none .none (some X.env)) (fun cenv s₄ =>
      codeAny (model X.prog X.w) X.A (.compStart (.ListComp elt [⟨tg, iter, ifs, 0⟩] scope pos) 0 (.ref it) acc { cenv with scope := relabel scope X.env }) (RR acc cenv.locals) s₄) E s₃) E s2 := by
  refine wpAny_newList ?_ (Nat.zero_le _)
  have hp : H2 s2.heap.objs.size = none := I2.hok.fresh (Nat.le_refl _)
  obtain ⟨W, ⟨m0, w0⟩, turn⟩ := h s2.heap.objs.size hp
  have I3 : Inv X pins σ (upd H2 s2.heap.objs.size (.lst [])) { s2 with heap := s2.heap.push { cls := .type "list", data := .seq ([] : List Value).toArray }, toks := s2.toks } := I2.lnew (ys := []) .nil (Nat.zero_le _)
  generalize hs3 : ({ s2 with heap := s2.heap.push { cls := .type "list", data := .seq ([] : List Value).toArray }, toks := s2.toks } : Shared) = s3 at I3
  have up3 : ∀ b o, s2.heap.get? b = some o → s3.heap.get? b = some o := fun b o e => by rw [← hs3]; exact Heap.get?_push_of_some _ e
  have st3 : tn 0 s3.heap := T.keep _ _ _ st2 fun b _ o e => up3 b o e
  have ob2 : ∀ b ∈ fp, b < s2.heap.objs.size := fun b hb => by
    obtain ⟨o, e, _⟩ := T.obj _ _ st2 b hb
    exact Heap.lt_size e
  have ob3 : ∀ b ∈ fp, b < s3.heap.objs.size := fun b hb => by
    obtain ⟨o, e, _⟩ := T.obj _ _ st3 b hb
    exact Heap.lt_size e
  have f3 : ∀ b ∈ fp, FpOk X pins (upd H2 s2.heap.objs.size (.lst [])) b := fun b hb => ⟨by rw [upd_ne (Nat.ne_of_lt (ob2 b hb))]; exact (f2 b hb).1, (f2 b hb).2⟩
  refine wpAny_newFunctionEnv hn.cell (by intro y hy; cases hy) (fun h1 ns1 sb1 => ?_) hn.kind
  have up4 : ∀ b o, s3.heap.get? b = some o → h1.get? b = some o := fun b o e => sb1.extBut b o (Nat.ne_of_lt (Heap.lt_size e)) (Heap.get?_push_of_some _ e)
  have st4 : tn 0 h1 := T.keep _ _ _ st3 fun b _ o e => up4 b o e
  have I4 := inv_comp (tk := s3.toks + ([] : List (Str × Value)).length) (n0 := n0) I3 ho hn hl f3 ob3 ns1 up4
  generalize hs4 : ({ s3 with heap := h1, toks := s3.toks + ([] : List (Str × Value)).length } : Shared) = s4 at I4
  have st4' : tn 0 s4.heap := by rw [← hs4]; exact st4
  -- the loop
  have loop : codeAny (model X.prog X.w) X.A (.compLoop (.ListComp elt [⟨tg, iter, ifs, 0⟩] scope pos) 0 (.ref it) (.ref s2.heap.objs.size) (compEnvC scope (cloOf X.env scope.names []) s3.heap.objs.size X.env)) (RR (.ref s2.heap.objs.size) s3.heap.objs.size) s4 := by
    refine codeAny_loop rfl (fun n s' => ∃ i σ' H', Inv (cxComp X N' scope (cloOf X.env scope.names []) ⟨s3.heap.objs.size, s3, upd H2 s2.heap.objs.size (.lst []), fp⟩) [] σ' H' s' ∧ tn i s'.heap ∧ (∀ b ∈ fp, H' b = none) ∧ W i n σ' H')
      (fun n s5 hI => ?_) m0 ⟨0, _, _, I4, st4', fun b hb => (f3 b hb).1, w0⟩
    obtain ⟨i, σ5, H5, I5, st5, fr5, w5⟩ := hI
    show wpAny _ X.A ((compTurn (.ListComp elt [⟨tg, iter, ifs, 0⟩] scope pos) 0 (.ref it) (.ref s2.heap.objs.size) (compEnvC scope (cloOf X.env scope.names []) s3.heap.objs.size X.env)).onRaise (fun x => do noteFrame x (compEnvC scope (cloOf X.env scope.names []) s3.heap.objs.size X.env); theTreesLotGoes x)) _ _ s5
    refine wpAny_noted ?_
    rw [compTurn_list]
    generalize hz : (⟨s3.heap.objs.size, s3, upd H2 s2.heap.objs.size (.lst []), fp⟩ : Cz) = z at I4 I5
    have hzC : z.C = s3.heap.objs.size := by rw [← hz]
    have hzf : z.fp = fp := by rw [← hz]
    have stat : ∀ {H' : Hp}, (∀ b ∈ fp, H' b = none) → ∀ b ∈ fp, FpOk (cxComp X N' scope (cloOf X.env scope.names []) z) [] H' b := fun {H'} hn' b hb => by
      obtain ⟨_, q1, q2, q3, q4, q5⟩ := f3 b hb
      refine ⟨hn' b hb, ?_, fun hs => ?_, .inl (by show b ∈ z.fp; rw [hzf]; exact hb), fun x c e => ?_, fun p hp => absurd hp (by intro z; cases z)⟩
      · show b ≠ z.C
        rw [hzC]
        exact Nat.ne_of_lt (ob3 b hb)
      · rcases List.mem_cons.mp (I3.stkSub b hs) with z' | z'
        · exact q1 z'
        · exact q2 z'
      · exact q4 x c (clo_sub scope.names [] x c (cells_of I3 ho hn) (fun y d e => by cases e) e)
    refine wpAny_bind (wpAny_standAt (wpAny_bind ?_))
    rcases turn z i n σ5 H5 w5 with ⟨stop, qn⟩ | ⟨go, Nx, hNx, step⟩
    · refine wpAny_mono (T.done (cxComp X N' scope (cloOf X.env scope.names []) z) rfl rfl rfl hc i [] s5 σ5 H5 (fun _ _ => False) I5 (stat fr5) st5 stop) (fun r s6 ⟨hr, I6⟩ => ?_) fun _ _ f => f.elim
      subst hr
      have hns : ∃ m, s6.heap.Ns s3.heap.objs.size m := by
        obtain ⟨m, hm, _⟩ := I6.loc
        have hm' : s6.heap.Ns z.C m := hm
        rw [hzC] at hm'
        exact ⟨m, hm'⟩
      refine wpAny_pure (hRR _ _ s6 H5 (I3.call' (ch := fp) ?os ?un I6.hok I6.bare fun b hb => ?ch) ?fp hns qn)
      case os => rw [I6.os]; show z.s.os = s3.os; rw [← hz]
      case un =>
        have u : Un (frs X.stack) z.fp z.H H5 z.s.heap s6.heap := I6.base
        rw [← hz] at u
        exact u
      case ch =>
        obtain ⟨_, q1, q2, q3, q4, q5⟩ := f3 b hb
        exact ⟨q3, q1, q4, q5⟩
      case fp =>
        have q := I3.fpOk (H' := H5) (Nat.le_refl _) (by have z' : H5 z.C = none := I6.free; rw [hzC] at z'; exact z')
        exact q
    · refine wpAny_mono (T.item (cxComp X N' scope (cloOf X.env scope.names []) z) rfl rfl rfl hc i [] s5 σ5 H5 (fun _ _ => False) I5 (stat fr5) st5 go) (fun r s6 ⟨u, hr, h6⟩ => ?_) fun _ _ f => f.elim
      subst hr
      refine wpAny_bind (wpAny_mono h6 (fun _ s7 hh9 => ?_) fun _ _ f => f.elim)
      obtain ⟨x, H7, I7, r7, y7, st7, fr7⟩ := hh9
      have I7' := I7.pinned (stat fr7) (T.obj _ _ st7)
      have hg7 := hg z _ s7 σ5 H7 x u _ I7' r7 (step x H7 y7)
      have envz : (cxComp X N' scope (cloOf X.env scope.names []) z).env = compEnvC scope (cloOf X.env scope.names []) s3.heap.objs.size X.env := by
        show compEnvC scope (cloOf X.env scope.names []) z.C X.env = _
        rw [hzC]
      rw [envz] at hg7
      refine wpAny_bind (wpAny_mono hg7 (fun _ s8 hh9 => ?_) fun _ _ f => f.elim)
      obtain ⟨σ8, H8, I8, q8⟩ := hh9
      have hf8 := hf z _ s8 σ8 H8 _ I8 q8
      rw [envz] at hf8
      refine wpAny_bind (wpAny_mono hf8 (fun b s9 hh9 => ?_) fun _ _ f => f.elim)
      obtain ⟨H9, I9, q9⟩ := hh9
      have back : ∀ {s' : Shared} {H' : Hp}, Inv (cxComp X N' scope (cloOf X.env scope.names []) z) ([] ++ pinsAt fp s7.heap) σ8 H' s' → Nx σ8 H' →
          ∃ m, m < n ∧ ∃ i σ' H', Inv (cxComp X N' scope (cloOf X.env scope.names []) z) [] σ' H' s' ∧ tn i s'.heap ∧ (∀ b ∈ fp, H' b = none) ∧ W i m σ' H' := fun {s' H'} I' nx => by
        obtain ⟨m', hm, w'⟩ := hNx σ8 H' nx
        refine ⟨m', hm, i + 1, σ8, H', I'.unpinned, T.keep _ _ _ st7 fun b hb o e => (I'.pin (b, o) (List.mem_append_right _ (List.mem_append_right _ (mem_pinsAt hb e)))).1, fun b hb => ?_, w'⟩
        obtain ⟨o, e, d⟩ := T.obj _ _ st7 b hb
        exact (I'.pin (b, o) (List.mem_append_right _ (List.mem_append_right _ (mem_pinsAt hb e)))).2.1
      cases b with
      | false =>
        have q9' : Nx σ8 H9 := q9
        simp only [Bool.false_eq_true, if_false]
        have bk := back I9 q9'
        exact wpAny_pure ⟨rfl, bk⟩
      | true =>
        have he9 := he z _ s9 σ8 H9 _ I9 q9
        rw [envz] at he9
        simp only [if_true]
        refine wpAny_bind (wpAny_bind (wpAny_mono he9 (fun v s10 hh9 => ?_) fun _ _ f => f.elim))
        obtain ⟨y, H10, I10, r10, ys, hy, hyl, nx⟩ := hh9
        have ap := mt_append (X := cxComp X N' scope (cloOf X.env scope.names []) z) _ s10 σ8 H10 (.ref s2.heap.objs.size) [y] (.ref s2.heap.objs.size) [v] (fun _ H' => H' = upd H10 s2.heap.objs.size (.lst (ys ++ [y]))) I10 rfl (.cons r10 .nil) ⟨_, ys, y, rfl, rfl, hy, hyl, rfl⟩
        refine wpAny_bind (wpAny_mono ap (fun _ s11 hh9 => ?_) fun _ _ f => f.elim)
        obtain ⟨_, H11, I11, _, e11⟩ := hh9
        subst e11
        have bk := back I11 nx
        exact wpAny_pure (wpAny_pure ⟨rfl, bk⟩)
  have fin := codeAny_compStart_list (ifs := ifs) (rest := []) (target := tg) loop (T.self _ _ _ _ _ st4' loop)
  exact fin


theorem pe_comp (hi : PI X tg iter wi) (hg : ∀ z, PG (cxComp X N' scope (cloOf X.env scope.names []) z) tg (g z)) (hf : ∀ z, PIf (cxComp X N' scope (cloOf X.env scope.names []) z) ifs (tt z)) (he : ∀ z, PE (cxComp X N' scope (cloOf X.env scope.names []) z) elt (te z))
    (hc : X.calm = true) (ho : X.env.scope = osc) (hn : NamesOk osc X.N N' scope) (hl : N'.length = X.N.length + n0) (hs : ∀ x, foldedSetIterable iter X.env x = pure x := by intro _; rfl) :
    PE X (.ListComp elt [⟨tg, iter, ifs, 0⟩] scope pos) (tComp n0 wi g tt te) := by
  intro pins s σ H Q I h
  rw [eval_ListComp]
  refine wpAny_comprehension_free (use := none) rfl hs (closureFor_eq (cells_of I ho hn)) hn.kind hn.loc (thn (hi pins s σ H _ I h) fun v s1 h1 => thn h1 fun itv s2 h2 => ?_)
  obtain ⟨it, fp, tn, J, H2, rfl, I2, T, st2, f2, h3⟩ := h2
  refine comp_block (RR := fun acc C => compPost (model X.prog X.w) X.A X.xe none (EP X pins σ Q) acc C) hc ho hn hl hg hf he I2 T st2 f2 h3 fun p C s' H' I' fC hns q => ?_
  obtain ⟨m, hm⟩ := hns
  refine ⟨m, hm, fun h' sb => ⟨.ref p, H', ?_, rfl, q⟩⟩
  obtain ⟨q0, q1, q2, q3, q4, q5⟩ := fC
  exact I'.turned (t' := s'.toks) (fun b o hb e => sb.extBut b o hb e) q0 q1 q3 q4 q5


end


section
variable {K : PySem.W.Frag} {g : Cz → TG} {tt : Cz → TT} {te : Cz → TE} {σ : St} {Q : VK} {H1 : Hp} {n0 : Nat}
theorem comp_list {a : Addr} {xs : List V} (Pv : Addr → Nat → St → Hp → Prop) (h0 : ∀ p, H1 p = none → Pv p 0 (σ ++ List.replicate n0 none) (upd H1 p (.lst [])))
    (hl : ∀ p i σ H, H1 p = none → i ≤ xs.length → Pv p i σ H → SqL K H a xs)
    (hs : ∀ p z i x σ H, H1 p = none → xs[i]? = some x → Pv p i σ H → g z x σ H fun σ3 H3 => tt z σ3 H3 fun b H4 =>
      if b = true then te z σ3 H4 fun v H5 => ∃ ys, H5 p = some (.lst ys) ∧ ys.length < sizeLine ∧ Pv p (i + 1) σ3 (upd H5 p (.lst (ys ++ [v]))) else Pv p (i + 1) σ3 H4)
    (hd : ∀ p σ H, H1 p = none → Pv p xs.length σ H → Q (.ref p) H) : CompR n0 g tt te σ Q (Itl K a) H1 := by
  intro p hp
  refine ⟨fun i m σ H => m = xs.length - i ∧ i ≤ xs.length ∧ Pv p i σ H, ⟨xs.length, by simp, Nat.zero_le _, h0 p hp⟩, ?_⟩
  rintro z i m σ2 H ⟨rfl, hi, pv⟩
  have q := hl p i σ2 H hp hi pv
  by_cases hlt : i < xs.length
  · refine .inr ⟨⟨xs, xs[i], q, by simp [hlt]⟩, Pv p (i + 1), fun σ' H' p' => ⟨xs.length - (i + 1), by omega, rfl, hlt, p'⟩, fun x H' y => ?_⟩
    obtain ⟨e, y⟩ := y
    subst e
    exact hs p z i x σ2 _ hp (y xs q) pv
  · have e : i = xs.length := by omega
    subst e
    exact .inl ⟨⟨xs, q, Nat.le_refl _⟩, hd p σ2 H hp pv⟩
theorem comp_range {lo : Int} {n : Nat} (Pv : Addr → Nat → St → Hp → Prop) (h0 : ∀ p, H1 p = none → Pv p 0 (σ ++ List.replicate n0 none) (upd H1 p (.lst [])))
    (hs : ∀ p z i σ H, H1 p = none → i < n → Pv p i σ H → g z (.int (lo + i)) σ H fun σ3 H3 => tt z σ3 H3 fun b H4 =>
      if b = true then te z σ3 H4 fun v H5 => ∃ ys, H5 p = some (.lst ys) ∧ ys.length < sizeLine ∧ Pv p (i + 1) σ3 (upd H5 p (.lst (ys ++ [v]))) else Pv p (i + 1) σ3 H4)
    (hd : ∀ p σ H, H1 p = none → Pv p n σ H → Q (.ref p) H) : CompR n0 g tt te σ Q (Itr lo n) H1 := by
  intro p hp
  refine ⟨fun i m σ H => m = n - i ∧ i ≤ n ∧ Pv p i σ H, ⟨n, by simp, Nat.zero_le _, h0 p hp⟩, ?_⟩
  rintro z i m σ2 H ⟨rfl, hi, pv⟩
  by_cases hlt : i < n
  · refine .inr ⟨hlt, Pv p (i + 1), fun σ' H' p' => ⟨n - (i + 1), by omega, rfl, hlt, p'⟩, fun x H' y => ?_⟩
    obtain ⟨e, y⟩ := y
    subst e y
    exact hs p z i σ2 _ hp hlt pv
  · have e : i = n := by omega
    subst e
    exact .inl ⟨Nat.le_refl _, hd p σ2 H hp pv⟩
end
end L2

set_option maxHeartbeats 1000000

namespace L2
open PySem PySem.Spec PyProof.Rows


theorem map_erase {α β : Type} (f : α → β) : ∀ (l : List α) (j : Nat), (l.map f).eraseIdx j = (l.eraseIdx j).map f
  | [], _ => by simp
  | _ :: _, 0 => by simp
  | _ :: r, j + 1 => by simp [map_erase f r j]
theorem erase_filter {K : Type} [DecidableEq K] : ∀ (xs : List (K × Addr × Value)) (j : Nat) (k : K) (p : Addr × Value), (xs.map (·.1)).Nodup → xs[j]? = some (k, p) → xs.eraseIdx j = xs.filter fun x => decide (x.1 ≠ k)
  | [], j, k, p, _, h => by simp at h
  | x :: r, 0, k, p, hn, h => by
    simp only [List.getElem?_cons_zero, Option.some.injEq] at h
    subst h
    have hn' : k ∉ r.map (·.1) ∧ (r.map (·.1)).Nodup := List.nodup_cons.mp hn
    rw [List.eraseIdx_cons_zero, List.filter_cons, if_neg (by simp)]
    symm
    rw [List.filter_eq_self]
    intro y hy
    have z : y.1 ≠ k := fun e => hn'.1 (List.mem_map.mpr ⟨y, hy, e⟩)
    exact decide_eq_true z
  | x :: r, j + 1, k, p, hn, h => by
    have hn' : x.1 ∉ r.map (·.1) ∧ (r.map (·.1)).Nodup := List.nodup_cons.mp hn
    rw [List.getElem?_cons_succ] at h
    have z : x.1 ≠ k := fun e => hn'.1 (List.mem_map.mpr ⟨_, List.mem_of_getElem? h, e.symm⟩)
    rw [List.eraseIdx_cons_succ, List.filter_cons, if_pos (decide_eq_true z), erase_filter r j k p hn'.2 h]

section
variable {prog : Program} {w : World} {K : Type} [DecidableEq K] (knd : HeapKind prog w K) (d a : Addr)
theorem pop_meetsH : MeetsIn prog w (Builtin.«dict.pop» ⟨[.ref d, .ref a], []⟩) (fun A R s => knd.room A.in1 ∧ ∃ k xs p, knd.is s.heap k a ∧ s.heap.DictOfH knd d xs ∧ xs.length ≤ sizeLine ∧ atKey xs k = some p ∧
      ∀ h', h'.DictOfH knd d (xs.filter fun x => decide (x.1 ≠ k)) → Heap.SameBut d s.heap h' → R (.ok (.ret p.2)) { s with heap := h', toks := s.toks + knd.draws k }) :=
  .of_wp fun A R s ⟨hu, k, xs, p, hkey, hm, hz, hp, h⟩ => by
    obtain ⟨o, es, ep, ho, hc, hdat, he, his, hn⟩ := id hm
    have hsz : es.size = xs.length := size_of_entries he
    have hne : xs ≠ [] := by rintro rfl; simp [atKey] at hp
    have hem : es.isEmpty = false := by
      have h0 : xs.length ≠ 0 := fun e => hne (List.eq_nil_of_length_eq_zero e)
      rw [← hsz] at h0
      simp only [Array.isEmpty, decide_eq_false_iff_not]
      exact h0
    unfold Builtin.«dict.pop»
    refine wpAny_bind ?_
    unfold Builtin.Dict.keyAndDefault
    refine wpAny_bind (wpAny_notOrdered_dict hm.typeIs ?_)
    show wpAny _ _ (pure (d, Value.ref a, none)) _ _ s
    refine wpAny_pure ?_
    simp only [show (keyPart (Value.ref a)).isSome = false from rfl, Bool.false_eq_true, if_false]
    refine wpAny_bind (wpAny_dictEntries ho hdat (wpAny_bind (wpAny_pure ?_)))
    rw [hem]
    simp only [Bool.false_eq_true, if_false]
    refine wpAny_bind ?_
    unfold Builtin.Dict.takeOut
    refine wpAny_holding ?_
    refine wpAny_bind (knd.pyHash hu hkey (wpAny_bind (wpAny_dictFind_heap (s := { s with toks := s.toks + knd.draws k }) hu hkey ho hdat he his hn (fun hno => ?_) fun j q hj => ?_)))
    · rw [atKey_none_of_get hno] at hp
      cases hp
    · rw [atKey_of_get hn hj] at hp
      have hpq : q = p := Option.some.inj hp
      subst hpq
      refine wpAny_bind (wpAny_dictEntries (s := { s with toks := s.toks + knd.draws k }) ho hdat ?_)
      rw [entry_at he j, hj, Option.map_some]
      refine wpAny_bind (wpAny_updateDictKeys (hz := by rw [hsz]; exact hz) (s := { s with toks := s.toks + knd.draws k }) ho hdat (wpAny_pure ?_))
      have hnew : (s.heap.update d (Obj.mapDictKeys fun x => x.eraseIdxIfInBounds j)).DictOfH knd d (xs.filter fun x => decide (x.1 ≠ k)) := by
        refine ⟨_, _, ep + 1, Heap.get?_update_self _ ho (Obj.isFreed_of_dict (Obj.data_mapDictKeys hdat _)), hc.mapDictKeys _, Obj.data_mapDictKeys hdat _, ?_, fun x hx => ?_, ?_⟩
        · rw [← erase_filter xs j k q hn hj, ← map_erase, ← he]
          obtain ⟨l⟩ := es
          simp
        · exact knd.keeps (his x (List.mem_filter.mp hx).1) ho hdat (Heap.SameBut.update ..)
        · exact hn.sublist ((List.filter_sublist).map _)
      simp only [Option.isNone_some, Bool.false_eq_true, if_false]
      exact wpAny_bind (wpAny_letGo (wpAny_pure ⟨q.2, rfl, h _ hnew (Heap.SameBut.update ..)⟩))
end

theorem KT.drop {H : Hp} {kvs : List (List Key × V)} {xs : List (List Key × Addr × Value)} (r : KT H kvs xs) (k : List Key) : KT H (dropK kvs k) (xs.filter fun x => decide (x.1 ≠ k)) := by
  induction r with
  | nil => exact .nil
  | @cons p q ps qs h t ih =>
    unfold dropK at ih ⊢
    rw [List.filter_cons, List.filter_cons]
    by_cases e : p.1 = k
    · have e' : q.1 = k := h.1.symm.trans e
      rw [if_neg (by simp [e]), if_neg (by simp [e'])]
      exact ih
    · have e' : ¬ q.1 = k := fun z => e (h.1.trans z)
      rw [if_pos (by simp [e]), if_pos (by simp [e'])]
      exact .cons h ih

section
variable {X : Cx} {pins : List (Addr × Obj)} {σ : St} {H : Hp} {s : Shared} {a b : Addr} {kvs : List (List Key × V)} {k : List Key} {A : Around} {E : Value → Shared → Prop}
theorem d_popT {v : V} {Q : Value → Shared → Prop} (hu : A.units + 1 < cLine) (I : Inv X pins σ H s) (e : H a = some (.dT kvs)) (eb : H b = some (.tup (k.map kV))) (l : valV kvs k = some v)
    (h : ∀ w' s', Inv X pins σ (upd H a (.dT (dropK kvs k))) s' → RelV v w' → Q w' s') : wpAny (model X.prog X.w) A (call (.builtin "dict.pop") [.ref a, .ref b]) Q E s := by
  obtain ⟨z, hd, xs, rel, dd⟩ := dt_of I.hok e
  obtain ⟨w', hw, rw'⟩ := RelO.some_of (v := v) (o := (atKey xs k).map (·.2)) (by rw [← l]; exact rel.val k)
  obtain ⟨p, hp, rfl⟩ := Option.map_eq_some_iff.mp hw
  refine call_meetsIn PySem.F.slot_dict_pop dd.typeIs PySem.F.entry_dict_pop (PySem.F.args_dict_pop_2 _ _) (pop_meetsH (tupleKind (mixKind X.prog X.w)) a b)
    ⟨tupleKind_room_in1 hu, k, xs, p, key_of I.hok eb, dd, by rw [← Paired.length rel]; exact z, hp, fun h' dd' hs => h _ _ ?_ rw'⟩
  obtain ⟨q, es, ep, hq, h2, h3, h4, _, h5⟩ := dd'
  refine d_write I (by rw [e]; exact True.intro) hs ⟨q, hq⟩ ⟨Nat.le_trans (dropK_le kvs k) z, hd, _, (rel.drop k).keeps fun c ys ec => ?_, q, es, ep, hq, h2, h3, h4, h5⟩
  rw [upd_ne (ne_of ec e (fun z => nomatch z))]
  exact ec
end


noncomputable def rPopT : V → List V → Hp → VK → Prop := fun x vs H Q => ∃ a b kvs k v, x = .ref a ∧ vs = [.ref b] ∧ H a = some (.dT kvs) ∧ H b = some (.tup (k.map kV)) ∧ valV kvs k = some v ∧ Q v (upd H a (.dT (dropK kvs k)))
theorem mt_popT {X : Cx} (hu : X.A.units + 1 < cLine) : MtR X "dict.pop" rPopT := by
  intro pins s σ H x xs v us Q I rx rs q
  obtain ⟨a, b, kvs, k, y, rfl, rfl, ha, hb, hl, q⟩ := q
  cases rx
  obtain ⟨u, rfl, ru⟩ := rs.one
  cases ru
  exact d_popT hu I ha hb hl fun w' s' I' r' => ⟨y, _, I', r', q⟩



noncomputable def RawD (h : Heap) (d : Addr) (es : Array DictEntry) (ep : Nat) : Prop := ∃ o, h.get? d = some o ∧ o.ExactDict ∧ o.data = .dict es ep
theorem RawD.typeIs {s : Shared} {d : Addr} {es : Array DictEntry} {ep : Nat} (r : RawD s.heap d es ep) : s.TypeIs (.ref d) "dict" := let ⟨o, ho, hc, _⟩ := r; ⟨o, ho, hc.1⟩
theorem RawD.at {h h' : Heap} {d : Addr} {es : Array DictEntry} {ep : Nat} (r : RawD h d es ep) (k : ∀ o, h.get? d = some o → h'.get? d = some o) : RawD h' d es ep := let ⟨o, ho, x⟩ := r; ⟨o, k o ho, x⟩
theorem RawD.lt {h : Heap} {d : Addr} {es : Array DictEntry} {ep : Nat} (r : RawD h d es ep) : d < h.objs.size := let ⟨_, ho, _⟩ := r; Heap.lt_size ho

section
variable {prog : Program} {w : World} {A : Around} {E : Value → Shared → Prop} {s : Shared} {d : Addr} {es : Array DictEntry} {ep : Nat}
theorem raw_len {Q : Value → Shared → Prop} (hd : (d == sysModules) = false) (r : RawD s.heap d es ep) (hfit : es.size ≤ sizeLine) (h : ∀ t tk, Q (.int es.size t) { s with toks := tk }) :
    wpAny (model prog w) A (call (.builtin "len") [.ref d]) Q E s := by
  have hf63 : es.size < 2 ^ 63 := Nat.lt_of_le_of_lt hfit line63
  have hlen : MeetsIn prog w (Builtin.«dict.__len__» ⟨[.ref d], []⟩) (fun _ R s => RawD s.heap d es ep ∧ R (.ok (.ret (.int es.size s.toks))) { s with toks := s.toks + 1 }) :=
    .of_wp fun A R s ⟨⟨o, ho, _, hdat⟩, h⟩ => by
      show wpAny _ _ (dictSize d >>= _) _ _ s
      unfold dictSize
      refine wpAny_bind (wpAny_bind (wpAny_dictEntries ho hdat (wpAny_pure ?_)))
      show wpAny _ _ (Builtin.Dict.pendingCount d >>= _) _ _ s
      refine wpAny_bind (wpAny_pendingCount_other hd (wpAny_ret_mkInt ?_))
      rw [Nat.add_zero]
      exact h
  refine Calls.call_function_entry kind_len plain_len entry_len (args_len1 _) ?_
  unfold Builtin.«len»
  refine wpAny_bind (m := oneArg "len" _) (wpAny_pure ?_)
  refine wpAny_bind (m := callSpecial? (.ref d) (Str.ofString "__len__")) (wpAny_callSpecial?_slot (name := Str.ofString "__len__") r.typeIs F.slot_dict_len
    (call_meetsIn F.slot_dict_len r.typeIs F.entry_dict_len (F.args_dict_len_1 _) hlen ⟨r, ?_⟩))
  show wpAny _ _ _ _ _ { s with toks := s.toks + 1 }
  refine wpAny_bind (wpAny_holding (wpAny_pure (wpAny_bind (wpAny_letGo ?_))))
  show wpAny _ _ (if ((es.size : Nat) : Int) < 0 then _ else _) _ _ _
  rw [if_neg (by omega)]
  show wpAny _ _ (if ((es.size : Nat) : Int) ≥ 2 ^ 63 then _ else _) _ _ _
  rw [if_neg (by omega)]
  exact wpAny_bind (wpAny_mkInt (wpAny_pure ⟨_, rfl, h _ _⟩))


end


theorem refs_vals : ∀ xs : List (List Key × Addr × Value), Vals (xs.map fun x => V.ref x.2.1) (xs.map fun x => Value.ref x.2.1)
  | [] => .nil
  | _ :: r => .cons rfl (refs_vals r)

noncomputable def KeyRefs (H : Hp) (kvs : List (List Key × V)) (bs : List V) : Prop := Paired (fun (p : List Key × V) (y : V) => ∃ b, y = .ref b ∧ H b = some (.tup (p.1.map kV))) kvs bs
theorem KT.refs {H : Hp} {kvs : List (List Key × V)} {xs : List (List Key × Addr × Value)} (h : KT H kvs xs) : KeyRefs H kvs (xs.map fun x => V.ref x.2.1) := by
  induction h with
  | nil => exact .nil
  | cons h t ih => exact .cons ⟨_, rfl, h.2.1⟩ ih
section
variable {X : Cx} {pins : List (Addr × Obj)} {σ : St} {H : Hp} {s : Shared} {a : Addr} {kvs : List (List Key × V)} {A : Around} {E : Value → Shared → Prop}
theorem dt_raw (I : Inv X pins σ H s) (e : Rd H a (.dT kvs)) : ∃ es ep, (a == sysModules) = false ∧ RawD s.heap a es ep ∧ es.size = kvs.length ∧ kvs.length ≤ sizeLine ∧
    ∀ vs : List Value, vs.length = es.size → (∀ (j : Nat) (v : Value), vs[j]? = some v → ∃ e, es[j]? = some e ∧ v = e.key) → ∃ bs, KeyRefs H kvs bs ∧ Vals bs vs := by
  obtain ⟨z, hd, xs, rel, o, es, ep, ho, hc, hdat, he, _, _⟩ := dt_rd I.hok e
  have hsz := size_of_entries he
  have hl := Paired.length rel
  refine ⟨es, ep, hd, ⟨o, ho, hc, hdat⟩, by omega, z, fun vs hv hk => ?_⟩
  have hvs : vs = xs.map fun x => Value.ref x.2.1 := by
    apply List.ext_getElem?
    intro j
    rw [List.getElem?_map]
    cases q : vs[j]? with
    | none =>
      have h1 : vs.length ≤ j := List.getElem?_eq_none_iff.mp q
      rw [List.getElem?_eq_none (by omega), Option.map_none]
    | some v =>
      obtain ⟨en, h1, rfl⟩ := hk j v q
      rw [entry_at he j] at h1
      cases q2 : xs[j]? with
      | none => rw [q2] at h1; cases h1
      | some x =>
        rw [q2] at h1
        cases h1
        rfl
  subst hvs
  exact ⟨xs.map fun x => V.ref x.2.1, KT.refs rel, refs_vals xs⟩

theorem d_lenT {Q : Value → Shared → Prop} (I : Inv X pins σ H s) (e : Rd H a (.dT kvs)) (h : ∀ t s', Inv X pins σ H s' → Q (.int kvs.length t) s') : wpAny (model X.prog X.w) A (call (.builtin "len") [.ref a]) Q E s := by
  obtain ⟨es, ep, hd, r, hs, z, _⟩ := dt_raw I e
  refine raw_len hd r (by omega) fun t tk => ?_
  rw [hs]
  exact h t _ (I.tok tk)
end

theorem call_lenT {X : Cx} : CallR X (.builtin "len") (fun xs H Q => ∃ a kvs, xs = [V.ref a] ∧ H a = some (.dT kvs) ∧ Q (.int kvs.length) H) := by
  intro pins s σ H xs us Q I r h
  obtain ⟨a, kvs, rfl, ha, q⟩ := h
  obtain ⟨u, rfl, ru⟩ := vals1 r
  cases ru
  exact d_lenT I (.inl ha) fun t s' I' => ⟨.int kvs.length, H, I', ⟨t, rfl⟩, q⟩


end L2

set_option maxHeartbeats 1000000

namespace HwSort
open PySem PySem.W PySem.Spec PyProof.Rows HT


section
variable {prog : Program} {w : World} {A : Around} {E : Value → Shared → Prop} {s : Shared}
noncomputable def TupsAre (h : Heap) (a : Addr) : List Value → List (List Int) → Prop := Paired fun v ks => ∃ b o xs n, v = Value.ref b ∧ b ≠ a ∧ h.get? b = some o ∧ o.cls = .type "tuple" ∧ o.data = .seq xs n ∧ IntsAre xs.toList ks ∧ ks ≠ []
theorem TupsAre.keeps {h h' : Heap} {a : Addr} {vs : List Value} {kss : List (List Int)} (t : TupsAre h a vs kss) (k : ∀ b o, b ≠ a → h.get? b = some o → h'.get? b = some o) : TupsAre h' a vs kss :=
  L2.Paired.mapP t fun v ks hh9 => by obtain ⟨b, o, xs, n, e, hb, ho, r⟩ := hh9; exact ⟨b, o, xs, n, e, hb, k b o hb ho, r⟩
theorem TupsAre.get {h : Heap} {a : Addr} {vs : List Value} {kss : List (List Int)} (x : TupsAre h a vs kss) (i : Nat) (hi : i < vs.length) : ∃ b o xs n, vs.getD i Value.none = Value.ref b ∧ h.get? b = some o ∧ o.data = .seq xs n ∧ IntsAre xs.toList (kss.getD i []) := by
  induction x generalizing i with
  | nil => exact absurd hi (Nat.not_lt_zero _)
  | cons x t ih =>
    cases i with
    | zero =>
      obtain ⟨b, o, xs, n, e, _, ho, _, hd, hi, _⟩ := x
      exact ⟨b, o, xs, n, by simp [e], ho, hd, by simpa using hi⟩
    | succ i =>
      obtain ⟨b, o, xs, n, e, r⟩ := ih i (by simpa using hi)
      exact ⟨b, o, xs, n, by simpa using e, by simpa using r⟩
structure Sorted (vs : List Value) (kss : List (List Int)) (out : List Value) (oss : List (List Int)) : Prop where
  perm : oss.Perm kss
  rise : oss.Pairwise fun x y => HT.lexLt x y = true
  same : ∃ ps : List Nat, ps.Perm (List.range vs.length) ∧ out = ps.map (fun i => vs.getD i Value.none) ∧ oss = ps.map fun i => kss.getD i []
end
end HwSort

namespace L2
open PySem PySem.Spec PyProof.Rows HwSort


noncomputable def TupRefs (H : Hp) : List V → List (List Int) → Prop := Paired fun y ks => ∃ b, y = V.ref b ∧ H b = some (.tup (ks.map V.int))
theorem TupRefs.keeps {H H' : Hp} {bs : List V} {kss : List (List Int)} (t : TupRefs H bs kss) (k : ∀ b xs, H b = some (.tup xs) → H' b = some (.tup xs)) : TupRefs H' bs kss :=
  Paired.mapP t fun _ _ hh9 => by obtain ⟨b, e, h⟩ := hh9; exact ⟨b, e, k b _ h⟩
theorem TupRefs.same {H H' : Hp} {bs : List V} {kss : List (List Int)} (t : TupRefs H bs kss) (k : Same H H') : TupRefs H' bs kss := t.keeps fun b _ h => k b _ h
theorem TupRefs.get {H : Hp} {bs : List V} {kss : List (List Int)} (t : TupRefs H bs kss) {i : Nat} {y : V} (hy : bs[i]? = some y) : ∃ b ks, y = V.ref b ∧ kss[i]? = some ks ∧ H b = some (.tup (ks.map V.int)) := by
  induction t generalizing i with
  | nil => simp at hy
  | cons h t ih =>
    cases i with
    | zero =>
      obtain ⟨b, e, h⟩ := h
      rw [List.getElem?_cons_zero] at hy
      exact ⟨b, _, (Option.some.inj hy).symm.trans e, rfl, h⟩
    | succ i => exact ih hy
section
variable {X : Cx} {pins : List (Addr × Obj)} {σ : St} {H : Hp} {s : Shared}
end


end L2

set_option maxHeartbeats 1000000

namespace Hw
open PySem L2 HwSort

noncomputable abbrev Pr := Int × Int

noncomputable abbrev Cs := List (Pr × Int)
noncomputable def encK (k : Pr) : List Key := [Sum.inl k.1, Sum.inl k.2]
noncomputable def enc (cs : Cs) : List (List Key × V) := cs.map fun e => (encK e.1, V.int e.2)
noncomputable def lookC (cs : Cs) (k : Pr) : Option Int := (cs.find? fun e => decide (e.1 = k)).map (·.2)
noncomputable def putC (cs : Cs) (k : Pr) (v : Int) : Cs := if (cs.any fun e => decide (e.1 = k)) = true then cs.map (fun e => if e.1 = k then (e.1, v) else e) else cs ++ [(k, v)]
noncomputable def dropC (cs : Cs) (k : Pr) : Cs := cs.filter fun e => decide (e.1 ≠ k)
noncomputable def optV : Option Int → V
  | none => .non
  | some i => .int i
noncomputable def two (k : Pr) : List Int := [k.1, k.2]

theorem encK_inj {a b : Pr} (h : encK a = encK b) : a = b := by
  obtain ⟨a1, a2⟩ := a
  obtain ⟨b1, b2⟩ := b
  simp only [encK, List.cons.injEq, Sum.inl.injEq, and_true] at h
  rw [h.1, h.2]
theorem encK_iff {a b : Pr} : encK a = encK b ↔ a = b := ⟨encK_inj, fun e => by rw [e]⟩
theorem enc_len (cs : Cs) : (enc cs).length = cs.length := by simp [enc]
theorem val_enc (k : Pr) : ∀ cs : Cs, valV (enc cs) (encK k) = (lookC cs k).map V.int
  | [] => rfl
  | e :: r => by
    have ih := val_enc k r
    by_cases h : e.1 = k
    · have h2 : (encK e.1, V.int e.2).1 = encK k := by rw [h]
      show valV ((encK e.1, V.int e.2) :: enc r) (encK k) = _
      rw [valV_pos h2]
      simp [lookC, List.find?_cons, h]
    · have h2 : ¬ (encK e.1, V.int e.2).1 = encK k := fun z => h (encK_inj z)
      show valV ((encK e.1, V.int e.2) :: enc r) (encK k) = _
      rw [valV_neg h2, ih]
      simp [lookC, List.find?_cons, h]
theorem put_enc (cs : Cs) (k : Pr) (v : Int) : putK (enc cs) (encK k) (V.int v) = enc (putC cs k v) := by
  have e : ((enc cs).any fun kv => decide (kv.1 = encK k)) = (cs.any fun e => decide (e.1 = k)) := by
    simp only [enc, List.any_map]
    congr 1
    funext x
    simp only [Function.comp, encK_iff]
  unfold putK putC
  rw [e]
  split
  · simp only [enc, List.map_map]
    apply List.map_congr_left
    intro x _
    simp only [Function.comp, encK_iff]
    split <;> rfl
  · simp [enc]
theorem drop_enc (cs : Cs) (k : Pr) : dropK (enc cs) (encK k) = enc (dropC cs k) := by
  unfold dropK dropC enc
  rw [List.filter_map]
  congr 1
  apply List.filter_congr
  intro x _
  simp only [Function.comp, ne_eq, encK_iff]


noncomputable def keysC (cs : Cs) : List Pr := cs.map (·.1)
theorem look_some_mem {cs : Cs} {k : Pr} {v : Int} (h : lookC cs k = some v) : (k, v) ∈ cs := by
  unfold lookC at h
  obtain ⟨e, he, rfl⟩ := Option.map_eq_some_iff.mp h
  have h1 := List.find?_some he
  have h2 := List.mem_of_find?_eq_some he
  have h3 : e.1 = k := of_decide_eq_true h1
  rw [← h3]
  exact h2
theorem look_none {cs : Cs} {k : Pr} (h : lookC cs k = none) : k ∉ keysC cs := by
  intro hk
  obtain ⟨e, he, e2⟩ := List.mem_map.mp hk
  unfold lookC at h
  rw [Option.map_eq_none_iff, List.find?_eq_none] at h
  exact h e he (decide_eq_true e2)
theorem keys_put (cs : Cs) (k : Pr) (v : Int) : keysC (putC cs k v) = if k ∈ keysC cs then keysC cs else keysC cs ++ [k] := by
  have e : (cs.any fun e => decide (e.1 = k)) = true ↔ k ∈ keysC cs := by
    rw [List.any_eq_true]
    constructor
    · rintro ⟨x, hx, h⟩
      exact List.mem_map.mpr ⟨x, hx, of_decide_eq_true h⟩
    · intro h
      obtain ⟨x, hx, h⟩ := List.mem_map.mp h
      exact ⟨x, hx, decide_eq_true h⟩
  unfold putC
  by_cases h : k ∈ keysC cs
  · rw [if_pos (e.mpr h), if_pos h]
    unfold keysC
    rw [List.map_map]
    apply List.map_congr_left
    intro x _
    simp only [Function.comp]
    split <;> rfl
  · rw [if_neg (fun z => h (e.mp z)), if_neg h]
    simp [keysC]
theorem nodup_put {cs : Cs} (k : Pr) (v : Int) (hn : (keysC cs).Nodup) : (keysC (putC cs k v)).Nodup := by
  rw [keys_put]
  split
  · exact hn
  · next h =>
    rw [List.nodup_append]
    exact ⟨hn, by simp, fun a ha b hb => by rw [List.mem_singleton.mp hb]; exact fun e => h (e ▸ ha)⟩
theorem len_put (cs : Cs) (k : Pr) (v : Int) : (putC cs k v).length ≤ cs.length + 1 := by
  have := congrArg List.length (keys_put cs k v)
  unfold keysC at this
  rw [List.length_map] at this
  rw [this]
  split <;> simp
theorem mem_keys_put {cs : Cs} {k j : Pr} {v : Int} (h : j ∈ keysC (putC cs k v)) : j = k ∨ j ∈ keysC cs := by
  rw [keys_put] at h
  split at h
  · exact .inr h
  · rcases List.mem_append.mp h with h | h
    · exact .inr h
    · exact .inl (List.mem_singleton.mp h)
theorem len_one {α : Type} {l : List α} (h : l.length = 1) : ∃ a, l = [a] := by
  match l, h with
  | [a], _ => exact ⟨a, rfl⟩
noncomputable def flds (many : Int) (d : Addr) : List (Str × V) := putF "costs" (.ref d) (putF "tellers" (.int many) [])
theorem tc : ¬ (("tellers" : Str) = "costs") := by decide +kernel
theorem ct : ¬ (("costs" : Str) = "tellers") := by decide +kernel
theorem flds_many (many : Int) (d : Addr) : (flds many d).lookup ("tellers" : Str) = some (.int many) := by
  unfold flds
  rw [lookup_putF, if_neg tc, lookup_putF, if_pos rfl]
theorem flds_costs (many : Int) (d : Addr) : (flds many d).lookup ("costs" : Str) = some (.ref d) := by
  unfold flds
  rw [lookup_putF, if_pos rfl]
theorem flds_no (many : Int) (d : Addr) {m : Str} (h1 : ¬ m = "costs") (h2 : ¬ m = "tellers") : (flds many d).lookup m = none := by
  unfold flds
  rw [lookup_putF, if_neg h1, lookup_putF, if_neg h2]
  rfl
structure BookAt (C : Addr) (H : Hp) (p d : Addr) (many : Int) (cs : Cs) : Prop where
  ob : ∃ dx, H p = some (.ins C dx (flds many d))
  dc : H d = some (.dT (enc cs))

noncomputable def KeepBut (d : Addr) (H H' : Hp) : Prop := ∀ b o, H b = some o → b ≠ d → H' b = some o
theorem Same.keepBut {H H' : Hp} (h : Same H H') (d : Addr) : KeepBut d H H' := fun b o e _ => h b o e
theorem BookAt.same {C : Addr} {H H' : Hp} {p d : Addr} {many : Int} {cs : Cs} (b : BookAt C H p d many cs) (h : Same H H') : BookAt C H' p d many cs :=
  ⟨let ⟨dx, e⟩ := b.ob; ⟨dx, h _ _ e⟩, h _ _ b.dc⟩
theorem BookAt.ne {C : Addr} {H : Hp} {p d : Addr} {many : Int} {cs : Cs} (b : BookAt C H p d many cs) : p ≠ d := by
  obtain ⟨dx, e⟩ := b.ob
  exact ne_of e b.dc (fun z => nomatch z)
theorem same_upd {H : Hp} {p : Addr} {o : HO} (h : H p = none) : Same H (upd H p o) := fun b u e => by rw [upd_ne (ne_of_none e h)]; exact e
theorem BookAt.upd {C : Addr} {H : Hp} {p d q : Addr} {many : Int} {cs : Cs} {o : HO} (b : BookAt C H p d many cs) (h1 : q ≠ p) (h2 : q ≠ d) : BookAt C (L2.upd H q o) p d many cs :=
  ⟨let ⟨dx, e⟩ := b.ob; ⟨dx, by rw [upd_ne h1.symm]; exact e⟩, by rw [upd_ne h2.symm]; exact b.dc⟩
theorem BookAt.keepBut {C : Addr} {H H' : Hp} {p d d' : Addr} {many : Int} {cs : Cs} (b : BookAt C H p d many cs) (k : KeepBut d' H H') (h1 : p ≠ d') (h2 : d ≠ d') : BookAt C H' p d many cs :=
  ⟨let ⟨dx, e⟩ := b.ob; ⟨dx, k _ _ e h1⟩, k _ _ b.dc h2⟩
noncomputable def Ok2 (many one other : Int) : Prop := 0 ≤ one ∧ one < many ∧ 0 ≤ other ∧ other < many ∧ one ≠ other ∧ other ≠ 0


inductive sp_many (C : Addr) (vs : List V) (H : Hp) (Q : VK) (E : XK) : Prop
  | mk (p d : Addr) (many : Int) (cs : Cs) (h09 : vs = [.ref p]) (h19 : BookAt C H p d many cs) (h29 : Q (.int many) H) : sp_many C vs H Q E
inductive sp_cost (C : Addr) (vs : List V) (H : Hp) (Q : VK) (E : XK) : Prop
  | mk (p d : Addr) (many : Int) (cs : Cs) (one other : Int) (h09 : vs = [.ref p, .int one, .int other]) (h19 : BookAt C H p d many cs) (h29 : Ok2 many one other) (h39 : ∀ H', Same H H' → Q (optV (lookC cs (one, other))) H') : sp_cost C vs H Q E
end Hw

set_option maxHeartbeats 1000000

namespace L2
open PySem PySem.Spec PyProof.Rows


theorem boot_len : bootBuiltins "len" = some (.builtin "len") := by decide +kernel
theorem boot_isinstance : bootBuiltins "isinstance" = some (.builtin "isinstance") := by decide +kernel
theorem boot_all : bootBuiltins "all" = some (.builtin "all") := by decide +kernel
theorem boot_sum : bootBuiltins "sum" = some (.builtin "sum") := by decide +kernel
theorem boot_list : bootBuiltins "list" = some (.type "list") := by decide +kernel
theorem boot_int : bootBuiltins "int" = some (.type "int") := by decide +kernel
theorem boot_str : bootBuiltins "str" = some (.type "str") := by decide +kernel
section
variable (P : Program) (w : World) (K : PySem.W.Frag) (mg : Str → Option Value) (base : Heap)
noncomputable def Def (k : Nat) (x : Str) (ps : List Str) (sp : Sp) : Prop := ∃ f fd, FnOk P w K mg base CX0 k f fd ps sp ∧ mg x = some (.ref f) ∧ PySem.W.keepIn K (.ref f) = true ∧ Binds K fd ps []
noncomputable def MetD (C : Addr) (k : Nat) (m : Str) (ps : List Str) (sp : Sp) : Prop := ∃ f fd, FnOk P w K mg base CX0 k f fd ps sp ∧ Meth K C m f ∧ Binds K fd ps []
noncomputable def MakD (C : Addr) (k : Nat) (x : Str) (ps : List Str) (sp : Sp) : Prop := ∃ f fd, FnOk P w K mg base CX0 k f fd ps sp ∧ Mk K C f ∧ mg x = some (.ref C) ∧ Binds K fd ps []

noncomputable def FunAt (x qual : Str) (st : Stmt) : Prop := ∃ f fd, Fun K x qual st f fd ∧ mg x = some (.ref f)
noncomputable def MetAt (C : Addr) (x qual : Str) (st : Stmt) : Prop := ∃ f fd, Fun K x qual st f fd ∧ Meth K C x f
noncomputable def MakAt (C : Addr) (c x qual : Str) (st : Stmt) : Prop := ∃ f fd, Fun K x qual st f fd ∧ Mk K C f ∧ mg c = some (.ref C)
end
section
variable {P : Program} {w : World} {K : PySem.W.Frag} {mg : Str → Option Value} {base : Heap} {C : Addr}

noncomputable def BodyOk (P : Program) (w : World) (K : PySem.W.Frag) (mg : Str → Option Value) (base : Heap) (qual : Str) (st : Stmt) (N : List Str) (k : Nat) (sp : Sp) : Prop :=
  ∀ (f : Addr) (cdv : Value) (A : Around) (outer : List Env) (s : Shared) (H : Hp) (vs : List V) (Q : VK) (E : XK), Room k (A.deeper (envOfC qual (defScope st) s.heap.objs.size f cdv)) → sp vs H Q E →
    ∃ t, PSs (cxOf CX0 P w K mg base N qual (defScope st) f cdv A outer s H E).nox (defBody st) t ∧ t { nx := fun _ H' => Q .non H', rt := Q } (start N vs) H
noncomputable def BindOk (x qual : Str) (st : Stmt) (ps : List Str) : Prop := ∀ (kV doc pm : Value) (an : Option Addr) (cdv ct : Value) (us : List Value), us.length = ps.length → bindArgs (PySem.W.fnOf x qual (defArgs st) (defBody st) (defScope st) .none kV doc pm an cdv ct) ⟨us, []⟩ = pure (ps.zip us)
theorem FunAt.def {x qual : Str} {st : Stmt} {N ps : List Str} {k : Nat} {sp : Sp} (F : FunAt K mg x qual st) (S : FnScope N ps (defScope st)) (hb : BindOk x qual st ps) (len : ∀ vs H Q E, sp vs H Q E → vs.length = ps.length) (h : BodyOk P w K mg base qual st N k sp) : Def P w K mg base (k + 1) x ps sp := by
  obtain ⟨f, fd, F, e⟩ := F
  exact ⟨f, fd, F.ok S len (h f), e, F.kp, F.binds hb⟩
theorem MetAt.def {x qual : Str} {st : Stmt} {N ps : List Str} {k : Nat} {sp : Sp} (F : MetAt K C x qual st) (S : FnScope N ps (defScope st)) (hb : BindOk x qual st ps) (len : ∀ vs H Q E, sp vs H Q E → vs.length = ps.length) (h : BodyOk P w K mg base qual st N k sp) : MetD P w K mg base C (k + 1) x ps sp := by
  obtain ⟨f, fd, F, e⟩ := F
  exact ⟨f, fd, F.ok S len (h f), e, F.binds hb⟩
theorem MakAt.def {c x qual : Str} {st : Stmt} {N ps : List Str} {k : Nat} {sp : Sp} (F : MakAt K mg C c x qual st) (S : FnScope N ps (defScope st)) (hb : BindOk x qual st ps) (len : ∀ vs H Q E, sp vs H Q E → vs.length = ps.length) (h : BodyOk P w K mg base qual st N k sp) : MakD P w K mg base C (k + 1) c ps sp := by
  obtain ⟨f, fd, F, e, e2⟩ := F
  exact ⟨f, fd, F.ok S len (h f), e, e2, F.binds hb⟩
end
section
variable {X : Cx} {k : Nat} {C : Addr} {ps : List Str} {sp : Sp} {x m : Str} {p pos apos : Pos} {e o : Expr} {es : List Expr} {ta : TE} {t : TA}
theorem pe_callD (D : Def X.prog X.w X.K X.mg X.base k x ps sp) (hr : Room k X.A) (ha : PA X (e :: es) t) (hg : Gl X x := by rfl) (hdb : (x == ("__debug__" : Str)) = false := by decide)
    (he : starEach (e :: es) X.env = (false, eval e X.env) :: starEach es X.env := by rfl) (hpl : (backTo pos (starEach es X.env)).any (·.1) = false := by rfl) : PE X (.Call (.Name x p) (e :: es) [] pos) (tCall sp [] E0 t) := by
  obtain ⟨f, fd, F, hm, hk, hb⟩ := D
  exact pe_call F hr hg hm hk hb .nil pass0 ha hdb he hpl
theorem pe_methD {pl : Sem Bool} (D : MetD X.prog X.w X.K X.mg X.base C k m ps sp) (c : Cls X.K C) (hr : Room k X.A) (he : PE X o ta) (ha : PA X (e :: es) t)
    (hst : starEach (e :: es) X.env = (false, eval e X.env) :: starEach es X.env := by rfl) (hpl : (backTo pos (starEach es X.env)).any (·.1) = false := by rfl)
    (ht : eval (.Call (.Attribute o m apos) (e :: es) [] pos) X.env = (do
      let ov ← eval o X.env
      standAt apos.atName
      let (f, first) ← holding [ov] (getMethod ov m pl)
      callWith pos f first (backTo pos (starEach (e :: es) X.env)) (backToKw pos (keywordEach [] X.env))) := by rfl) :
    PE X (.Call (.Attribute o m apos) (e :: es) [] pos) (tMeth C m sp [] E0 ta t) := by
  obtain ⟨f, fd, F, hm, hb⟩ := D
  exact pe_meth (pl := pl) he c hm F hr hb .nil pass0 ha hst hpl ht
theorem pe_methD0 {pl : Sem Bool} (D : MetD X.prog X.w X.K X.mg X.base C k m ps sp) (c : Cls X.K C) (hr : Room k X.A) (he : PE X o ta)
    (ht : eval (.Call (.Attribute o m apos) [] [] pos) X.env = (do
      let ov ← eval o X.env
      standAt apos.atName
      let (f, first) ← holding [ov] (getMethod ov m pl)
      callWith pos f first (backTo pos (starEach [] X.env)) (backToKw pos (keywordEach [] X.env))) := by rfl) :
    PE X (.Call (.Attribute o m apos) [] [] pos) (tMeth C m sp [] E0 ta tNil) := by
  obtain ⟨f, fd, F, hm, hb⟩ := D
  exact pe_meth0 (pl := pl) he c hm F hr hb .nil pass0 ht
end


theorem TupRefs.length {H : Hp} {bs : List V} {kss : List (List Int)} (t : TupRefs H bs kss) : bs.length = kss.length := Paired.length t
theorem range_all_id (bs : List Bool) : (List.range bs.length).all (fun i => bs.getD i true) = bs.all id := by
  rw [Bool.eq_iff_iff, List.all_eq_true, List.all_eq_true]
  constructor
  · intro h b hb
    obtain ⟨j, hj, e⟩ := List.mem_iff_getElem.mp hb
    have := h j (List.mem_range.mpr hj)
    subst e
    simpa [hj] using this
  · intro h j hj
    have h2 : j < bs.length := List.mem_range.mp hj
    have := h bs[j] (List.getElem_mem h2)
    simpa [h2] using this
theorem call_allB {X : Cx} (hc : X.calm = true) : CallR X (.builtin "all") (fun xs H Q => ∃ (p : Addr) (bs : List Bool), xs = [.ref p] ∧ SqL X.K H p (bs.map V.bl) ∧ Q (.bl (bs.all id)) H) := by
  intro pins s σ H xs us Q I r h
  obtain ⟨p, bs, rfl, hp, q⟩ := h
  obtain ⟨u, rfl, ru⟩ := vals1 r
  cases ru
  obtain ⟨its, rv, pl, z⟩ := I.list hp
  have hlen : bs.length = its.length := by have := rv.length; rwa [List.length_map] at this
  have hlt : p < s.heap.objs.size := by obtain ⟨_, e, _⟩ := pl.isList; exact Heap.lt_size e
  refine call_all_walk (wpAny_pyIter_list pl.isList ?_)
  refine ⟨s.heap.objs.size, _, _, _, _, _, fun i => bs.getD i true, rfl, Walks.list (show X.A.in1.handled = none from I.ok.hd hc) s.heap.objs.size p (Nat.ne_of_lt hlt) its.toArray, ⟨⟨_, Heap.get?_push_size _ rfl, rfl, rfl⟩, pl.isList.push _⟩, fun i v s' Q' E' hP hq => ?_, fun h' tk hk => ?_⟩
  · have hv : its[i]? = some v := by simpa using hP
    have hi : i < bs.length := by rw [hlen]; exact (List.getElem?_eq_some_iff.mp hv).1
    obtain ⟨u, e1, ru⟩ := rv.get (i := i) (x := V.bl bs[i]) (by simp [hi])
    rw [hv] at e1
    cases e1
    cases ru
    have e2 : bs.getD i true = bs[i] := by simp [hi]
    have hq' : Q' (bs.getD i true) s' := hq
    rw [e2] at hq'
    exact wpAny_truthy_bool hq'
  · have e : (List.range its.toArray.size).all (fun i => bs.getD i true) = bs.all id := by
      rw [List.size_toArray, ← hlen]
      exact range_all_id bs
    rw [e]
    refine ⟨.bl (bs.all id), H, I.kept (t' := tk) fun b o hb => hk b o (fun hm => ?_) (Heap.get?_push_of_some _ hb), rfl, q⟩
    have : b = s.heap.objs.size := by simpa using hm
    exact absurd (Heap.lt_size hb) (by rw [this]; exact Nat.lt_irrefl _)
end L2

set_option maxHeartbeats 1000000

namespace L2
open PySem PySem.Spec PyProof.Rows
section
variable {K : PySem.W.Frag} {σ : St} {H : Hp} {Q : VK}
theorem rI0_int {g : Int → Int → V} {i j : Int} : rI0 g (.int i) (.int j) H Q ↔ Q (g i j) H := ⟨fun ⟨_, _, e1, e2, q⟩ => by cases e1; cases e2; exact q, fun q => ⟨i, j, rfl, rfl, q⟩⟩
theorem rI_int {C : Int → Int → Prop} {g : Int → Int → V} {i j : Int} : rI C g (.int i) (.int j) H Q ↔ C i j ∧ Q (g i j) H := ⟨fun ⟨_, _, e1, e2, c, q⟩ => by cases e1; cases e2; exact ⟨c, q⟩, fun hh9 => by obtain ⟨c, q⟩ := hh9; exact ⟨i, j, rfl, rfl, c, q⟩⟩
theorem rU_int {g : Int → V} {i : Int} : rU g (.int i) H Q ↔ Q (g i) H := ⟨fun ⟨_, e1, q⟩ => by cases e1; exact q, fun q => ⟨i, rfl, q⟩⟩
theorem rEq_int {i j : Int} : rEq (.int i) (.int j) H Q ↔ Q (.bl (decide (i = j))) H := by
  unfold rEq
  have e : decide (V.int i = V.int j) = decide (i = j) := by
    by_cases h : i = j
    · subst h; simp
    · rw [decide_eq_false h, decide_eq_false fun z => h (V.int.inj z)]
  rw [e]
  exact ⟨fun h => h.2, fun h => ⟨rfl, h⟩⟩
theorem rNe_int {i j : Int} : rNe (.int i) (.int j) H Q ↔ Q (.bl (!decide (i = j))) H := by
  unfold rNe
  have e : decide (V.int i = V.int j) = decide (i = j) := by
    by_cases h : i = j
    · subst h; simp
    · rw [decide_eq_false h, decide_eq_false fun z => h (V.int.inj z)]
  rw [e]
  exact ⟨fun h => h.2, fun h => ⟨rfl, h⟩⟩

theorem rd_fld {i : Nat} {p C dx : Addr} {fs : List (Str × V)} {v : V} {f : Str} (h1 : H p = some (.ins C dx fs)) (cl : Cls K C) (na : NoAttr K C f) (l : fs.lookup f = some v) (q : Q v H) (hσ : σ[i]? = some (some (.ref p)) := by rfl) : tFld K (tVar i) f σ H Q :=
  ⟨_, hσ, p, C, dx, fs, v, rfl, h1, cl, na, l, q⟩

end
end L2

namespace L2
open PySem PySem.Spec PyProof.Rows

noncomputable def KeepNL (H H' : Hp) : Prop := ∀ b o, H b = some o → (∀ ys, o ≠ .lst ys) → H' b = some o
theorem Same.nl {H H' : Hp} (h : Same H H') : KeepNL H H' := fun b o e _ => h b o e
theorem KeepNL.trans {H H1 H2 : Hp} (a : KeepNL H H1) (b : KeepNL H1 H2) : KeepNL H H2 := fun c o e n => b c o (a c o e n) n
theorem nl_upd {H : Hp} {p : Addr} {ys zs : List V} (h : H p = some (.lst ys)) : KeepNL H (upd H p (.lst zs)) := fun b o e n => by
  rw [upd_ne (fun z => by subst z; rw [h] at e; exact n ys (Option.some.inj e).symm)]
  exact e
section
variable {K : PySem.W.Frag} {g : Cz → TG} {te : Cz → TE} {σ : St} {Q : VK} {H1 : Hp} {n0 : Nat}

theorem comp_list_map {a : Addr} {xs : List V} (Rel : Nat → V → Hp → Prop) (hR : ∀ i v H H', Rel i v H → KeepNL H H' → Rel i v H') (hl : SqL K H1 a xs) (hlen : xs.length ≤ 100000)
    (turn : ∀ z i x ws H (F : St → V → Hp → Prop), xs[i]? = some x → ws.length = n0 → Same H1 H → (∀ ws' v H5, ws'.length = n0 → Same H H5 → Rel i v H5 → F (σ ++ ws') v H5) → g z x (σ ++ ws) H fun σ3 H3 => te z σ3 H3 fun v H5 => F σ3 v H5)
    (q : ∀ p vs H', H1 p = none → Same H1 H' → H' p = some (.lst vs) → vs.length = xs.length → (∀ i v, vs[i]? = some v → Rel i v H') → Q (.ref p) H') : CompR n0 g (fun _ => tYes) te σ Q (Itl K a) H1 := by
  refine comp_list (xs := xs) (fun p i σ' H' => ∃ ws vs, σ' = σ ++ ws ∧ ws.length = n0 ∧ Same H1 H' ∧ H' p = some (.lst vs) ∧ vs.length = i ∧ ∀ j v, vs[j]? = some v → Rel j v H')
    (fun p hp => ⟨_, [], rfl, List.length_replicate, fun b o e => by rw [upd_ne (ne_of_none e hp)]; exact e, upd_same, rfl, fun j v h => by simp at h⟩) (fun p i σ' H' hp hi hh9 => by obtain ⟨_, _, _, _, s, _⟩ := hh9; exact s.seq hl) ?_ ?_
  · rintro p z i x σ' H' hp hx ⟨ws, vs, rfl, hw, s, hv, rfl, hr⟩
    refine turn z vs.length x ws H' (fun σ3 v H5 => ∃ ys, H5 p = some (.lst ys) ∧ ys.length < sizeLine ∧ ∃ ws vs', σ3 = σ ++ ws ∧ ws.length = n0 ∧ Same H1 (upd H5 p (.lst (ys ++ [v]))) ∧ upd H5 p (.lst (ys ++ [v])) p = some (.lst vs') ∧ vs'.length = vs.length + 1 ∧
      ∀ j w, vs'[j]? = some w → Rel j w (upd H5 p (.lst (ys ++ [v])))) hx hw s fun ws' v H5 hw' s5 r => ?_
    have hi : vs.length < xs.length := (List.getElem?_eq_some_iff.mp hx).1
    have h5 : H5 p = some (.lst vs) := s5 _ _ hv
    refine ⟨vs, h5, by rw [sizeLine_eq]; omega, ws', vs ++ [v], rfl, hw', fun b o e => ?_, upd_same, by simp, fun j w hj => ?_⟩
    · rw [upd_ne (ne_of_none e hp)]
      exact s5 _ _ (s _ _ e)
    · have k5 : KeepNL H5 (upd H5 p (.lst (vs ++ [v]))) := nl_upd h5
      by_cases hjl : j < vs.length
      · rw [List.getElem?_append_left hjl] at hj
        exact hR j w _ _ (hr j w hj) (s5.nl.trans k5)
      · rw [List.getElem?_append_right (by omega)] at hj
        have e0 : j - vs.length = 0 := by
          have := (List.getElem?_eq_some_iff.mp hj).1
          simp at this
          omega
        rw [e0] at hj
        have ej : j = vs.length := by omega
        subst ej
        cases hj
        exact hR _ _ _ _ r k5
  · rintro p σ' H' hp ⟨ws, vs, rfl, hw, s, hv, hl', hr⟩
    exact q p vs H' hp s hv hl' hr

theorem comp_range_map {lo : Int} {n : Nat} (Rel : Nat → V → Hp → Prop) (hR : ∀ i v H H', Rel i v H → KeepNL H H' → Rel i v H') (hlen : n ≤ 100000)
    (turn : ∀ z i ws H (F : St → V → Hp → Prop), i < n → ws.length = n0 → Same H1 H → (∀ ws' v H5, ws'.length = n0 → Same H H5 → Rel i v H5 → F (σ ++ ws') v H5) → g z (.int (lo + i)) (σ ++ ws) H fun σ3 H3 => te z σ3 H3 fun v H5 => F σ3 v H5)
    (q : ∀ p vs H', H1 p = none → Same H1 H' → H' p = some (.lst vs) → vs.length = n → (∀ i v, vs[i]? = some v → Rel i v H') → Q (.ref p) H') : CompR n0 g (fun _ => tYes) te σ Q (Itr lo n) H1 := by
  refine comp_range (fun p i σ' H' => ∃ ws vs, σ' = σ ++ ws ∧ ws.length = n0 ∧ Same H1 H' ∧ H' p = some (.lst vs) ∧ vs.length = i ∧ ∀ j v, vs[j]? = some v → Rel j v H')
    (fun p hp => ⟨_, [], rfl, List.length_replicate, fun b o e => by rw [upd_ne (ne_of_none e hp)]; exact e, upd_same, rfl, fun j v h => by simp at h⟩) ?_ ?_
  · rintro p z i σ' H' hp hi ⟨ws, vs, rfl, hw, s, hv, rfl, hr⟩
    refine turn z vs.length ws H' (fun σ3 v H5 => ∃ ys, H5 p = some (.lst ys) ∧ ys.length < sizeLine ∧ ∃ ws vs', σ3 = σ ++ ws ∧ ws.length = n0 ∧ Same H1 (upd H5 p (.lst (ys ++ [v]))) ∧ upd H5 p (.lst (ys ++ [v])) p = some (.lst vs') ∧ vs'.length = vs.length + 1 ∧
      ∀ j w, vs'[j]? = some w → Rel j w (upd H5 p (.lst (ys ++ [v])))) hi hw s fun ws' v H5 hw' s5 r => ?_
    have h5 : H5 p = some (.lst vs) := s5 _ _ hv
    refine ⟨vs, h5, by rw [sizeLine_eq]; omega, ws', vs ++ [v], rfl, hw', fun b o e => ?_, upd_same, by simp, fun j w hj => ?_⟩
    · rw [upd_ne (ne_of_none e hp)]
      exact s5 _ _ (s _ _ e)
    · have k5 : KeepNL H5 (upd H5 p (.lst (vs ++ [v]))) := nl_upd h5
      by_cases hjl : j < vs.length
      · rw [List.getElem?_append_left hjl] at hj
        exact hR j w _ _ (hr j w hj) (s5.nl.trans k5)
      · rw [List.getElem?_append_right (by omega)] at hj
        have e0 : j - vs.length = 0 := by
          have := (List.getElem?_eq_some_iff.mp hj).1
          simp at this
          omega
        rw [e0] at hj
        have ej : j = vs.length := by omega
        subst ej
        cases hj
        exact hR _ _ _ _ r k5
  · rintro p σ' H' hp ⟨ws, vs, rfl, hw, s, hv, hl', hr⟩
    exact q p vs H' hp s hv hl' hr
end

end L2

set_option maxHeartbeats 1000000

namespace L2
open PySem PySem.Spec PyProof.Rows
section
variable {X : Cx} {pins : List (Addr × Obj)} {σ : St} {H : Hp} {s : Shared} {a : Addr} {u u' : HO}
theorem Inv.relabel (I : Inv X pins σ H s) (ha : H a = some u) (hnt : ∀ xs, u ≠ .tup xs) (hno : ∀ y, u ≠ .own y) (htb : ∀ ps, u ≠ .tbl ps) (hfz : ∀ o v, X.H₀ a ≠ some (.frz o v)) (new : ObjOk X.prog X.w (upd H a u') s.heap a u') :
    Inv X pins σ (upd H a u') s := by
  have ne : ∀ {b : Addr}, H b = none → b ≠ a := fun {b} h z => by rw [z, ha] at h; cases h
  refine ⟨I.ok, I.os, I.bare, ⟨I.base.keep, I.base.slot, fun b o e n hx => ?_, I.base.there, fun b xs e => ?_, fun b o v e => ?_, fun b ps e => ?_⟩, I.loc, I.cell, ?_, fun x c e => ?_, fun p hp => ?_, fun b o e => ?_, I.len⟩
  · have h0 := I.base.free b o e n hx
    rw [upd_ne (ne h0)]
    exact h0
  · have h0 := I.base.tups b xs e
    have : b ≠ a := fun z => by rw [z, ha] at h0; exact hnt xs (Option.some.inj h0)
    rw [upd_ne this]
    exact h0
  · have : b ≠ a := fun z => hfz o v (z ▸ e)
    rw [upd_ne this]
    exact I.base.frzs b o v e
  · obtain ⟨more, h0⟩ := I.base.tbls b ps e
    have : b ≠ a := fun z => by rw [z, ha] at h0; exact htb _ (Option.some.inj h0)
    exact ⟨more, by rw [upd_ne this]; exact h0⟩
  · rw [upd_ne (ne I.free)]
    exact I.free
  · rw [upd_ne (ne (I.freeC x c e))]
    exact I.freeC x c e
  · obtain ⟨h1, h2, h3⟩ := I.pin p hp
    exact ⟨h1, by rw [upd_ne (ne h2)]; exact h2, h3⟩
  · by_cases hb : b = a
    · subst hb
      rw [upd_same] at e
      cases e
      exact new
    · rw [upd_ne hb] at e
      refine (I.hok b o e).stay (fun _ _ _ q => q) (fun c q => ?_) fun c xs q => ?_
      · have : c ≠ a := fun z => by rw [z, ha] at q; exact hno _ (Option.some.inj q)
        rw [upd_ne this]
        exact q
      · have : c ≠ a := fun z => by rw [z, ha] at q; exact hnt _ (Option.some.inj q)
        rw [upd_ne this]
        exact q
end

noncomputable def Itd (a : Addr) (o : Obj) (kvs : List (List Key × V)) (bs : List V) : It :=
  ⟨fun i H => H a = some (.frz o (.dT kvs)) ∧ i < bs.length, fun i H x H' => H' = H ∧ bs[i]? = some x, fun i H => H a = some (.frz o (.dT kvs)) ∧ bs.length ≤ i⟩
noncomputable def iDict (tl : TE) : TI := fun σ H R => tl σ H fun x H1 => ∃ a kvs, x = .ref a ∧ H1 a = some (.dT kvs) ∧ ∀ o bs, KeyRefs H1 kvs bs → R (Itd a o kvs bs) (upd H1 a (.frz o (.dT kvs)))
noncomputable def tThaw (t : TS) : TS := fun D σ H => ∃ a kvs, H a = some (.dT kvs) ∧ t { D with nx := fun σ' H' => (∃ o, H' a = some (.frz o (.dT kvs))) ∧ D.nx σ' (upd H' a (.dT kvs)) } σ H
section
variable {g : Cz → TG} {tt : Cz → TT} {te : Cz → TE} {σ : St} {Q : VK} {H1 : Hp} {n0 : Nat}
end
end L2

set_option maxHeartbeats 1000000

namespace L2
open PySem PySem.Spec PyProof.Rows
section
variable {prog : Program} {w : World} {A : Around} {E : Value → Shared → Prop} {s : Shared} {h₀ : Heap} {l I S : Addr} {vs : List Value} {R : Result → Shared → Prop} {Q : Value → Shared → Prop}

end
end L2

set_option maxHeartbeats 1000000

namespace L2
open PySem PySem.Spec PyProof.Rows
section
variable {X : Cx}
theorem preSum_map (f : Nat → Int) : ∀ n, preSum f n = ((List.range n).map f).sum
  | 0 => rfl
  | n + 1 => by
    rw [List.range_succ, List.map_append, List.sum_append, ← preSum_map f n]
    simp [preSum]
theorem call_sumI (hc : X.calm = true) : CallR X (.builtin "sum") (fun xs H Q => ∃ (l : Addr) (ns : List Int), xs = [.ref l] ∧ SqL X.K H l (ns.map V.int) ∧ Q (.int ns.sum) H) := by
  intro pins s σ H xs us Q I r h
  obtain ⟨l, ns, rfl, hl, q⟩ := h
  obtain ⟨u, rfl, ru⟩ := vals1 r
  cases ru
  obtain ⟨its, rv, pl, z⟩ := I.list hl
  have hi : IntsAre its ns := intsAre_of rv
  obtain ⟨xs, e⟩ := hi.allInts.items
  have hns : ns = xs.toList.map (·.1) := by
    rw [← hi.numsOf, ← nums_intItems, ← e]
  have pl' := pl.isList
  rw [e] at pl'
  refine sum_intListG (I.ok.hd hc) pl' fun h' tk t' hk => ⟨.int ns.sum, H, I.kept (t' := tk) hk, ⟨t', ?_⟩, q⟩
  rw [preSum_map]
  have : (List.range xs.size).map (numAt xs) = ns := by
    rw [hns]
    apply List.ext_getElem
    · simp
    · intro i h1 h2
      simp only [List.length_map, List.length_range] at h1
      rw [List.getElem_map, List.getElem_range, numAt_eq, List.getElem_map]
      simp [h1]
  rw [this]

end

noncomputable def ListRefs (H : Hp) : List V → List (List Int) → Prop := Paired fun y ns => ∃ b, y = V.ref b ∧ H b = some (.lst (ns.map V.int))
theorem ListRefs.get {H : Hp} {bs : List V} {kss : List (List Int)} (t : ListRefs H bs kss) {i : Nat} {y : V} (hy : bs[i]? = some y) : ∃ b ks, y = V.ref b ∧ kss[i]? = some ks ∧ H b = some (.lst (ks.map V.int)) := by
  induction t generalizing i with
  | nil => simp at hy
  | cons h t ih =>
    cases i with
    | zero =>
      obtain ⟨b, e, h⟩ := h
      rw [List.getElem?_cons_zero] at hy
      exact ⟨b, _, (Option.some.inj hy).symm.trans e, rfl, h⟩
    | succ i => exact ih hy
theorem ListRefs.same {H H' : Hp} {bs : List V} {kss : List (List Int)} (t : ListRefs H bs kss) (k : Same H H') : ListRefs H' bs kss := Paired.mapP t fun _ _ hh9 => by obtain ⟨b, e, h⟩ := hh9; exact ⟨b, e, k _ _ h⟩
theorem ListRefs.length {H : Hp} {bs : List V} {kss : List (List Int)} (t : ListRefs H bs kss) : bs.length = kss.length := Paired.length t
noncomputable def tMinLen (K : PySem.W.Frag) (t : TA) : TE := fun σ H Q => t σ H fun vs H1 => ∃ (l : Addr) (gs : List V) (gss : List (List Int)), vs = [V.ref l] ∧ SqL K H1 l gs ∧ ListRefs H1 gs gss ∧ (gss = [] → Q .non H1) ∧
  ∀ (i : Nat) (v : V) (ns : List Int), gs[i]? = some v → gss[i]? = some ns → (∀ j ms, gss[j]? = some ms → ns.length ≤ ms.length ∧ (j < i → ns.length < ms.length)) → Q v H1
end L2

set_option maxHeartbeats 1000000

namespace L2
open PySem PySem.Spec PyProof.Rows


abbrev veTail : List Value := [.type "ValueError", .type "Exception", .type "BaseException", .type "object"]

structure XCls (K : PySem.W.Frag) (C : Addr) : Prop where
  exc : PySem.W.excIn K C veTail "ValueError.__new__" = true
  ga : PySem.W.findIn K (.ref C) "__getattribute__" = some (some (.builtin "BaseException.__getattribute__"))
  gh : PySem.W.findIn K (.ref C) "__getattr__" = some none
  ca : PySem.W.findIn K (.ref C) "__class__" = some (some (.builtin "object.__class__"))
  gg : PySem.W.specialIn K (.builtin "object.__class__") "__get__" = some (some (.builtin "getset_descriptor.__get__"))
  tk : PySem.W.takesIn K (.builtin "object.__class__") = some true
  mo : PySem.W.mroIn K C (.type "object") = some true
  mb : PySem.W.mroIn K C (.type "BaseException") = some true
  kp : PySem.W.keepIn K (.ref C) = true


noncomputable def ExcAt (a C : Addr) (h : Heap) : Prop := ∃ o, h.get? a = some o ∧ o.cls = .ref C
theorem ExcAt.type {a C : Addr} {h : Heap} {M : Model} (x : ExcAt a C h) : PySem.W.Looks M h (typeOf (.ref a)) (.ref C) := by
  obtain ⟨o, h1, h2⟩ := x
  exact h2 ▸ (PySem.W.Looks.ld h1).andThen .now

section
variable {prog : Program} {w : World} {A : Around} {E : Value → Shared → Prop} {s : Shared} {K : PySem.W.Frag} {a C : Addr}
theorem looks_data {M : Model} {h : Heap} {x a g : Value} {name : Str} (X : K.In h) (ha : PySem.W.findIn K (.ref C) name = some (some a)) (hg : PySem.W.specialIn K a "__get__" = some (some g)) (ht : PySem.W.takesIn K a = some true) :
    PySem.W.Looks M h (Builtin.ObjectAttr.find x (.ref C) name) (.bind g a) :=
  (PySem.W.looks_findIn (M := M) X ha).andThen ((PySem.W.looks_specialIn X hg).andThen ((show PySem.W.Looks M h (Builtin.ObjectAttr.dataDescriptor? (some a) (some g)) (some (g, a)) from (PySem.W.looks_takesIn X ht).andThen .now).andThen (PySem.W.Looks.tag .now)))
theorem exc_get {R : Result → Shared → Prop} {tp : Value} (X : K.In s.heap) (I : ExcAt a C s.heap) (hm : PySem.W.mroIn K C (.type "object") = some true)
    (h : R (.ok (.ret (.ref C))) s) : codeAny (model prog w) A (.call (.builtin "getset_descriptor.__get__") ⟨[.builtin "object.__class__", .ref a, tp], []⟩) R s := by
  obtain ⟨hh, g, dr, t, os⟩ := s
  have L0 := I.type (M := model prog w)
  have L1 := PySem.W.looks_mroIn (M := model prog w) X hm
  refine codeAny_call_builtin PySem.W.KF.slot_gs.plain PySem.W.KF.entry_gs (PySem.W.KF.slot_gs.check _ _ _ _ _ _ _ _ PySem.W.KF.type_class (PySem.W.KF.args_gs _ _ _) ?_)
  unfold Builtin.«getset_descriptor.__get__» Builtin.Getset_descriptor.descrGet
  rw [PySem.W.dga_obj]
  refine wpAny_bind (wpAny_pure ?_)
  unfold Builtin.Getset_descriptor.descrGetter Builtin.Getset_descriptor.descrCheckInstance Builtin.Getset_descriptor.descrNameAndClass isInstance
  simp only [PySem.W.KF.owner_class]
  repeat lk
  refine ⟨Code.quiet_builtin _ (by decide +kernel), codeAny_builtin PySem.W.KF.entry_class ?_⟩
  unfold Builtin.«object.__class__» shownTypeOf
  repeat lk
  exact h
theorem XCls.isCls (x : XCls K C) : ∃ cd, PySem.W.clsIn K C = some cd := by
  have e := x.mo
  unfold PySem.W.mroIn at e
  obtain ⟨cd, h, _⟩ := Option.bind_eq_some_iff.mp e
  exact ⟨cd, h⟩

theorem exc_class {Q : Option Value → Shared → Prop} (x : XCls K C) (X : K.In s.heap) (I : ExcAt a C s.heap) (h : Q (some (.ref C)) { s with toks := s.toks + 1 }) : wpAny (model prog w) A (getAttr? (.ref a) "__class__") Q E s := by
  obtain ⟨hh, g, d, t, os⟩ := s
  have L0 := I.type (M := model prog w)
  have L1 := PySem.W.looks_findIn (M := model prog w) X x.ga
  have L2' := PySem.W.looks_findIn (M := model prog w) X x.gh
  have L3 := PySem.W.looks_mroIn (M := model prog w) X x.mb
  have L4 := looks_data (M := model prog w) (x := .ref a) X x.ca x.gg x.tk
  have f3 := PySem.F.attr_ValueError.ga.bind (.ref a)
  unfold getAttr? getAttrBy? getAttrBy
  refine wpAny_bind (wpAny_mkText (wpAny_bind (wpAny_attempt (wpAny_holding (wpAny_bind (L0.at (wpAny_bind (L1.at ?_))))))))
  show wpAny _ _ (getAttrByItsOwn _ _ _ _ _ _) _ _ _
  unfold getAttrByItsOwn
  refine wpAny_bind ?_
  show wpAny _ _ (typeLookup (.ref C) "__getattr__") _ _ _
  refine L2'.at ?_
  refine wpAny_bind (wpAny_attempt (wpAny_holding ?_))
  show wpAny _ _ (boundAndCalled _ _ _) _ _ _
  unfold boundAndCalled
  rw [f3]
  refine wpAny_bind (wpAny_pure ?_)
  refine wpAny_call (codeAny_call_builtin PySem.F.attr_ValueError.ga.plain PySem.F.entry_bexc_ga ?_)
  have hk : builtinKind "BaseException.__getattribute__" = some .slot := by decide +kernel
  have hsplit : splitId "BaseException.__getattribute__" = some ("BaseException", "__getattribute__") := by decide +kernel
  have ha := PySem.F.args_bexc_ga (.ref a) (.str "__class__" t)
  simp only [List.cons_append, List.nil_append, checkBuiltinCall, hk, hsplit]
  refine wpAny_bind ?_
  unfold isInstance
  refine wpAny_bind (L0.at (L3.at ?_))
  repeat (first | assumption | wp_step)
  obtain ⟨o, ho, hoc⟩ := id I
  refine wpAny_loadPart_at ho ?_
  rw [hoc]
  refine wpAny_pure (wpAny_bind (L4.at ?_))
  show wpAny _ _ (Builtin.ObjectAttr.bindTo (.builtin "getset_descriptor.__get__") (.builtin "object.__class__") (.ref a) (.ref C)) _ _ _
  unfold Builtin.ObjectAttr.bindTo
  dsimp only
  refine wpAny_bind (wpAny_holding (wpAny_call (exc_get (s := ⟨hh, g, d, t + 1, os⟩) X I x.mo ?_)))
  show wpAny _ _ (ret (.ref C)) _ _ _
  refine wpAny_pure ?_
  show wpAny _ _ (handedOut (.ref C)) _ _ _
  exact PySem.W.handed_on rfl (wpAny_pure h)
theorem kitx_exc (x : XCls K C) : PySem.W.KitX K (.ref a) (.ref C) (ExcAt a C) where
  ty := fun M h _ I => I.type
  it := fun _ _ X _ => by
    obtain ⟨cdD, hcD⟩ := x.isCls
    unfold PySem.W.clsIn at hcD
    split at hcD
    · rename_i c' d' cd' sl' ho
      intro A' Q' E' s' k q
      unfold isType loadHead
      exact wpAny_bind (wpAny_loadPart (k _ _ (X _ _ ho)) (wpAny_pure q))
    · cases hcD
  ne := fun h tp dd its n sl X htp => by
    obtain ⟨cdD, hcD⟩ := x.isCls
    refine Bool.eq_false_iff.mpr fun q => ?_
    have e : C = tp := Value.ref.inj (beq_iff_eq.mp q)
    subst e
    unfold PySem.W.clsIn at hcD
    split at hcD
    · rename_i c' d' cd' sl' ho
      have z := (X _ _ ho).symm.trans htp
      cases z
    · cases hcD
  ca := fun X I k => exc_class x X I k

theorem isi_exc {D : Value} {b : Bool} {Q : Value → Shared → Prop} (x : XCls K C) (X : K.In s.heap) (I : ExcAt a C s.heap) (e : PySem.W.kitOne K (.ref C) D = some b) (h : ∀ tk, Q (.bool b) { s with toks := tk }) : wpAny (model prog w) A (call (.builtin "isinstance") [.ref a, D]) Q E s :=
  PySem.W.kia_one (kitx_exc x) X I e (fun z => nomatch z) h


noncomputable def ExcObj (h : Heap) (C : Addr) : Prop := ∃ bm N nm qn bs hdct sn sub ab col dd k0 k1 k2 k3 k5 mN,
  h.get? C = some (excClassObj nm qn C N bs bm hdct sn sub ab col dd k0 k1 k2 k3 k5 "ValueError.__new__") ∧ h.Ns N mN ∧ mN "__init__" = none ∧ OwnTail h veTail bm
theorem exc_obj {h : Heap} (X : K.In h) (q : PySem.W.excIn K C veTail "ValueError.__new__" = true) : ExcObj h C := by
  unfold PySem.W.excIn at q
  split at q
  · rename_i dd cd sl ho
    split at q
    · rename_i C' bm k0 k1 k2 k3 n k5 hm hs
      simp only [Bool.and_eq_true, beq_iff_eq, Bool.not_eq_true'] at q
      obtain ⟨⟨⟨⟨⟨rfl, rfl⟩, hdel⟩, ht⟩, hok⟩, hni⟩ := q
      obtain ⟨nm, bs, mro, ns, qn, hd, sn, sub, ab, col, del⟩ := cd
      dsimp only at hm hdel hok hni
      subst hm hdel
      have hsl : sl = #[k0, k1, k2, k3, some (.builtin "ValueError.__new__"), k5] := by
        obtain ⟨l⟩ := sl
        simp only at hs
        rw [hs]
      subst hsl
      exact ⟨bm, ns, nm, qn, bs, hd, sn, sub, ab, col, dd, k0, k1, k2, k3, k5, _, X _ _ ho, .of_isNs (PySem.W.isNs_of_in X hok), PySem.W.nsMap_none_of_in X hok hni, PySem.W.tail_of_in X ht⟩
    · cases q
  · cases q


theorem exc_match {D : Addr} {b : Bool} {Q : Bool → Shared → Prop} (X : K.In s.heap) (y : XCls K D) (I : ExcAt a C s.heap) (hm : PySem.W.mroIn K C (.ref D) = some b) (hq : Q b s) : wpAny (model prog w) A (excMatches (.ref a) (.ref D)) Q E s := by
  obtain ⟨bm, N, nm, qn, bs, hdct, sn, sub, ab, col, dd, k0, k1, k2, k3, k5, mN, hC, hN, hni, TL⟩ := exc_obj X y.exc
  obtain ⟨o, he, hcls⟩ := I
  have L := PySem.W.looks_mroIn (M := model prog w) X hm
  obtain ⟨h, g, d, t, os⟩ := s
  have hcB : (Value.ref D :: bm).contains (.type "BaseException") = true := by rw [List.contains_cons, TL.hasType (b := true) (by decide), Bool.or_true]
  have f := tc_notTuple
  unfold excMatches
  repeat (first | (with_reducible refine wpAny_loadPart_at he ?_; rw [hcls]) | with_reducible refine wpAny_loadPart_at hC ?_ | (with_reducible refine L.at ?_) | (with_reducible refine wpAny_isSubtype_exc hC ?_; rw [hcB]) | wp_step)
  cases b <;> (wp_walk; exact hq)
end
end L2

set_option maxHeartbeats 1000000

namespace L2
open PySem PySem.Spec

noncomputable def TrC (h base : Heap) (e : Addr) (cls a0 c fl : Value) : Prop :=
  ∃ (o : Obj) (vs : Array Value) (T : Addr) (oT : Obj) (ts : Array Value), h.get? e = some o ∧ (o.cls = cls ∧ vs[0]? = some a0 ∧ vs[2]? = some c) ∧ o.data = .fields vs ∧ vs[1]? = some (.ref T) ∧ base.get? T = none ∧ T ≠ e ∧ h.get? T = some oT ∧ oT.data = .fields ts ∧ ts[3]? = some fl
noncomputable def FlyC (base : Heap) (l : List Env) (e : Addr) (cls a0 c fl : Value) (h : Heap) : Prop := base.StaysIn h ∧ base.get? e = none ∧ h.FunFrames base l ∧ TrC h base e cls a0 c fl
theorem FlyC.there {base h : Heap} {l : List Env} {e : Addr} {cls a0 c fl : Value} (x : FlyC base l e cls a0 c fl h) : ∃ ob, h.get? e = some ob ∧ ob.cls = cls := by
  obtain ⟨_, _, _, o, _, _, _, _, he, hc, _⟩ := x
  exact ⟨o, he, hc.1⟩
theorem FlyC.outer {base h : Heap} {env : Env} {l : List Env} {e : Addr} {cls a0 c fl : Value} (x : FlyC base (env :: l) e cls a0 c fl h) : FlyC base l e cls a0 c fl h := ⟨x.1, x.2.1, x.2.2.1.2.2, x.2.2.2⟩

theorem FlyC.keeps {base h h' : Heap} {l : List Env} {e : Addr} {cls a0 c fl : Value} (x : FlyC base l e cls a0 c fl h) (k : ∀ b o vs, h.get? b = some o → o.data = .fields vs → h'.get? b = some o) (kb : base.StaysIn h') (kf : h'.FunFrames base l) : FlyC base l e cls a0 c fl h' := by
  obtain ⟨_, f2, _, o, vs, T, oT, ts, he, hc, hd, h1, hn, hne, hT, hdT, h3⟩ := x
  exact ⟨kb, f2, kf, o, vs, T, oT, ts, k _ _ _ he hd, hc, hd, h1, hn, hne, k _ _ _ hT hdT, hdT, h3⟩
section
variable {M : Model} {A : Around} {E : Value → Shared → Prop} {s : Shared} {base : Heap} {env : Env} {outer : List Env} {L e : Addr} {cls a0 c fl : Value} {Q : Unit → Shared → Prop}

theorem entryC {oe : Obj} {vs : Array Value} {head : Value} {hadNext : Bool} (hfr : A.frames = some (env :: outer)) (hl : s.heap.FunFrames base (env :: outer)) (hf : env.frame = some L) (he : s.heap.get? e = some oe) (hkb : base.StaysIn s.heap) (hen : base.get? e = none) (hd : oe.data = .fields vs) (hsz : 1 < vs.size)
    (h0 : vs[0]? = some a0) (h2 : vs[2]? = some c) (h : ∀ h', FlyC base (env :: outer) e oe.cls a0 c (rawInt L) h' → s.heap.UpToSlots h' → Q () { s with heap := h' }) :
    wpAny M A (do let a ← frameOf env; let pl ← entryPlaceOf L hadNext; let b ← EntryCells.newEntry head a .none (rawInt L) .none pl; setField (.ref e) 1 b) Q E s := by
  have nf : ∀ b o, s.heap.get? b = some o → (∀ ws, o.data ≠ .fields ws) → b ≠ e := fun b o hb hn z => by
    rw [z, he] at hb
    cases hb
    exact hn vs hd
  have hne : e ∉ (env :: outer).filterMap (·.frame) := fun hm => by
    obtain ⟨_, o, ho, hn⟩ := hl.mem hm
    exact nf e o ho hn rfl
  refine wpAny_bind (wpAny_frameOf_fun hfr hl hf fun g hg => wpAny_bind (wpAny_entryPlaceOf fun pl hpl => ?_))
  unfold EntryCells.newEntry newFields
  refine wpAny_bind (wpAny_newObj_type ?_ (hpl.sizeOk5 _ _ _ _ _))
  have e1 : g.get? e = some oe := (hg.2.1 e hne).trans he
  have kb : base.StaysIn g := fun b o q => (hg.2.1 b fun hm => by rw [(hl.mem hm).1] at q; cases q).trans (hkb b o q)
  have hTe : g.objs.size ≠ e := Nat.ne_of_gt (Heap.lt_size e1)
  have hd2 := Obj.data_mapFields hd (·.setIfInBounds 1 (Value.ref g.objs.size))
  refine wpAny_setField (Heap.get?_push_of_some _ e1) hd hsz (h _ ⟨fun b o q => ?_, hen, hl.of_keeps fun b o hb hn => ?_, ?_⟩ fun b o hb hn => ?_)
  · rw [Heap.get?_update_other _ _ (fun z => by rw [← z, hen] at q; cases q)]
    exact Heap.get?_push_of_some _ (kb b o q)
  · obtain ⟨sl, hs⟩ := hg.2.2 b o hb
    exact ⟨_, (Heap.get?_update_other _ _ (Ne.symm (nf b o hb hn))).trans (Heap.get?_push_of_some _ hs), rfl⟩
  · refine ⟨_, _, g.objs.size, _, _, Heap.get?_update_self _ (Heap.get?_push_of_some _ e1) (Obj.isFreed_of_fields hd2), ⟨Obj.cls_mapFields _ _, ?_, ?_⟩, hd2, by simp [hsz], kb.fresh, hTe, (Heap.get?_update_other _ _ (Ne.symm hTe)).trans (Heap.get?_push_size g rfl), rfl, ?_⟩
    · rw [Array.getElem?_setIfInBounds_ne (by decide)]
      exact h0
    · rw [Array.getElem?_setIfInBounds_ne (by decide)]
      exact h2
    · first | (simp; done) | (rcases hpl with rfl | ⟨_, _, _, _, _, _, _, rfl⟩ <;> simp)
  · obtain ⟨sl, hs⟩ := hg.2.2 b o hb
    exact ⟨sl, (Heap.get?_update_other _ _ (Ne.symm (nf b o hb hn))).trans (Heap.get?_push_of_some _ hs)⟩

theorem noteC_first {oe : Obj} {vs : Array Value} (hfr : A.frames = some (env :: outer)) (hl : s.heap.FunFrames base (env :: outer)) (hf : env.frame = some L) (he : s.heap.get? e = some oe) (hkb : base.StaysIn s.heap) (hen : base.get? e = none) (hd : oe.data = .fields vs)
    (h0 : vs[0]? = some a0) (h1 : vs[1]? = some .none) (h2 : vs[2]? = some c) (h : ∀ h', FlyC base (env :: outer) e oe.cls a0 c (rawInt L) h' → s.heap.UpToSlots h' → Q () { s with heap := h' }) : wpAny M A (noteFrame (.ref e) env) Q E s := by
  unfold noteFrame
  simp only [hf]
  refine wpAny_bind (wpAny_field he hd h1 ?_)
  rw [if_neg (by decide)]
  exact entryC hfr hl hf he hkb hen hd (Array.getElem?_eq_some_iff.mp h1).1 h0 h2 h

theorem flightC {fr : Option Addr} {l : List Env} (x : FlyC base l e cls a0 c fl s.heap) (h : ∀ h', FlyC base l e cls a0 c (fr.elim .none fun f => rawInt f) h' → s.heap.UpToSlots h' → Q () { s with heap := h' }) : wpAny M A (setFlight (.ref e) fr) Q E s := by
  obtain ⟨f1, f2, f3, o, vs, T, oT, ts, he, hc, hd, h1, hn, hne, hT, hdT, h3⟩ := x
  have sz : 3 < ts.size := (Array.getElem?_eq_some_iff.mp h3).1
  have nr : ∀ b o, s.heap.get? b = some o → (∀ ws, o.data ≠ .fields ws) → T ≠ b := fun b o hb hn z => by
    rw [← z, hT] at hb
    cases hb
    exact hn ts hdT
  unfold setFlight
  refine wpAny_bind (wpAny_field he hd h1 ?_)
  rw [if_pos (show (Value.ref T != Value.none) = true from by simp)]
  refine wpAny_setField hT hdT sz (h _ ⟨fun b o q => ?_, f2, f3.of_keeps fun b o hb hn => ⟨o, (Heap.get?_update_other _ _ (nr b o hb hn)).trans hb, rfl⟩, ?_⟩ fun b o hb hn => ⟨o.slots, (Heap.get?_update_other _ _ (nr b o hb hn)).trans hb⟩)
  · rw [Heap.get?_update_other _ _ (fun z => by rw [← z, hn] at q; cases q)]
    exact f1 b o q
  · exact ⟨o, vs, T, _, _, (Heap.get?_update_other _ _ hne).trans he, hc, hd, h1, hn, hne, Heap.get?_update_self _ hT (Obj.isFreed_of_fields (Obj.data_mapFields hdT _)), Obj.data_mapFields hdT _, by simp [sz]⟩

theorem noteC_next (hfr : A.frames = some (env :: outer)) (hf : env.frame = some L) (x : FlyC base (env :: outer) e cls a0 c .none s.heap) (h : ∀ h', FlyC base (env :: outer) e cls a0 c (rawInt L) h' → s.heap.UpToSlots h' → Q () { s with heap := h' }) : wpAny M A (noteFrame (.ref e) env) Q E s := by
  obtain ⟨f1, f2, f3, o, vs, T, oT, ts, he, hc, hd, h1, hn, hne, hT, hdT, h3⟩ := x
  have nr : ∀ b o, s.heap.get? b = some o → (∀ ws, o.data ≠ .fields ws) → T ≠ b := fun b o hb hn z => by
    rw [← z, hT] at hb
    cases hb
    exact hn ts hdT
  have hce := hc.1
  subst hce
  unfold noteFrame
  simp only [hf]
  refine wpAny_bind (wpAny_field he hd h1 ?_)
  rw [if_pos (show (Value.ref T != Value.none) = true from by simp)]
  refine wpAny_bind (wpAny_field hT hdT h3 ?_)
  rw [if_neg (show ¬ ((Value.none == rawInt L) = true) from by simp [rawInt])]
  refine wpAny_bind (wpAny_setField hT hdT (Array.getElem?_eq_some_iff.mp h3).1 ?_)
  have sm : s.heap.UpToSlots (s.heap.update T (Obj.mapFields (·.setIfInBounds 3 Value.none))) := fun b o hb hn => ⟨o.slots, (Heap.get?_update_other _ _ (nr b o hb hn)).trans hb⟩
  refine entryC hfr (f3.of_keeps fun b o hb hn => ⟨o, (Heap.get?_update_other _ _ (nr b o hb hn)).trans hb, rfl⟩) hf ((Heap.get?_update_other _ _ hne).trans he) (fun b o q => ?_) f2 hd (Array.getElem?_eq_some_iff.mp h1).1 hc.2.1 hc.2.2 fun h' y z => h h' y (sm.trans z)
  rw [Heap.get?_update_other _ _ (fun z => by rw [← z, hn] at q; cases q)]
  exact f1 b o q

theorem noteC_again {l : List Env} (hf : env.frame = some L) (x : FlyC base l e cls a0 c (rawInt L) s.heap) (h : Q () s) : wpAny M A (noteFrame (.ref e) env) Q E s := by
  obtain ⟨_, _, _, o, vs, T, oT, ts, he, hc, hd, h1, hn, hne, hT, hdT, h3⟩ := x
  unfold noteFrame
  simp only [hf]
  refine wpAny_bind (wpAny_field he hd h1 ?_)
  rw [if_pos (show (Value.ref T != Value.none) = true from by simp)]
  refine wpAny_bind (wpAny_field hT hdT h3 ?_)
  rw [if_pos (show (rawInt L == rawInt L) = true from by simp)]
  exact wpAny_pure h

theorem leaveC (hfr : A.frames = some (env :: outer)) (hf : env.frame = some L) (x : FlyC base (env :: outer) e cls a0 c .none s.heap) (h : ∀ h', FlyC base outer e cls a0 c .none h' → s.heap.UpToSlots h' → Q () { s with heap := h' }) : wpAny M A (leaving env (.ref e)) Q E s := by
  unfold leaving
  refine wpAny_bind (noteC_next hfr hf x fun h1 x1 z1 => ?_)
  exact flightC (s := { s with heap := h1 }) (fr := none) x1 fun h2 x2 z2 => h h2 x2.outer (z1.trans z2)
theorem leaveC_held (hf : env.frame = some L) (x : FlyC base (env :: outer) e cls a0 c (rawInt L) s.heap) (h : ∀ h', FlyC base outer e cls a0 c .none h' → s.heap.UpToSlots h' → Q () { s with heap := h' }) : wpAny M A (leaving env (.ref e)) Q E s := by
  unfold leaving
  refine wpAny_bind (noteC_again hf x ?_)
  exact flightC (fr := none) x fun h2 x2 z2 => h h2 x2.outer z2

structure MadeC (h h' : Heap) (e : Addr) (cls a0 c : Value) : Prop where
  keeps : ∀ b o, h.get? b = some o → h'.get? b = some o
  new : h.get? e = none
  there : ∃ o vs, h'.get? e = some o ∧ o.cls = cls ∧ o.data = .fields vs ∧ vs[0]? = some a0 ∧ vs[1]? = some .none ∧ vs[2]? = some c
theorem MadeC.of {h h' : Heap} {e : Addr} {cls : Value} {args : List Value} (x : Heap.MadeExcOf h h' e cls args) : ∃ a0, MadeC h h' e cls a0 .none := by
  obtain ⟨t, he, _, _⟩ := x.there
  exact ⟨.ref t, x.keeps, x.new, _, _, he, rfl, rfl, rfl, rfl, rfl⟩
theorem fresh_of {h base : Heap} (k : base.StaysIn h) {b : Addr} (n : h.get? b = none) : base.get? b = none := by
  cases q : base.get? b with
  | none => rfl
  | some o => have := k b o q; rw [n] at this; cases this
theorem noteC_made {h : Heap} (hfr : A.frames = some (env :: outer)) (hf : env.frame = some L) (hkb : base.StaysIn h) (hl : h.FunFrames base (env :: outer)) (x : MadeC h s.heap e cls a0 c) (k : ∀ h', FlyC base (env :: outer) e cls a0 c (rawInt L) h' → s.heap.UpToSlots h' → Q () { s with heap := h' }) : wpAny M A (noteFrame (.ref e) env) Q E s := by
  obtain ⟨o, vs, he, hc, hd, h0, h1, h2⟩ := x.there
  subst hc
  exact noteC_first hfr (hl.of_keeps fun b o hb _ => ⟨o, x.keeps b o hb, rfl⟩) hf he (fun b o hb => x.keeps b o (hkb b o hb)) (fresh_of hkb x.new) hd h0 h1 h2 k
theorem leaveC_made {h : Heap} (hfr : A.frames = some (env :: outer)) (hf : env.frame = some L) (hkb : base.StaysIn h) (hl : h.FunFrames base (env :: outer)) (x : MadeC h s.heap e cls a0 c) (k : ∀ h', FlyC base outer e cls a0 c .none h' → s.heap.UpToSlots h' → Q () { s with heap := h' }) : wpAny M A (leaving env (.ref e)) Q E s := by
  unfold leaving
  refine wpAny_bind (noteC_made hfr hf hkb hl x fun h1 x1 z1 => ?_)
  exact flightC (s := { s with heap := h1 }) (fr := none) x1 fun h2 x2 z2 => k h2 x2.outer (z1.trans z2)

theorem passOnC {α : Type} {what : String} {l : List Env} {Q : α → Shared → Prop} (hf : env.frame = some L) (x : FlyC base l e cls a0 c fl s.heap) (h : ∀ h', FlyC base l e cls a0 c (rawInt L) h' → s.heap.UpToSlots h' → E (.ref e) { s with heap := h' }) : wpAny M A (passOn what (.ref e) env : Sem α) Q E s := by
  obtain ⟨_, _, _, o, vs, T, oT, ts, he, hc, hd, h1, _⟩ := id x
  unfold passOn
  refine wpAny_bind (wpAny_field he hd h1 ?_)
  rw [if_neg (show ¬ ((Value.ref T == Value.none) = true) from fun z => by cases beq_iff_eq.mp z)]
  refine wpAny_bind ?_
  rw [hf]
  exact flightC (fr := some L) x fun h' x' z => wpAny_throw (h h' x' z)
theorem cameBackC {l : List Env} (hf : env.frame = some L) (x : FlyC base l e cls a0 c fl s.heap) (h : ∀ h', FlyC base l e cls a0 c (rawInt L) h' → s.heap.UpToSlots h' → E (.ref e) { s with heap := h' }) : cameBackBy M A env E (.ref e) s := by
  obtain ⟨_, _, _, o, vs, T, oT, ts, he, hc, hd, h1, _⟩ := id x
  unfold cameBackBy
  refine wpAny_bind (wpAny_field he hd h1 ?_)
  rw [if_neg (show ¬ ((Value.ref T == Value.none) = true) from fun z => by cases beq_iff_eq.mp z)]
  rw [hf]
  exact flightC (fr := some L) x fun h' x' z => h h' x' z
end
theorem FlyC.kept {base h h' : Heap} {l : List Env} {e : Addr} {cls a0 c fl : Value} (x : FlyC base l e cls a0 c fl h) (k : ∀ b o, h.get? b = some o → h'.get? b = some o) : FlyC base l e cls a0 c fl h' :=
  x.keeps (fun b o _ e _ => k b o e) (fun b o q => k b o (x.1 b o q)) (x.2.2.1.of_keeps fun b o q _ => ⟨o, k b o q, rfl⟩)
theorem FlyC.full {base h : Heap} {l : List Env} {e : Addr} {cls a0 c fl : Value} (x : FlyC base l e cls a0 c fl h) : ∃ ob vs, h.get? e = some ob ∧ ob.cls = cls ∧ ob.data = .fields vs ∧ vs[2]? = some c := by
  obtain ⟨_, _, _, o, vs, _, _, _, he, hc, hd, _⟩ := x
  exact ⟨o, vs, he, hc.1, hd, hc.2.2⟩
theorem frames_rebase {h b b' : Heap} : ∀ {l : List Env}, (∀ L ∈ l.filterMap (·.frame), b'.get? L = none) → h.FunFrames b l → h.FunFrames b' l
  | [], _, _ => trivial
  | env :: r, n, ⟨hk, ⟨L, o, hf, _, ho, hd⟩, hr⟩ => ⟨hk, ⟨L, o, hf, n L (List.mem_filterMap.mpr ⟨env, List.mem_cons_self, hf⟩), ho, hd⟩, frames_rebase (fun L' hL => n L' (by rw [List.filterMap_cons, hf]; exact List.mem_cons_of_mem _ hL)) hr⟩
end L2

set_option maxHeartbeats 1000000

namespace L2
open PySem PySem.Spec PyProof.Rows

theorem ObjOk.get {P : Program} {w : World} {H : Hp} {h : Heap} {a : Addr} {o : HO} (x : ObjOk P w H h a o) : ∃ u, h.get? a = some u := by
  cases o with
  | lst xs => obtain ⟨_, _, _, _, e⟩ := x; exact ⟨_, e⟩
  | tup xs => obtain ⟨_, _, _, ob, e, _⟩ := x; exact ⟨_, e⟩
  | dK kvs => obtain ⟨_, _, _, _, o, _, _, e, _⟩ := x; exact ⟨_, e⟩
  | dT kvs => obtain ⟨_, _, _, _, o, _, _, e, _⟩ := x; exact ⟨_, e⟩
  | set S n => obtain ⟨o, _, _, _, e, _⟩ := x; exact ⟨_, e⟩
  | ins C dx fs => obtain ⟨_, _, _, e, _⟩ := x; exact ⟨_, e⟩
  | own y => obtain ⟨_, e⟩ := x; exact ⟨_, e⟩
  | xd fs => obtain ⟨_, ⟨_, _, _, e, _⟩, _⟩ := x; exact ⟨_, e⟩
  | rng lo hi => obtain ⟨_, _, _, e⟩ := x; exact ⟨_, e⟩
  | frz ob u => obtain ⟨e, _⟩ := x; exact ⟨_, e⟩
  | tbl ps => exact ⟨_, (show h.get? a = some _ from x)⟩
  | met f y => exact ⟨_, (show h.get? a = some _ from x)⟩
  | ext φ => obtain ⟨_, ⟨_, e⟩, _⟩ := x; exact ⟨_, e⟩

section
variable {P : Program} {w : World} {fs : List Addr} {H₀ H : Hp} {h₀ h h' B : Heap}

noncomputable def Bk (fs : List Addr) (H : Hp) (h₀ h B : Heap) : Prop := ∀ b o, h.get? b = some o → b ∉ fs → (H b ≠ none ∨ ∃ u, h₀.get? b = some u) → B.get? b = some o
theorem Un.onB (u : Un fs [] H₀ H h₀ h) (bk : Bk fs H h₀ h B) (st : B.StaysIn h') (sm : h.UpToSlots h') (frf : ∀ b ∈ fs, H₀ b = none) (fnf : ∀ b ∈ fs, ∀ o, h₀.get? b = some o → ∀ vs, o.data ≠ .fields vs) : Un fs [] H₀ H h₀ h' := by
  have sl : ∀ b o, h₀.get? b = some o → H₀ b = none → b ∈ fs → ∃ sl, h'.get? b = some { o with slots := sl } := fun b o e n hb => by
    obtain ⟨s1, e1⟩ := u.slot b o e n hb (by simp)
    obtain ⟨s2, e2⟩ := sm b _ e1 (fun vs q => fnf b hb o e vs q)
    exact ⟨s2, e2⟩
  refine ⟨fun b o e n hb _ => ?_, fun b o e n hb _ => sl b o e n hb, fun b o e n hx => u.free b o e n hx, fun b o e _ => ?_, u.tups, u.frzs, u.tbls⟩
  · exact st b o (bk b o (u.keep b o e n hb (by simp)) hb (.inr ⟨o, e⟩))
  · by_cases hb : b ∈ fs
    · obtain ⟨s1, e1⟩ := sl b o e (frf b hb) hb
      exact ⟨_, e1⟩
    · obtain ⟨o', e1⟩ := u.there b o e (by simp)
      exact ⟨o', st b o' (bk b o' e1 hb (.inr ⟨o, e⟩))⟩
theorem HOk.onB (x : HOk P w H h) (bk : Bk fs H h₀ h B) (st : B.StaysIn h') (nf : ∀ b ∈ fs, H b = none) : HOk P w H h' := fun b o e =>
  (x b o e).stay (fun c v hc q => by
    have ht : H c ≠ none := by
      rcases hc with rfl | hc
      · rw [e]; exact fun z => nomatch z
      · rw [hc]; exact fun z => nomatch z
    exact st c v (bk c v q (fun z => ht (nf c z)) (.inl ht))) (fun _ q => q) fun _ _ q => q
theorem Bk.onB (bk : Bk fs H h₀ h B) (x : HOk P w H h) (th : ∀ b u, h₀.get? b = some u → ∃ o, h.get? b = some o) (st : B.StaysIn h') : Bk fs H h₀ h' B := fun b o e hb hc => by
  have : ∃ o', h.get? b = some o' := by
    rcases hc with hc | ⟨u, hu⟩
    · cases q : H b with
      | none => exact absurd q hc
      | some u => exact (x b u q).get
    · exact th b u hu
  obtain ⟨o', e'⟩ := this
  have e2 := bk b o' e' hb hc
  rw [st b o' e2] at e
  cases e
  exact e2
end


noncomputable def ctxV (d : Option Addr) : Value := d.elim .none .ref

structure Fly (P : Program) (w : World) (outer : List Env) (H : Hp) (s : Shared) (a C : Addr) (B : Heap) (a0 : Value) (d : Option Addr) (H' : Hp) (s' : Shared) : Prop where
  os : s'.os = s.os
  bare : AllBare s'.gens
  fly : FlyC B outer a (.ref C) a0 (ctxV d) .none s'.heap
  un : Un (frs outer) [] H H' s.heap s'.heap
  hok : HOk P w H' s'.heap
  free : H' a = none
  new : s.heap.get? a = none
  bk : Bk (frs outer) H' s.heap s'.heap B
noncomputable def CXF (P : Program) (w : World) : CXT := fun outer H s E e s' => ∃ a C B a0 d H', e = .ref a ∧ Fly P w outer H s a C B a0 d H' s' ∧ E (.ref C) d H'


structure Frames (outer : List Env) (H : Hp) (h : Heap) : Prop where
  frf : ∀ b ∈ frs outer, H b = none
  fnf : ∀ b ∈ frs outer, ∀ o, h.get? b = some o → ∀ vs, o.data ≠ .fields vs
  th : ∀ b ∈ frs outer, ∃ o, h.get? b = some o
theorem Frames.of {outer : List Env} {H : Hp} {h base : Heap} (f : ∀ b ∈ frs outer, H b = none) (x : h.FunFrames base outer) : Frames outer H h := by
  refine ⟨f, fun b hb o e vs => ?_, fun b hb => ?_⟩
  · obtain ⟨_, o', e', q⟩ := x.mem hb
    rw [e'] at e
    cases e
    exact q vs
  · obtain ⟨_, o', e', q⟩ := x.mem hb
    exact ⟨o', e'⟩

section
variable {P : Program} {w : World} {outer : List Env} {H H' : Hp} {s s' : Shared} {a C : Addr} {B : Heap} {a0 : Value} {d : Option Addr}
theorem Fly.nf (F : Fly P w outer H s a C B a0 d H' s') (Z : Frames outer H s.heap) : ∀ b ∈ frs outer, H' b = none := fun b hb => by
  obtain ⟨o, e⟩ := Z.th b hb
  exact F.un.free b o e (Z.frf b hb) (by simp)
theorem Fly.on {h : Heap} (F : Fly P w outer H s a C B a0 d H' s') (Z : Frames outer H s.heap) (f : FlyC B outer a (.ref C) a0 (ctxV d) .none h) (sm : s'.heap.UpToSlots h) : Fly P w outer H s a C B a0 d H' { s' with heap := h } :=
  ⟨F.os, F.bare, f, F.un.onB F.bk f.1 sm Z.frf Z.fnf, F.hok.onB F.bk f.1 (F.nf Z), F.free, F.new, F.bk.onB F.hok (fun b u e => F.un.there b u e (by simp)) f.1⟩
end

section
variable {X : Cx} {pins : List (Addr × Obj)} {σ : St} {H H' : Hp} {s s' : Shared} {a C : Addr} {B : Heap} {a0 : Value} {d : Option Addr}
theorem Inv.frames (I : Inv X pins σ H s) : Frames X.stack H s.heap := .of I.stkFree I.stack
theorem Inv.frames0 (I : Inv X pins σ H s) : Frames X.outer X.H₀ X.s₀.heap := .of I.ok.frf I.ok.funs

theorem Inv.flown (I : Inv X pins σ H s) (F : Fly X.prog X.w X.stack H s a C B a0 d H' s') : Inv X pins σ H' s' :=
  I.call' (ch := []) F.os F.un F.hok F.bare fun b z => absurd z (by simp)

theorem Fly.out (I : Inv X pins σ H s) (F : Fly X.prog X.w X.stack H s a C B a0 d H' s') (hst : X.stack = X.env :: X.outer) (hex : X.ex = []) : Fly X.prog X.w X.outer X.H₀ X.s₀ a C B a0 d H' s' := by
  have I' := I.flown F
  have hb : Un X.fs [] X.H₀ H' X.s₀.heap s'.heap := hex ▸ I'.base
  refine ⟨I'.os, F.bare, ?_, hb, F.hok, F.free, ?_, fun b o e hb' hc => ?_⟩
  · obtain ⟨f1, f2, f3, f4⟩ := F.fly
    rw [hst] at f3
    exact ⟨f1, f2, f3.2.2, f4⟩
  · cases e : X.s₀.heap.get? a with
    | none => rfl
    | some u =>
      obtain ⟨o, e2⟩ := I.base.there a u e (by rw [hex]; simp)
      rw [F.new] at e2
      cases e2
  · have hne : b ≠ X.env.locals := by
      rcases hc with hc | ⟨u, hu⟩
      · intro z
        rw [z] at hc
        exact hc I'.free
      · exact Nat.ne_of_lt (Nat.lt_of_lt_of_le (Heap.lt_size hu) I.ok.above)
    refine F.bk b o e (fun z => ?_) ?_
    · rcases List.mem_cons.mp (I.stkSub b z) with q | q
      · exact hne q
      · exact hb' q
    · rcases hc with hc | ⟨u, hu⟩
      · exact .inl hc
      · exact .inr (I.base.there b u hu (by rw [hex]; simp))

theorem Fly.leaves {M : Model} {A : Around} {Q : Unit → Shared → Prop} {E : Value → Shared → Prop} (I : Inv X pins σ H s) (F : Fly X.prog X.w X.stack H s a C B a0 d H' s') (hst : X.stack = X.env :: X.outer) (hex : X.ex = []) (hf : X.env.frame = some X.env.locals) (hA : A.frames = some X.stack)
    (h : ∀ s'', Fly X.prog X.w X.outer X.H₀ X.s₀ a C B a0 d H' s'' → Q () s'') : wpAny M A (leaving X.env (.ref a)) Q E s' := by
  refine leaveC (hst ▸ hA) hf (hst ▸ F.fly) fun h' f sm => h _ ?_
  exact (F.out I hst hex).on I.frames0 f sm

theorem raise_leaves {M : Model} {A : Around} {Q : Unit → Shared → Prop} {E : Value → Shared → Prop} {h' : Heap} (I : Inv X pins σ H s) (hx : MadeC s.heap h' a (.ref C) a0 (ctxV d)) (hst : X.stack = X.env :: X.outer) (hex : X.ex = []) (hf : X.env.frame = some X.env.locals) (hA : A.frames = some X.stack)
    (h : ∀ s'' B, Fly X.prog X.w X.outer X.H₀ X.s₀ a C B a0 d H s'' → Q () s'') : wpAny M A (leaving X.env (.ref a)) Q E { s with heap := h' } := by
  have hin : ∀ env ∈ X.stack, ∀ b, env.frame = some b → b ∈ frs X.stack := fun env he b hb => List.mem_filterMap.mpr ⟨env, he, hb⟩
  have hfr : s.heap.FunFrames (PySem.W.hideAll s.heap (frs X.stack)) X.stack := PySem.W.funFrames_hide I.stack hin
  refine leaveC_made (base := PySem.W.hideAll s.heap (frs X.stack)) (h := s.heap) (hst ▸ hA) hf (fun b o q => PySem.W.of_hideAll _ q) (hst ▸ hfr) hx fun h'' f1 f4 => h _ (PySem.W.hideAll s.heap (frs X.stack)) ?_
  have hb : Un X.fs [] X.H₀ H X.s₀.heap s.heap := hex ▸ I.base
  have bk : Bk X.fs H X.s₀.heap s.heap (PySem.W.hideAll s.heap (frs X.stack)) := fun b o e hb' hc => by
    have hne : b ≠ X.env.locals := by
      rcases hc with hc | ⟨u, hu⟩
      · intro z
        rw [z] at hc
        exact hc I.free
      · exact Nat.ne_of_lt (Nat.lt_of_lt_of_le (Heap.lt_size hu) I.ok.above)
    refine PySem.W.hideAll_get _ e fun z => ?_
    rcases List.mem_cons.mp (I.stkSub b z) with q | q
    · exact hne q
    · exact hb' q
  have sm : s.heap.UpToSlots h'' := (Heap.UpToSlots.of_keeps hx.keeps).trans f4
  have nf : ∀ b ∈ X.fs, H b = none := fun b hb' => by
    obtain ⟨o, e⟩ := I.frames0.th b hb'
    exact hb.free b o e (I.ok.frf b hb') (by simp)
  refine ⟨I.os, I.bare, f1, hb.onB bk f1.1 sm I.ok.frf I.frames0.fnf, I.hok.onB bk f1.1 nf, ?_, ?_, bk.onB I.hok (fun b u e => hb.there b u e (by simp)) f1.1⟩
  · cases e : H a with
    | none => rfl
    | some u =>
      obtain ⟨o, e2⟩ := (I.hok a u e).get
      rw [hx.new] at e2
      cases e2
  · cases e : X.s₀.heap.get? a with
    | none => rfl
    | some u =>
      obtain ⟨o, e2⟩ := hb.there a u e (by simp)
      rw [hx.new] at e2
      cases e2
end
end L2

set_option maxHeartbeats 1000000

namespace L2
open PySem PySem.Spec PyProof.Rows


section
variable (P : Program) (w : World) (K : PySem.W.Frag) (mg : Str → Option Value) (base : Heap)
noncomputable def DefX (k : Nat) (x : Str) (ps : List Str) (sp : Sp) : Prop := ∃ f fd, FnOk P w K mg base (CXF P w) k f fd ps sp ∧ mg x = some (.ref f) ∧ PySem.W.keepIn K (.ref f) = true ∧ Binds K fd ps []
noncomputable def MetX (C : Addr) (k : Nat) (m : Str) (ps : List Str) (sp : Sp) : Prop := ∃ f fd, FnOk P w K mg base (CXF P w) k f fd ps sp ∧ Meth K C m f ∧ Binds K fd ps []
noncomputable def MakX (C : Addr) (k : Nat) (x : Str) (ps : List Str) (sp : Sp) : Prop := ∃ f fd, FnOk P w K mg base (CXF P w) k f fd ps sp ∧ Mk K C f ∧ mg x = some (.ref C) ∧ Binds K fd ps []
noncomputable def BodyX (qual : Str) (st : Stmt) (N : List Str) (k : Nat) (sp : Sp) : Prop :=
  ∀ (f : Addr) (cdv : Value) (A : Around) (outer : List Env) (s : Shared) (H : Hp) (vs : List V) (Q : VK) (E : XK), Room k (A.deeper (envOfC qual (defScope st) s.heap.objs.size f cdv)) → sp vs H Q E →
    ∃ t, PSs (cxOf (CXF P w) P w K mg base N qual (defScope st) f cdv A outer s H E) (defBody st) t ∧ t { nx := fun _ H' => Q .non H', rt := Q } (start N vs) H
end
section
variable {P : Program} {w : World} {K : PySem.W.Frag} {mg : Str → Option Value} {base : Heap} {C : Addr}
theorem Fun.okX {x qual : Str} {st : Stmt} {f : Addr} {fd : FuncData} {N ps : List Str} {k : Nat} {sp : Sp} (F : Fun K x qual st f fd) (S : FnScope N ps (defScope st)) (len : ∀ vs H Q E, sp vs H Q E → vs.length = ps.length) (h : BodyX P w K mg base qual st N k sp) : FnOk P w K mg base (CXF P w) (k + 1) f fd ps sp := by
  obtain ⟨oc, od, kV, doc, pm, an, cdv, ct, osl, rfl, lk, hcd⟩ := F.ex
  exact fn_of lk hcd S len fun A outer s H vs Q E hr hsp => h f cdv A outer s H vs Q E hr hsp
theorem FunAt.defX {x qual : Str} {st : Stmt} {N ps : List Str} {k : Nat} {sp : Sp} (F : FunAt K mg x qual st) (S : FnScope N ps (defScope st)) (hb : BindOk x qual st ps) (len : ∀ vs H Q E, sp vs H Q E → vs.length = ps.length) (h : BodyX P w K mg base qual st N k sp) : DefX P w K mg base (k + 1) x ps sp := by
  obtain ⟨f, fd, F, e⟩ := F
  exact ⟨f, fd, F.okX S len h, e, F.kp, F.binds hb⟩
theorem MetAt.defX {x qual : Str} {st : Stmt} {N ps : List Str} {k : Nat} {sp : Sp} (F : MetAt K C x qual st) (S : FnScope N ps (defScope st)) (hb : BindOk x qual st ps) (len : ∀ vs H Q E, sp vs H Q E → vs.length = ps.length) (h : BodyX P w K mg base qual st N k sp) : MetX P w K mg base C (k + 1) x ps sp := by
  obtain ⟨f, fd, F, e⟩ := F
  exact ⟨f, fd, F.okX S len h, e, F.binds hb⟩
theorem MakAt.defX {c x qual : Str} {st : Stmt} {N ps : List Str} {k : Nat} {sp : Sp} (F : MakAt K mg C c x qual st) (S : FnScope N ps (defScope st)) (hb : BindOk x qual st ps) (len : ∀ vs H Q E, sp vs H Q E → vs.length = ps.length) (h : BodyX P w K mg base qual st N k sp) : MakX P w K mg base C (k + 1) c ps sp := by
  obtain ⟨f, fd, F, e, e2⟩ := F
  exact ⟨f, fd, F.okX S len h, e, e2, F.binds hb⟩

theorem FnOk.calm {k : Nat} {f : Addr} {fd : FuncData} {ps : List Str} {sp sp' : Sp} (F : FnOk P w K mg base (CXF P w) k f fd ps sp) (h : ∀ vs H Q E, sp' vs H Q E → sp vs H Q E0) : FnOk P w K mg base CX0 k f fd ps sp' :=
  ⟨fun vs H Q E q => F.len vs H Q E0 (h _ _ _ _ q), fun A outer s H args us vs Q E hr he hb hv hs => codeAny_mono (F.run A outer s H args us vs Q E0 hr he hb hv (h _ _ _ _ hs)) fun r s' q => by
    cases r with
    | ok f => cases f <;> exact q
    | error e => obtain ⟨_, _, _, _, _, _, _, _, z⟩ := q; exact z.elim⟩
theorem DefX.calm {k : Nat} {x : Str} {ps : List Str} {sp sp' : Sp} (D : DefX P w K mg base k x ps sp) (h : ∀ vs H Q E, sp' vs H Q E → sp vs H Q E0) : Def P w K mg base k x ps sp' :=
  let ⟨f, fd, F, r⟩ := D; ⟨f, fd, F.calm h, r⟩
theorem MetX.calm {k : Nat} {x : Str} {ps : List Str} {sp sp' : Sp} (D : MetX P w K mg base C k x ps sp) (h : ∀ vs H Q E, sp' vs H Q E → sp vs H Q E0) : MetD P w K mg base C k x ps sp' :=
  let ⟨f, fd, F, r⟩ := D; ⟨f, fd, F.calm h, r⟩
theorem MakX.calm {k : Nat} {x : Str} {ps : List Str} {sp sp' : Sp} (D : MakX P w K mg base C k x ps sp) (h : ∀ vs H Q E, sp' vs H Q E → sp vs H Q E0) : MakD P w K mg base C k x ps sp' :=
  let ⟨f, fd, F, r⟩ := D; ⟨f, fd, F.calm h, r⟩
end



noncomputable def PassesX (X : Cx) (E : St → XK) : Prop := ∀ (pins : List (Addr × Obj)) (σ : St) (H : Hp) (s : Shared) (e : Value) (s' : Shared), Inv X pins σ H s → CXF X.prog X.w X.stack H s (E σ) e s' → X.xe e s'

noncomputable def RaisesX (X : Cx) (E : St → XK) : Prop := ∀ (pins : List (Addr × Obj)) (σ : St) (H : Hp) (s : Shared) (a C : Addr) (h' : Heap) (args : List Value), Inv X pins σ H s → Heap.MadeExcOf s.heap h' a (.ref C) args → E σ (.ref C) none H → X.xe (.ref a) { s with heap := h' }
section
variable {P : Program} {w : World} {K : PySem.W.Frag} {mg : Str → Option Value} {base : Heap} {N : List Str} {qual : Str} {scope : Scope} {f : Addr} {cd : Value} {A : Around} {outer : List Env} {s : Shared} {H : Hp} {E : XK}
theorem passX : PassesX (cxOf (CXF P w) P w K mg base N qual scope f cd A outer s H E) (fun _ => E) := by
  rintro pins σ H1 s1 e s' I ⟨a, C, B, a0, d, H', rfl, F, q⟩
  exact F.leaves I rfl rfl rfl I.ok.frames fun s'' F' => ⟨a, C, B, a0, d, H', rfl, F', q⟩
theorem raiseX : RaisesX (cxOf (CXF P w) P w K mg base N qual scope f cd A outer s H E) (fun _ => E) := by
  intro pins σ H1 s1 a C h' args I hx q
  obtain ⟨a0, hm⟩ := MadeC.of hx
  exact raise_leaves (d := none) I hm rfl rfl rfl I.ok.frames fun s'' B F' => ⟨a, C, B, a0, none, H1, rfl, F', q⟩
end


noncomputable def tRaise (C : Addr) (E : St → XK) (t : TA) : TS := fun _ σ H => t σ H fun xs H1 => xs.length ≤ sizeLine ∧ E σ (.ref C) none H1
section
variable {X : Cx} {C : Addr} {E : St → XK} {x : Str} {e : Expr} {es : List Expr} {t : TA} {np cpos pos : Pos}
theorem ps_raise (hR : RaisesX X E) (xc : XCls X.K C) (hm : X.mg x = some (.ref C)) (hc : X.calm = true) (ha : PA X (e :: es) t) (hg : Gl X x := by rfl) (hdb : (x == ("__debug__" : Str)) = false := by decide)
    (he : starEach (e :: es) X.env = (false, eval e X.env) :: starEach es X.env := by rfl) (hpl : (backTo cpos (starEach es X.env)).any (·.1) = false := by rfl) :
    PS X (.Raise (some (.Call (.Name x np) (e :: es) [] cpos)) none pos) (tRaise C E t) := by
  intro pins s σ H D I h
  obtain ⟨bm, N, nm, q, bs, hdct, sn, sub, ab, col, dd, k0, k1, k2, k3, k5, mN, hC, hN, hni, TL⟩ := exc_obj I.mod.kin xc.exc
  refine wpAny_Raise_call_subU (C := C) (nm := nm) (q := q) (N := N) (bs := bs) (bm := bm) (hdct := hdct) (sn := sn) (sub := sub) (ab := ab) (col := col) (dd := dd) (k0 := k0) (k1 := k1) (k2 := k2) (k3 := k3) (k5 := k5)
    PySem.F.excBase_ValueError (by decide) PySem.F.excBase_ValueError (mN := mN) (TL.hasType (by decide)) (I.ok.hd hc) (by rw [he]; show (false || (backTo cpos (starEach es X.env)).any (·.1)) = false; rw [hpl]; rfl) hni (ld_glob I hg hm ⟨rfl, ?_⟩ hdb)
  have h2 := ha cpos pins s σ H _ I h
  rw [he] at h2 ⊢
  refine Calls.evalArgs_plain (thn h2 fun us s1 ⟨xs, H1, I1, r1, q1⟩ => ⟨rfl, by rw [← r1.length]; exact q1.1, I1.bk _ _ hC, hN.keeps I1.bk, TL.keeps I1.bk, fun h' a hx => ?_⟩)
  exact hR pins σ H1 s1 a C h' us I1 hx q1.2
end


noncomputable def tCallX (sp : Sp) (E : St → XK) (t : TA) : TE := fun σ H Q => t σ H fun vs H1 => sp vs H1 Q (E σ)
noncomputable def tMethX (C : Addr) (m : Str) (sp : Sp) (E : St → XK) (ta : TE) (t : TA) : TE := fun σ H Q => ta σ H fun x H1 => ∃ a dx fs, x = .ref a ∧ H1 a = some (.ins C dx fs) ∧ fs.lookup m = none ∧ t σ H1 fun vs H2 => sp (x :: vs) H2 Q (E σ)
noncomputable def tMakeX (C : Addr) (sp : Sp) (E : St → XK) (t : TA) : TE := fun σ H Q => t σ H fun vs H1 => ∀ x dx, H1 x = none → H1 dx = none → dx ≠ x →
  sp (.ref x :: vs) (upd (upd H1 dx (.own x)) x (.ins C dx [])) (fun v H2 => v = .non ∧ Q (.ref x) H2) (E σ)
section
variable {X : Cx} {k : Nat} {C : Addr} {f : Addr} {fd : FuncData} {ps : List Str} {sp : Sp} {x m : Str} {p pos apos : Pos} {e o : Expr} {es : List Expr} {ta : TE} {t : TA} {E : St → XK}
theorem run_fnX {pins : List (Addr × Obj)} {σ : St} {H : Hp} {s : Shared} {Q : VK} {us : List Value} {vs : List V} (F : FnOk X.prog X.w X.K X.mg X.base (CXF X.prog X.w) k f fd ps sp) (hr : Room k X.A) (hb : Binds X.K fd ps []) (hx : PassesX X E)
    (I : Inv X pins σ H s) (r : Vals vs us) (h : sp vs H Q (E σ)) : wpAny (model X.prog X.w) X.A (call (.ref f) us) (EP X pins σ Q) X.xe s := by
  have hl : us.length = ps.length := by rw [← r.length]; exact F.len _ _ _ _ h
  have hb' := hb s us I.kIn (by rw [List.append_nil]; exact hl)
  rw [List.append_nil] at hb'
  refine wpAny_call (codeAny_mono (F.run X.A X.stack s H ⟨us, []⟩ us vs Q (E σ) hr I.env0 hb' r h) fun r s' hq => ?_)
  cases r with
  | error e => exact hx pins σ H s e s' I hq
  | ok fl =>
    cases fl with
    | ret u => exact I.after hq
    | next => exact False.elim hq
    | brk => exact False.elim hq
    | cont => exact False.elim hq
theorem pe_callX (D : DefX X.prog X.w X.K X.mg X.base k x ps sp) (hr : Room k X.A) (hx : PassesX X E) (ha : PA X (e :: es) t) (hg : Gl X x := by rfl) (hdb : (x == ("__debug__" : Str)) = false := by decide)
    (he : starEach (e :: es) X.env = (false, eval e X.env) :: starEach es X.env := by rfl) (hpl : (backTo pos (starEach es X.env)).any (·.1) = false := by rfl) : PE X (.Call (.Name x p) (e :: es) [] pos) (tCallX sp E t) := by
  obtain ⟨f, fd, F, hm, hk, hb⟩ := D
  intro pins s σ H Q I h
  refine wpAny_Call_Name_kw (ld_glob I hg hm ?_ hdb)
  refine PySem.W.callWith_K (h₀ := X.base) I.ok.mod.kin hk (thn (ha pos pins s σ H _ I h) fun us s1 ⟨vs, H1, I1, r, q⟩ => ⟨I1.kIn, ?_⟩) he hpl
  exact run_fnX F hr hb hx I1 r q
theorem pe_methX {pl : Sem Bool} (D : MetX X.prog X.w X.K X.mg X.base C k m ps sp) (c : Cls X.K C) (hr : Room k X.A) (hx : PassesX X E) (he : PE X o ta) (ha : PA X (e :: es) t)
    (hst : starEach (e :: es) X.env = (false, eval e X.env) :: starEach es X.env := by rfl) (hpl : (backTo pos (starEach es X.env)).any (·.1) = false := by rfl)
    (ht : eval (.Call (.Attribute o m apos) (e :: es) [] pos) X.env = (do
      let ov ← eval o X.env
      standAt apos.atName
      let (f, first) ← holding [ov] (getMethod ov m pl)
      callWith pos f first (backTo pos (starEach (e :: es) X.env)) (backToKw pos (keywordEach [] X.env))) := by rfl) :
    PE X (.Call (.Attribute o m apos) (e :: es) [] pos) (tMethX C m sp E ta t) := by
  obtain ⟨f, fd, F, hm, hb⟩ := D
  intro pins s σ H Q I h
  refine PySem.W.methodCall_KW (pl := pl) (thn (he pins s σ H _ I h) fun u s1 hh9 => ?_) ht
  obtain ⟨x, H1, I1, rx, a, dx, fs, ex, ea, l, q⟩ := hh9
  subst ex
  obtain rfl : u = Value.ref a := rx
  refine getmeth_ok I1 ea c hm l ?_
  refine PySem.W.callWith_K (first := [.ref a]) (h₀ := X.base) I.ok.mod.kin hm.kp (thn (ha pos pins s1 σ H1 _ I1 q) fun us s2 ⟨vs, H2, I2, r, q2⟩ => ⟨I2.kIn, ?_⟩) hst hpl
  exact run_fnX (us := .ref a :: us) (vs := .ref a :: vs) F hr hb hx I2 (.cons rfl r) q2
theorem pe_makeX (D : MakX X.prog X.w X.K X.mg X.base C k x ps sp) (hr : Room (k + 1) X.A) (hx : PassesX X E) (ha : PA X (e :: es) t) (hg : Gl X x := by rfl) (hdb : (x == ("__debug__" : Str)) = false := by decide)
    (he : starEach (e :: es) X.env = (false, eval e X.env) :: starEach es X.env := by rfl) (hpl : (backTo pos (starEach es X.env)).any (·.1) = false := by rfl) : PE X (.Call (.Name x p) (e :: es) [] pos) (tMakeX C sp E t) := by
  obtain ⟨f, fd, F, M, hm, hb⟩ := D
  intro pins s σ H Q I h
  refine wpAny_Call_Name_kw (ld_glob I hg hm ?_ hdb)
  refine PySem.W.callWith_K (h₀ := X.base) I.ok.mod.kin M.kp (thn (ha pos pins s σ H _ I h) fun us s1 ⟨vs, H1, I1, r, q⟩ => ⟨I1.kIn, ?_⟩) he hpl
  have hq := q (s1.heap.objs.size + 1) s1.heap.objs.size (I1.hok.fresh (Nat.le_succ _)) (I1.hok.fresh (Nat.le_refl _)) (Nat.ne_of_lt (Nat.lt_succ_self _))
  have I2 := Inv.made (C := C) I1
  have r2 : Vals (V.ref (s1.heap.objs.size + 1) :: vs) (Value.ref (s1.heap.objs.size + 1) :: us) := .cons rfl r
  have hl : (Value.ref (s1.heap.objs.size + 1) :: us).length = ps.length := by
    rw [← r2.length]
    exact F.len _ _ _ _ hq
  have hb' := hb _ (Value.ref (s1.heap.objs.size + 1) :: us) I2.kIn (by rw [List.append_nil]; exact hl)
  rw [List.append_nil] at hb'
  refine wpAny_call (make_map (f := f) I1.kIn M.makes M.init (beq_iff_eq.mp M.fn) (codeAny_mono (F.run _ X.stack _ _ ⟨Value.ref (s1.heap.objs.size + 1) :: us, []⟩ (Value.ref (s1.heap.objs.size + 1) :: us) _ _ (E σ) (hr.make C us [])
    (I2.env0.make C us []) hb' r2 hq) fun r s' hq' => ?_))
  cases r with
  | error e => exact hx pins σ _ _ e s' I2 hq'
  | ok fl =>
    cases fl with
    | ret u =>
      obtain ⟨v, H', I3, rv, ev, q3⟩ := I2.after hq'
      subst ev
      exact ⟨rv, ⟨V.ref (s1.heap.objs.size + 1), H', I3, rfl, q3⟩⟩
    | next => exact False.elim hq'
    | brk => exact False.elim hq'
    | cont => exact False.elim hq'
end
end L2

set_option maxHeartbeats 1000000

namespace L2
open PySem PySem.Spec PyProof.Rows


noncomputable abbrev Cx.tryx (X : Cx) (F : Value → Shared → Prop) (pn : List (Addr × Obj)) : Cx := { X with xe := F, pn := X.pn ++ pn }
noncomputable abbrev Cx.inexc (X : Cx) (e : Value) : Cx := { X with A := X.A.mark (some e), calm := false, xe := fun _ _ => False }
section
variable {X : Cx} {pins pn : List (Addr × Obj)} {σ : St} {H : Hp} {s : Shared} {F : Value → Shared → Prop} {e : Value}
theorem Cx.Ok.tryx (ok : X.Ok) : (X.tryx F pn).Ok :=
  ⟨ok.mod, ok.kind, ok.glob, ok.blt, ok.above, ok.inj, ok.has, ok.cab, ok.hd, ok.frames, ok.stk, ok.exf, ok.bs, ok.bsz, ok.noex, ok.exfs, ok.funs, ok.frf⟩
theorem Cx.Ok.untryx (ok : (X.tryx F pn).Ok) : X.Ok :=
  ⟨ok.mod, ok.kind, ok.glob, ok.blt, ok.above, ok.inj, ok.has, ok.cab, ok.hd, ok.frames, ok.stk, ok.exf, ok.bs, ok.bsz, ok.noex, ok.exfs, ok.funs, ok.frf⟩
theorem Cx.Ok.inexc (ok : X.Ok) : (X.inexc e).Ok :=
  ⟨ok.mod, ok.kind, ok.glob, ok.blt, ok.above, ok.inj, ok.has, ok.cab, (fun z => nomatch z), ok.frames, ok.stk, ok.exf, ok.bs, ok.bsz, ok.noex, ok.exfs, ok.funs, ok.frf⟩
theorem Inv.tryx (I : Inv X pn σ H s) : Inv (X.tryx F pn) [] σ H s :=
  ⟨I.ok.tryx, I.os, I.bare, I.base, I.loc, I.cell, I.free, I.freeC, fun p hp => I.pin p (by have hp' : p ∈ (X.pn ++ pn) ++ [] := hp; rwa [List.append_nil] at hp'), I.hok, I.len⟩
theorem Inv.untryx (I : Inv (X.tryx F pn) pins σ H s) : Inv X pn σ H s :=
  ⟨I.ok.untryx, I.os, I.bare, I.base, I.loc, I.cell, I.free, I.freeC, fun p hp => I.pin p (List.mem_append_left _ hp), I.hok, I.len⟩
theorem Inv.inexc (I : Inv X pins σ H s) : Inv (X.inexc e) pins σ H s :=
  ⟨I.ok.inexc, I.os, I.bare, I.base, I.loc, I.cell, I.free, I.freeC, I.pin, I.hok, I.len⟩
theorem Inv.uninexc (ok : X.Ok) (I : Inv (X.inexc e) pins σ H s) : Inv X pins σ H s :=
  ⟨ok, I.os, I.bare, I.base, I.loc, I.cell, I.free, I.freeC, I.pin, I.hok, I.len⟩


theorem unname_ok2 {M : Model} {A : Around} {E : Value → Shared → Prop} {i : Nat} {x : Str} {pos : Pos} {Q : Unit → Shared → Prop} (I : Inv X pins σ H s) (hN : X.N.Nodup) (hi : X.N[i]? = some x) (hk : X.env.kindOf x = some .local)
    (h : ∀ s', Inv X pins (σ.set i none) H s' → Heap.SameBut X.env.locals s.heap s'.heap → Q () s') : wpAny M A (do bindName X.env x .none; unbindBehindTheSuite X.env x pos) Q E s := by
  obtain ⟨m, hn, hl⟩ := id I.loc
  have hcls : (X.env.scope.kind == .class || (X.env.scope.kind == .module && X.env.locals != X.env.globals)) = false := by rw [I.ok.kind]; rfl
  obtain ⟨oL, _, _, hoL, _⟩ := id hn
  refine wpAny_nameGoes_keeps hk hn hcls fun h' v hn' hs => h _ ?_ hs
  have far : ∀ b o, X.s₀.heap.get? b = some o → b ≠ X.env.locals := fun b o e => Nat.ne_of_lt (Nat.lt_of_lt_of_le (Heap.lt_size e) I.ok.above)
  refine ⟨I.ok, I.os, I.bare, ⟨fun b o e n hb hx => (hs.2 b (far b o e)).trans (I.base.keep b o e n hb hx), fun b o e n hb hx => ?_, I.base.free, fun b o e hx => ?_, I.base.tups, I.base.frzs, I.base.tbls⟩, ⟨_, hn', fun j y v' e1 e2 e3 => ?_⟩, fun y c e => ?_, I.free, I.freeC, fun p hp => ?_, fun b ob e => ?_, by simpa using I.len⟩
  · obtain ⟨sl, e1⟩ := I.base.slot b o e n hb hx
    exact ⟨sl, (hs.2 b (far b o e)).trans e1⟩
  · obtain ⟨o', e1⟩ := I.base.there b o e hx
    exact ⟨o', (hs.2 b (far b o e)).trans e1⟩
  · have hj : j ≠ i := fun z => by
      subst z
      rw [List.getElem?_set] at e2
      split at e2
      · split at e2 <;> cases e2
      · next q => exact q rfl
    rw [List.getElem?_set_ne (Ne.symm hj)] at e2
    obtain ⟨u', r', q⟩ := hl j y v' e1 e2 e3
    refine ⟨u', r', ?_⟩
    rcases q with ⟨k, e⟩ | ⟨k, c, e, z⟩
    · refine .inl ⟨k, ?_⟩
      have : y ≠ x := fun e => hj (nodup_ix hN e1 (e ▸ hi))
      simp [this, e]
    · exact .inr ⟨k, c, e, z.sameBut hs (I.cne y c e)⟩
  · obtain ⟨w', z⟩ := I.cell y c e
    exact ⟨w', z.sameBut hs (I.cne y c e)⟩
  · obtain ⟨e, n, ne, nf, d⟩ := I.pin p hp
    exact ⟨(hs.2 p.1 ne).trans e, n, ne, nf, d⟩
  · refine (I.hok b ob e).stay (fun c w' hc q => (hs.2 c ?_).trans q) (fun _ q => q) fun _ _ q => q
    intro z
    have hf : H c = none := z ▸ I.free
    rcases hc with z2 | hc
    · rw [← z2, hf] at e; cases e
    · rw [hf] at hc; cases hc
theorem unname_ok {M : Model} {A : Around} {E : Value → Shared → Prop} {i : Nat} {x : Str} {pos : Pos} {Q : Unit → Shared → Prop} (I : Inv X pins σ H s) (hN : X.N.Nodup) (hi : X.N[i]? = some x) (hk : X.env.kindOf x = some .local)
    (h : ∀ s', Inv X pins (σ.set i none) H s' → Q () s') : wpAny M A (do bindName X.env x .none; unbindBehindTheSuite X.env x pos) Q E s := unname_ok2 I hN hi hk fun s' I' _ => h s' I'
end


noncomputable abbrev excO (a C : Addr) : HO := .ext (ExcAt a C)
theorem excO_ok {P : Program} {w : World} {H : Hp} {h : Heap} {a C : Addr} (x : ExcAt a C h) : ObjOk P w H h a (excO a C) := by
  obtain ⟨o, e, c⟩ := id x
  exact ⟨x, ⟨o, e⟩, fun h1 h2 ⟨o1, e1, c1⟩ k => ⟨o1, k o1 e1, c1⟩⟩

section
variable {X : Cx} {pins : List (Addr × Obj)} {σ : St} {H H' : Hp} {s s' : Shared} {a C : Addr} {B : Heap} {a0 : Value} {d : Option Addr}

theorem Inv.caught (I : Inv X pins σ H s) (F : Fly X.prog X.w X.stack H s a C B a0 d H' s') : Inv X pins σ (upd H' a (excO a C)) s' := by
  have hna : ∀ b u, s.heap.get? b = some u → b ≠ a := fun b u e z => by
    rw [z, F.new] at e
    cases e
  have fr := F.free
  refine I.call' (ch := []) F.os ⟨F.un.keep, F.un.slot, fun b o e n hx => ?_, F.un.there, fun b xs e => ?_, fun b o u e => ?_, fun b ps e => ?_⟩ (fun b o e => ?_) F.bare fun b z => absurd z (by simp)
  · rw [upd_ne (hna b o e)]
    exact F.un.free b o e n hx
  · have := F.un.tups b xs e
    rw [upd_ne (ne_of_none this fr)]
    exact this
  · have := F.un.frzs b o u e
    rw [upd_ne (ne_of_none this fr)]
    exact this
  · obtain ⟨more, this⟩ := F.un.tbls b ps e
    exact ⟨more, by rw [upd_ne (ne_of_none this fr)]; exact this⟩
  · by_cases hb : b = a
    · subst hb
      rw [upd_same] at e
      cases e
      exact excO_ok F.fly.there
    · rw [upd_ne hb] at e
      exact (F.hok b o e).stay (fun _ _ _ q => q) (fun c q => by rw [upd_ne (ne_of_none q fr)]; exact q) fun c xs q => by rw [upd_ne (ne_of_none q fr)]; exact q
end


noncomputable def tTry (K : PySem.W.Frag) (D : Addr) (i : Nat) (E : St → XK) (t ts : TS) : TS := fun Dn σ H => t Dn σ H ∧ ∀ σ' c d H', σ'.length = σ.length → E σ' c d H' → ∃ C, c = .ref C ∧ PySem.W.mroIn K C (.ref D) = some true ∧
  ∀ a, H' a = none → ts { nx := fun σ2 H2 => Dn.nx (σ2.set i none) H2, rt := Dn.rt, bk := fun σ2 H2 => Dn.bk (σ2.set i none) H2, ct := fun σ2 H2 => Dn.ct (σ2.set i none) H2 } (σ'.set i (some (.ref a))) (upd H' a (excO a C))
section
variable {X : Cx} {body suite : List Stmt} {b₀ : Stmt} {x n : Str} {D : Addr} {i : Nat} {t ts : TS} {E : St → XK} {np hp pos : Pos}
theorem ps_try (yD : XCls X.K D) (hm : X.mg x = some (.ref D)) (hst : X.stack = X.env :: X.outer) (hf : X.env.frame = some X.env.locals)
    (hb : ∀ (F : Value → Shared → Prop) (pn : List (Addr × Obj)), PassesX (X.tryx F pn) E → PSs (X.tryx F pn) body t) (hs : ∀ e, PSs (X.inexc e) (b₀ :: suite) ts)
    (hN : X.N.Nodup) (hi : X.N[i]? = some n) (hk : X.env.kindOf n = some .local) (hg : Gl X x := by rfl) (hdb : (x == ("__debug__" : Str)) = false := by decide) :
    PS X (.Try body [.ExceptHandler (some (.Name x np)) (some n) (b₀ :: suite) hp] [] [] pos) (tTry X.K D i E t ts) := by
  intro pins s σ H Dn I h
  obtain ⟨h1, h2⟩ := h
  refine wpAny_Try_except ?_
  refine wpAny_mono (hb _ pins ?_ [] s σ H Dn I.tryx h1) (fun f s1 q => ?_) fun e s1 q => q
  · -- an exception of the body
    rintro pins' σ' H1 s1 e s' I1' ⟨a, C, B, a0, d, H', rfl, F, q⟩
    have I1 : Inv X pins σ' H1 s1 := I1'.untryx
    have F1 : Fly X.prog X.w X.stack H1 s1 a C B a0 d H' s' := F
    obtain ⟨C', ec, hmro, k⟩ := h2 σ' _ _ _ (I1.len.trans I.len.symm) q
    cases ec
    have hfr := F1.free
    show wpAny _ X.A (noteFrame (.ref a) X.env) _ _ s'
    refine noteC_next (L := X.env.locals) (hst ▸ I.ok.frames) hf (hst ▸ F1.fly) fun h4 held4 sm4 => ?_
    refine flightC (s := { s' with heap := h4 }) (fr := none) held4 fun h5 fly5 sm5 => ?_
    have F5 := F1.on I1.frames (hst ▸ fly5) (sm4.trans sm5)
    have J5 := I1.caught F5
    refine wpAny_handleBy_cons (codeAny_handlers_test (ld_glob (X := X.inexc (.ref a)) (J5.inexc (e := .ref a)) hg hm ?_ hdb)) (by intro q; cases q)
    refine exc_match J5.kIn yD F5.fly.there hmro ?_
    show codeAny _ _ (.handlers (.ref a) [.ExceptHandler none (some n) (b₀ :: suite) hp] X.env) _ _
    refine codeAny_handlers_suite_as (flightC (fr := none) F5.fly fun h6 fly6 sm6 => ?_)
    have F6 := F5.on I1.frames fly6 sm6
    have J6 := I1.caught F6
    refine store_ok J6 hN hi (Or.inl hk) (v := .ref a) rfl (fun s7 J7 => ?_) (Or.inr hk)
    refine wpAny_mono (hs (.ref a) pins s7 _ _ _ (J7.inexc (e := .ref a)) (k a hfr)) (fun f s8 q8 => ?_) fun _ _ z => z.elim
    cases f with
    | next =>
      obtain ⟨σ2, H2, I2, z⟩ := q8
      exact unname_ok (I2.uninexc I.ok) hN hi hk fun s9 I9 => ⟨_, H2, I9, z⟩
    | ret v =>
      obtain ⟨v', σ2, H2, I2, r, z⟩ := q8
      exact unname_ok (I2.uninexc I.ok) hN hi hk fun s9 I9 => ⟨v', _, H2, I9, r, z⟩
    | brk =>
      obtain ⟨σ2, H2, I2, z⟩ := q8
      exact unname_ok (I2.uninexc I.ok) hN hi hk fun s9 I9 => ⟨_, H2, I9, z⟩
    | cont =>
      obtain ⟨σ2, H2, I2, z⟩ := q8
      exact unname_ok (I2.uninexc I.ok) hN hi hk fun s9 I9 => ⟨_, H2, I9, z⟩
  · cases f with
    | next =>
      obtain ⟨σ', H', I', z⟩ := q
      exact wpAny_execs_nil ⟨σ', H', I'.untryx, z⟩
    | ret v =>
      obtain ⟨v', σ', H', I', r, z⟩ := q
      exact ⟨v', σ', H', I'.untryx, r, z⟩
    | brk =>
      obtain ⟨σ', H', I', z⟩ := q
      exact ⟨σ', H', I'.untryx, z⟩
    | cont =>
      obtain ⟨σ', H', I', z⟩ := q
      exact ⟨σ', H', I'.untryx, z⟩
end
end L2

set_option maxHeartbeats 1000000

namespace L2
open PySem PySem.Spec PyProof.Rows


structure RoomU (k : Nat) (A : Around) : Prop where
  dp : A.depth + 3 * k + 5 < recursionLimit
  un : A.units + 16 * k + 200 < cLine
theorem Room.u {k : Nat} {A : Around} (r : Room k A) : RoomU k A := ⟨r.dp, r.un⟩
theorem RoomU.mark {k : Nat} {A : Around} (r : RoomU k A) (e : Option Value) : RoomU k (A.mark e) := ⟨r.dp, r.un⟩
theorem RoomU.deeper {k : Nat} {A : Around} (r : RoomU (k + 1) A) (env : Env) : RoomU k (A.deeper env) :=
  ⟨by have := r.dp; show A.depth + 1 + 3 * k + 5 < _; omega, by have := r.un; show A.units + 3 + 16 * k + 200 < _; omega⟩
theorem RoomU.depth {k : Nat} {A : Around} (r : RoomU k A) : A.depth < recursionLimit := by have := r.dp; omega
noncomputable abbrev cxU (P : Program) (w : World) (K : PySem.W.Frag) (mg : Str → Option Value) (base : Heap) (N : List Str) (qual : Str) (scope : Scope) (f : Addr) (cd : Value) (A : Around) (outer : List Env) (s : Shared) (H : Hp) : Cx :=
  { cxOf CX0 P w K mg base N qual scope f cd A outer s H E0 with calm := false, xe := fun _ _ => False }

structure FnU (P : Program) (w : World) (K : PySem.W.Frag) (mg : Str → Option Value) (base : Heap) (k : Nat) (f : Addr) (fd : FuncData) (ps : List Str) (sp : Sp) : Prop where
  len : ∀ vs H Q E, sp vs H Q E → vs.length = ps.length
  run : ∀ (A : Around) (outer : List Env) (s : Shared) (H : Hp) (args : Args) (us : List Value) (vs : List V) (Q : VK), RoomU k A → Env0 P w K mg base A outer s H → BindsTo s fd args (ps.zip us) → Vals vs us → sp vs H Q E0 →
    codeAny (model P w) A (.call (.ref f) args) (CR CX0 outer P w H s Q E0) s
theorem fn_ofU {P : Program} {w : World} {K : PySem.W.Frag} {mg : Str → Option Value} {base : Heap} {k : Nat} {f : Addr} {name qual : Str} {params : Arguments} {body : List Stmt} {scope : Scope} {dV kV doc pm cdv ct oc : Value} {an od : Option Addr}
    {osl : Array (Option Value)} {N ps : List Str} {sp : Sp} (lk : K.lookup f = some ⟨oc, od, .func (PySem.W.fnOf name qual params body scope dV kV doc pm an cdv ct), osl⟩) (hcd : PySem.W.codeIn K cdv qual = true) (S : FnScope N ps scope)
    (len : ∀ vs H Q E, sp vs H Q E → vs.length = ps.length)
    (hbody : ∀ (A : Around) (outer : List Env) (s : Shared) (H : Hp) (vs : List V) (Q : VK), RoomU k (A.deeper (envOfC qual scope s.heap.objs.size f cdv)) → sp vs H Q E0 →
      ∃ t, PSs (cxU P w K mg base N qual scope f cdv A outer s H) body t ∧ t { nx := fun _ H' => Q .non H', rt := Q } (start N vs) H) :
    FnU P w K mg base (k + 1) f (PySem.W.fnOf name qual params body scope dV kV doc pm an cdv ct) ps sp := by
  refine ⟨len, fun A outer s H args us vs Q hr e0 hb r hsp => ?_⟩
  have hl := len _ _ _ _ hsp
  have KX : K.In s.heap := e0.mod.kin.keeps fun b o e => (e0.bs b o e).1
  have lim : s.heap.NoLimit := e0.mod.nolimit.keeps fun b o e => (e0.bs b o e).1
  have hkind : ∀ y ∈ ps.zip us, scope.names.lookup y.1 = some .local ∨ (scope.names.lookup y.1 = some .cell ∧ ((cellsFrom (s.heap.objs.size + 1) scope.names []).lookup y.1).isSome = true) := fun ⟨n, v⟩ hy => by
    rcases S.par n (List.of_mem_zip hy).1 with q | q
    · exact .inl q
    · exact .inr ⟨q, PySem.W.cellsFrom_some _ _ _ (.inl q)⟩
  refine codeAny_call_function hr.depth (KX _ _ lk) rfl S.co S.gen rfl (PySem.W.codeRec_of KX hcd) (hb _ _ _ _ ?_)
  refine wpAny_newFunctionEnv_cells S.kind hkind fun env he s1 x => ?_
  subst he
  refine ⟨lim.keeps x.toInCall.keep, codeAny_func ?_⟩
  obtain ⟨t, ht, hq⟩ := hbody A outer s H vs Q (hr.deeper _) hsp
  have e1 : Env0 P w K mg base { A with handled := none } outer s H := ⟨e0.frames, e0.mod, e0.bs, e0.bsz, e0.funs, e0.frf, e0.hok, e0.bare⟩
  have I0 : Inv (cxOf CX0 P w K mg base N qual scope f cdv { A with handled := none } outer s H E0) [] (start N vs) H s1 := inv_start S rfl e1 hl r x
  have ok := I0.ok
  have I : Inv (cxU P w K mg base N qual scope f cdv A outer s H) [] (start N vs) H s1 :=
    ⟨⟨ok.mod, ok.kind, ok.glob, ok.blt, ok.above, ok.inj, ok.has, ok.cab, (fun z => nomatch z), Around.frames_deeper e0.frames, ok.stk, ok.exf, ok.bs, ok.bsz, ok.noex, ok.exfs, ok.funs, ok.frf⟩, I0.os, I0.bare, I0.base, I0.loc, I0.cell, I0.free, I0.freeC, I0.pin, I0.hok, I0.len⟩
  refine wpAny_mono (ht [] s1 (start N vs) H _ I hq) (fun fl s' hs => ?_) fun e s' hs => hs.elim
  have fin : ∀ {σ' : St} {H' : Hp} {v : V} {u : Value}, Inv (cxU P w K mg base N qual scope f cdv A outer s H) [] σ' H' s' → RelV v u → Q v H' → CE outer P w H s Q u s' :=
    fun {σ' H' v u} J rv q => ⟨v, H', J.os, J.bare, J.base, J.hok, rv, q⟩
  cases fl with
  | ret u =>
    obtain ⟨v, σ', H', J, rv, q⟩ := hs
    exact fin J rv q
  | next =>
    obtain ⟨σ', H', J, q⟩ := hs
    exact fin (v := V.non) (u := Value.none) J rfl q
  | brk =>
    obtain ⟨_, _, _, q⟩ := hs
    exact False.elim q
  | cont =>
    obtain ⟨_, _, _, q⟩ := hs
    exact False.elim q

noncomputable def DefU (P : Program) (w : World) (K : PySem.W.Frag) (mg : Str → Option Value) (base : Heap) (k : Nat) (x : Str) (ps : List Str) (sp : Sp) : Prop := ∃ f fd, FnU P w K mg base k f fd ps sp ∧ mg x = some (.ref f) ∧ PySem.W.keepIn K (.ref f) = true ∧ Binds K fd ps []
noncomputable def BodyU (P : Program) (w : World) (K : PySem.W.Frag) (mg : Str → Option Value) (base : Heap) (qual : Str) (st : Stmt) (N : List Str) (k : Nat) (sp : Sp) : Prop :=
  ∀ (f : Addr) (cdv : Value) (A : Around) (outer : List Env) (s : Shared) (H : Hp) (vs : List V) (Q : VK), RoomU k (A.deeper (envOfC qual (defScope st) s.heap.objs.size f cdv)) → sp vs H Q E0 →
    ∃ t, PSs (cxU P w K mg base N qual (defScope st) f cdv A outer s H) (defBody st) t ∧ t { nx := fun _ H' => Q .non H', rt := Q } (start N vs) H
theorem FunAt.defU {P : Program} {w : World} {K : PySem.W.Frag} {mg : Str → Option Value} {base : Heap} {x qual : Str} {st : Stmt} {N ps : List Str} {k : Nat} {sp : Sp} (F : FunAt K mg x qual st) (S : FnScope N ps (defScope st)) (hb : BindOk x qual st ps) (len : ∀ vs H Q E, sp vs H Q E → vs.length = ps.length) (h : BodyU P w K mg base qual st N k sp) : DefU P w K mg base (k + 1) x ps sp := by
  obtain ⟨f, fd, F, e⟩ := F
  refine ⟨f, fd, ?_, e, F.kp, F.binds hb⟩
  obtain ⟨oc, od, kV, doc, pm, an, cdv, ct, osl, rfl, lk, hcd⟩ := F.ex
  exact fn_ofU lk hcd S len fun A outer s H vs Q hr hsp => h f cdv A outer s H vs Q hr hsp
section
variable {X : Cx} {k : Nat} {ps : List Str} {sp : Sp} {x : Str} {p pos : Pos} {e : Expr} {es : List Expr} {t : TA}
theorem pe_callU (D : DefU X.prog X.w X.K X.mg X.base k x ps sp) (hr : RoomU k X.A) (ha : PA X (e :: es) t) (hg : Gl X x := by rfl) (hdb : (x == ("__debug__" : Str)) = false := by decide)
    (he : starEach (e :: es) X.env = (false, eval e X.env) :: starEach es X.env := by rfl) (hpl : (backTo pos (starEach es X.env)).any (·.1) = false := by rfl) : PE X (.Call (.Name x p) (e :: es) [] pos) (tCall sp [] E0 t) := by
  obtain ⟨f, fd, F, hm, hk, hb⟩ := D
  intro pins s σ H Q I h
  refine wpAny_Call_Name_kw (ld_glob I hg hm ?_ hdb)
  refine PySem.W.callWith_K (h₀ := X.base) I.ok.mod.kin hk (thn (ha pos pins s σ H _ I h) fun us s1 ⟨vs, H1, I1, r, q⟩ => ⟨I1.kIn, ?_⟩) he hpl
  have q : sp (vs ++ []) H1 Q E0 := q
  rw [List.append_nil] at q
  have hl : us.length = ps.length := by rw [← r.length]; exact F.len _ _ _ _ q
  have hb' := hb s1 us I1.kIn (by rw [List.append_nil]; exact hl)
  rw [List.append_nil] at hb'
  refine wpAny_call (codeAny_mono (F.run X.A X.stack s1 H1 ⟨us, []⟩ us vs Q hr I1.env0 hb' r q) fun r s' hq => ?_)
  cases r with
  | error e => exact hq.elim
  | ok fl =>
    cases fl with
    | ret u => exact I1.after hq
    | next => exact False.elim hq
    | brk => exact False.elim hq
    | cont => exact False.elim hq
end


noncomputable def clsV : V → Value
  | .ref D => .ref D
  | .ty n => .type n
  | _ => .none
theorem call_isiX {X : Cx} : CallR X (.builtin "isinstance") (fun xs H Q => ∃ a C c b, xs = [.ref a, c] ∧ H a = some (excO a C) ∧ XCls X.K C ∧ clsV c ≠ .none ∧ PySem.W.kitOne X.K (.ref C) (clsV c) = some b ∧ Q (.bl b) H) := by
  intro pins s σ H xs us Q I r h
  obtain ⟨a, C, c, b, rfl, ha, xc, hc, e, q⟩ := h
  obtain ⟨u, v, rfl, ru, rv⟩ := vals2 r
  cases ru
  have ev : v = clsV c := by
    cases c with
    | ref D => exact rv
    | ty n => exact rv
    | _ => exact absurd rfl hc
  subst ev
  obtain ⟨x, _, _⟩ := (show ObjOk X.prog X.w H s.heap a (excO a C) from I.hok a _ ha)
  exact isi_exc xc I.kIn x e fun tk => ⟨.bl b, H, I.tok tk, rfl, q⟩

theorem kit_own {K : PySem.W.Frag} {C D : Addr} {b : Bool} (y : XCls K D) (ty : PySem.W.typeIn K (.ref D) = some (.type "type")) (e : PySem.W.mroIn K C (.ref D) = some b) (hs : C = D → b = true) : PySem.W.kitOne K (.ref C) (.ref D) = some b := by
  unfold PySem.W.kitOne
  by_cases h : C = D
  · rw [if_pos (by rw [h]; exact beq_self_eq_true _), hs h]
  · rw [if_neg (fun z => h (Value.ref.inj (beq_iff_eq.mp z)))]
    unfold PySem.W.kitCls
    obtain ⟨cd, hcd⟩ := y.isCls
    have : ((PySem.W.clsIn K D).isSome && PySem.W.typeIn K (.ref D) == some (.type "type")) = true := by rw [hcd, ty]; rfl
    simp only [this, if_true]
    exact e
theorem kit_ve {K : PySem.W.Frag} {C : Addr} (e : PySem.W.mroIn K C (.type "ValueError") = some true) : PySem.W.kitOne K (.ref C) (.type "ValueError") = some true := by
  unfold PySem.W.kitOne
  rw [if_neg (by intro z; cases beq_iff_eq.mp z)]
  unfold PySem.W.kitCls
  simp only [show PySem.W.kitMeta "ValueError" = true from by decide +kernel, if_true]
  exact e
end L2

set_option maxHeartbeats 1000000

namespace L2
open PySem PySem.Spec PyProof.Rows
theorem RoomU.mono {j k : Nat} {A : Around} (r : RoomU k A) (h : j ≤ k) : RoomU j A := ⟨by have := r.dp; omega, by have := r.un; omega⟩
noncomputable def rIsi (K : PySem.W.Frag) : List V → Hp → VK → Prop := fun xs H Q => ∃ a C c b, xs = [.ref a, c] ∧ H a = some (excO a C) ∧ XCls K C ∧ clsV c ≠ .none ∧ PySem.W.kitOne K (.ref C) (clsV c) = some b ∧ Q (.bl b) H
theorem call_isiK {X : Cx} (K : PySem.W.Frag) (hK : X.K = K) : CallR X (.builtin "isinstance") (rIsi K) := by
  subst hK
  exact call_isiX
end L2
namespace Hw
open PySem L2 HwSort
inductive Ex where
  | HearError | NoBook | NoTeller | Alone | First | NoHearing | NoFamily | BadText
  deriving DecidableEq
noncomputable abbrev Ex.name : Ex → Str
  | .HearError => "HearError"
  | .NoBook => "NoBook"
  | .NoTeller => "NoTeller"
  | .Alone => "Alone"
  | .First => "First"
  | .NoHearing => "NoHearing"
  | .NoFamily => "NoFamily"
  | .BadText => "BadText"
noncomputable def isa (x y : Ex) : Bool := decide (x = y) || decide (y = .HearError)
structure XName (K : PySem.W.Frag) (mg : Str → Option Value) (x : Str) (C : Addr) : Prop where
  xc : XCls K C
  gl : mg x = some (.ref C)
  ty : PySem.W.typeIn K (.ref C) = some (.type "type")
  ve : PySem.W.mroIn K C (.type "ValueError") = some true
structure Exc (K : PySem.W.Frag) (mg : Str → Option Value) (has : List Ex) (xa : Ex → Addr) : Prop where
  nm : ∀ x ∈ has, XName K mg x.name (xa x)
  mro : ∀ x ∈ has, ∀ y ∈ has, PySem.W.mroIn K (xa x) (.ref (xa y)) = some (isa x y)
section
variable {K : PySem.W.Frag} {mg : Str → Option Value} {has : List Ex} {xa : Ex → Addr}
theorem Exc.kit (E : Exc K mg has xa) {x y : Ex} (hx : x ∈ has) (hy : y ∈ has) : PySem.W.kitOne K (.ref (xa x)) (.ref (xa y)) = some (isa x y) := by
  refine kit_own (E.nm y hy).xc (E.nm y hy).ty (E.mro x hx y hy) fun e => ?_
  have h1 := E.mro x hx y hy
  have h2 := E.mro y hy y hy
  rw [e, h2] at h1
  have h3 := (Option.some.inj h1).symm
  rw [h3]
  simp [isa]
theorem Exc.kitV (E : Exc K mg has xa) {x : Ex} (hx : x ∈ has) : PySem.W.kitOne K (.ref (xa x)) (.type "ValueError") = some true := kit_ve (E.nm x hx).ve
end

noncomputable def refuses (many one other : Int) : Option Ex :=
  if ¬ ((0 ≤ one ∧ one < many) ∧ (0 ≤ other ∧ other < many)) then some .NoTeller
  else if one = other then some .Alone
  else if other = 0 then some .First
  else none
theorem refuses_ok {many one other : Int} (h : Ok2 many one other) : refuses many one other = none := by
  obtain ⟨h1, h2, h3, h4, h5, h6⟩ := h
  unfold refuses
  rw [if_neg (by simp [h1, h2, h3, h4]), if_neg h5, if_neg h6]
inductive sp_checkX (xa : Ex → Addr) (vs : List V) (H : Hp) (Q : VK) (E : XK) : Prop
  | mk (many : _) (one : _) (other : _) (h09 : vs = [.int many, .int one, .int other]) (h19 : (refuses many one other = none → Q .non H)) (h29 : ∀ x, refuses many one other = some x → E (.ref (xa x)) none H) : sp_checkX xa vs H Q E
inductive sp_initX (xa : Ex → Addr) (C : Addr) (vs : List V) (H : Hp) (Q : VK) (E : XK) : Prop
  | mk (p dx : Addr) (many : Int) (h09 : vs = [.ref p, .int many]) (h19 : H p = some (.ins C dx [])) (h29 : (1 ≤ many ∧ many ≤ 12 → ∀ (d : Addr) (H' : Hp), H d = none → BookAt C H' p d many [] → (∀ b o, H b = some o → b ≠ p → H' b = some o) → Q .non H')) (h39 : (¬ (1 ≤ many ∧ many ≤ 12) → E (.ref (xa .NoBook)) none H)) : sp_initX xa C vs H Q E
inductive sp_letX (xa : Ex → Addr) (C : Addr) (vs : List V) (H : Hp) (Q : VK) (E : XK) : Prop
  | mk (p d : Addr) (many : Int) (cs : Cs) (one other cost : Int) (h09 : vs = [.ref p, .int one, .int other, .int cost]) (h19 : BookAt C H p d many cs) (h29 : cs.length < 1000) (h39 : (refuses many one other = none → ∀ H', BookAt C H' p d many (putC cs (one, other) cost) → KeepBut d H H' → Q (.int (putC cs (one, other) cost).length) H')) (h49 : ∀ x, refuses many one other = some x → E (.ref (xa x)) none H) : sp_letX xa C vs H Q E
inductive sp_banX (xa : Ex → Addr) (C : Addr) (vs : List V) (H : Hp) (Q : VK) (E : XK) : Prop
  | mk (p d : Addr) (many : Int) (cs : Cs) (one other : Int) (h09 : vs = [.ref p, .int one, .int other]) (h19 : BookAt C H p d many cs) (h29 : (refuses many one other = none → (lookC cs (one, other)).isSome = true → ∀ H', BookAt C H' p d many (dropC cs (one, other)) → KeepBut d H H' → Q (.int (dropC cs (one, other)).length) H')) (h39 : (refuses many one other = none → lookC cs (one, other) = none → ∀ H', Same H H' → E (.ref (xa .NoHearing)) none H')) (h49 : ∀ x, refuses many one other = some x → E (.ref (xa x)) none H) : sp_banX xa C vs H Q E
inductive sp_costX (xa : Ex → Addr) (C : Addr) (vs : List V) (H : Hp) (Q : VK) (E : XK) : Prop
  | mk (p d : Addr) (many : Int) (cs : Cs) (one other : Int) (h09 : vs = [.ref p, .int one, .int other]) (h19 : BookAt C H p d many cs) (h29 : (refuses many one other = none → ∀ H', Same H H' → Q (optV (lookC cs (one, other))) H')) (h39 : ∀ x, refuses many one other = some x → E (.ref (xa x)) none H) : sp_costX xa C vs H Q E
theorem calm_cost {xa : Ex → Addr} {C : Addr} : ∀ vs H Q E, sp_cost C vs H Q E → sp_costX xa C vs H Q E0 := by
  rintro vs H Q E ⟨p, d, many, cs, one, other, rfl, B, ok, k⟩
  refine ⟨p, d, many, cs, one, other, rfl, B, fun _ => k, fun x e => ?_⟩
  rw [refuses_ok ok] at e
  cases e
end Hw

set_option maxHeartbeats 1000000

namespace L2
open PySem PySem.Spec PyProof.Rows
theorem boot_ValueError : bootBuiltins "ValueError" = some (.type "ValueError") := by decide +kernel
end L2
namespace Hw
open PySem L2 HwSort
structure Txt (K : PySem.W.Frag) (mg : Str → Option Value) (C : Addr) : Prop where
  cl : Cls K C
  aT : NoAttr K C "tellers"
  aC : NoAttr K C "costs"
  g_Book : mg "Book" = some (.ref C)
  g_MOST_TELLERS : ∃ t, mg "MOST_TELLERS" = some (.int 12 t)
  n_len : mg "len" = none
  n_range : mg "range" = none
  n_max : mg "max" = none
  n_min : mg "min" = none
  n_isinstance : mg "isinstance" = none
  n_all : mg "all" = none
  n_any : mg "any" = none
  n_sorted : mg "sorted" = none
  n_sum : mg "sum" = none
  n_list : mg "list" = none
  n_int : mg "int" = none
  n_bool : mg "bool" = none
  n_tuple : mg "tuple" = none
  n_str : mg "str" = none
  n_dict : mg "dict" = none
  n_ValueError : mg "ValueError" = none
end Hw

set_option maxHeartbeats 1000000

namespace L2
open PySem PySem.Spec PyProof.Rows
noncomputable abbrev TJ := Str → St → Hp → VK → Prop
noncomputable def PJ (X : Cx) (es : List Expr) (t : TJ) : Prop :=
  ∀ (out : Str) (pins : List (Addr × Obj)) (s : Shared) (σ : St) (H : Hp) (Q : VK), Inv X pins σ H s → t out σ H Q → wpAny (model X.prog X.w) X.A (joinParts out (evalEach es X.env)) (EP X pins σ Q) X.xe s
noncomputable def tJNil : TJ := fun out _ H Q => out.length ≤ sizeLine ∧ Q (.str out) H
noncomputable def tJCons (te : TE) (t : TJ) : TJ := fun out σ H Q => te σ H fun x H1 => ∃ y, x = .str y ∧ (out ++ y).length ≤ sizeLine ∧ t (out ++ y) σ H1 Q
noncomputable def tJoin (t : TJ) : TE := fun σ H Q => t Str.empty σ H Q
noncomputable def tFmtI (te : TE) : TE := fun σ H Q => te σ H fun x H1 => ∃ i : Int, x = .int i ∧ i.natAbs.log2 < 1920 ∧ Q (.str (toString i)) H1
noncomputable def tFmtS (te : TE) : TE := fun σ H Q => te σ H fun x H1 => ∃ y, x = .str y ∧ y.length ≤ sizeLine ∧ Q (.str y) H1
section
variable {X : Cx} {e v1 v2 : Expr} {es rest : List Expr} {te : TE} {t : TJ} {pos : Pos}
theorem pj_nil : PJ X [] tJNil := fun out pins s σ H Q I h => joinParts_nil ⟨.str out, H, I.tok _, ⟨_, rfl⟩, h.2⟩ h.1
theorem pj_cons (he : PE X e te) (hr : PJ X es t) (hs : evalEach (e :: es) X.env = eval e X.env :: evalEach es X.env := by rfl) : PJ X (e :: es) (tJCons te t) := by
  intro out pins s σ H Q I h
  rw [hs]
  refine joinParts_cons (thn (he pins s σ H _ I h) fun u s1 hh9 => ?_)
  obtain ⟨x, H1, I1, r1, y, ey, z, q⟩ := hh9
  subst ey
  obtain ⟨tk, rfl⟩ := r1
  exact ⟨z, hr (out ++ y) pins s1 σ H1 Q I1 q⟩
theorem pe_join (h : PJ X (v1 :: v2 :: rest) t) : PE X (.JoinedStr (v1 :: v2 :: rest) pos) (tJoin t) := fun pins s σ H Q I hq => JoinedStr_many (h Str.empty pins s σ H Q I hq)
theorem pe_fmtI (he : PE X e te) : PE X (.FormattedValue e (-1) none pos) (tFmtI te) := by
  intro pins s σ H Q I h
  refine FormattedValue_plain (thn (he pins s σ H _ I h) fun u s1 hh9 => ?_)
  obtain ⟨x, H1, I1, r1, i, ei, z, q⟩ := hh9
  subst ei
  obtain ⟨tk, rfl⟩ := r1
  exact formatField_int_small z ⟨.str _, H1, I1.tok _, ⟨_, rfl⟩, q⟩
end
end L2

set_option maxHeartbeats 1000000

namespace Hw
open PySem L2 HwSort
noncomputable def cellF (ns : List Int) (k : Int) : Int := if k < (ns.length : Int) then ns.getD k.toNat 0 else 0
inductive sp_cell (K : PySem.W.Frag) (vs : List V) (H : Hp) (Q : VK) (E : XK) : Prop
  | mk (a : _) (ns : _) (k : _) (h09 : vs = [.ref a, .int k]) (h19 : SqL K H a (ns.map V.int)) (h29 : ns.length ≤ 63) (h39 : 0 ≤ k) (h49 : Q (.int (cellF ns k)) H) : sp_cell K vs H Q E
structure Good (many : Int) (cs : Cs) : Prop where
  nd : (keysC cs).Nodup
  ok : ∀ k ∈ keysC cs, Ok2 many k.1 k.2
inductive spLaw (K : PySem.W.Frag) (vs : List V) (H : Hp) (Q : VK) (E : XK) : Prop
  | mk (a : Addr) (ns : List Int) (h09 : vs = [.ref a]) (h19 : SqL K H a (ns.map V.int)) (h29 : ns.length ≤ 63) (h39 : ∀ H', Q (.bl true) H') : spLaw K vs H Q E
theorem meth_book {C : Addr} {H : Hp} {p d : Addr} {many : Int} {cs : Cs} {m : Str} {A : Prop} (B : BookAt C H p d many cs) (h1 : ¬ m = "costs") (h2 : ¬ m = "tellers") (k : A) :
    ∃ a dx fs, V.ref p = .ref a ∧ H a = some (.ins C dx fs) ∧ fs.lookup m = none ∧ A := by
  obtain ⟨dx, e⟩ := B.ob
  exact ⟨p, dx, _, rfl, e, flds_no _ _ h1 h2, k⟩
end Hw

set_option maxHeartbeats 1000000

namespace L2
open PySem PySem.Spec PyProof.Rows
section
variable {K : PySem.W.Frag} {σ : St} {H : Hp} {Q : VK} {R : Bool → Hp → Prop} {S : List V → Hp → Prop} {nx : St → Hp → Prop} {rt : VK} {bk ct : St → Hp → Prop} {D : Ends}
theorem w_seq {t u : TS} (h : t ⟨u ⟨nx, rt, bk, ct⟩, rt, bk, ct⟩ σ H) : tSeq t u ⟨nx, rt, bk, ct⟩ σ H := h
theorem w_next (h : nx σ H) : tNext ⟨nx, rt, bk, ct⟩ σ H := h
theorem w_break (h : bk σ H) : tBreak ⟨nx, rt, bk, ct⟩ σ H := h
theorem w_cont (h : ct σ H) : tCont ⟨nx, rt, bk, ct⟩ σ H := h
theorem w_drop {te : TE} (h : te σ H fun _ H1 => nx σ H1) : tDrop te ⟨nx, rt, bk, ct⟩ σ H := h
theorem w_ret {te : TE} (h : te σ H rt) : tRet te ⟨nx, rt, bk, ct⟩ σ H := h
theorem w_retN (h : rt .non H) : tRetN ⟨nx, rt, bk, ct⟩ σ H := h
theorem w_ifS {c : TT} {t u : TS} (h : c σ H fun b H1 => if b = true then t D σ H1 else u D σ H1) : tIfS c t u D σ H := h
theorem w_asg {te : TE} {g : TG} (h : te σ H fun x H1 => g x σ H1 nx) : tAsg te g ⟨nx, rt, bk, ct⟩ σ H := h
theorem w_gname {i : Nat} {v : V} {k : St → Hp → Prop} (h : k (σ.set i (some v)) H) : gName i v σ H k := h
theorem w_var {i : Nat} {v : V} (e : σ[i]? = some (some v)) (h : Q v H) : tVar i σ H Q := ⟨v, e, h⟩
theorem w_c {v : V} (h : Q v H) : tC v σ H Q := h
theorem w_B {t : TE} (h : t σ H fun x H1 => ∃ c, x = .bl c ∧ R c H1) : tB t σ H R := h
theorem w_test {t : TE} (h : t σ H fun x H1 => ∃ c, x = .bl c ∧ R c H1) : tTest t σ H R := h
theorem w_and {t u : TT} (h : t σ H fun c H1 => if c = true then u σ H1 R else R false H1) : tAnd t u σ H R := h
theorem w_or {t u : TT} (h : t σ H fun c H1 => if c = true then R true H1 else u σ H1 R) : tOr t u σ H R := h
theorem w_not {t : TT} (h : t σ H fun c H1 => R (!c) H1) : tNot t σ H R := h
theorem w_andV {ta tb : TE} (h : ta σ H fun x H1 => ∃ c, x = .bl c ∧ if c = true then tb σ H1 Q else Q (.bl false) H1) : tAndV ta tb σ H Q := h
theorem w_orV {ta tb : TE} (h : ta σ H fun x H1 => ∃ c, x = .bl c ∧ if c = true then Q (.bl true) H1 else tb σ H1 Q) : tOrV ta tb σ H Q := h
theorem w_notV {ta : TE} (h : ta σ H fun x H1 => ∃ c, x = .bl c ∧ Q (.bl (!c)) H1) : tNotV ta σ H Q := h
theorem w_if {t : TT} {ta tb : TE} (h : t σ H fun c H1 => if c = true then ta σ H1 Q else tb σ H1 Q) : tIf t ta tb σ H Q := h
theorem w_op {r : R2} {ta tb : TE} (h : ta σ H fun x H1 => tb σ H1 fun y H2 => r x y H2 Q) : tOp r ta tb σ H Q := h
theorem w_un {r : V → Hp → VK → Prop} {ta : TE} (h : ta σ H fun x H1 => r x H1 Q) : tUn r ta σ H Q := h
theorem w_chain {r r' : R2} {ta tb tc : TE} (h : ta σ H fun x H1 => tb σ H1 fun y H2 => r x y H2 fun z H3 => ∃ k, z = .bl k ∧ (if k = true then tc σ H3 fun w' H4 => r' y w' H4 Q else Q (.bl false) H3)) : tChain r r' ta tb tc σ H Q := h
theorem w_nil (h : S [] H) : tNil σ H S := h
theorem w_cons {ta : TE} {tr : TA} (h : ta σ H fun x H1 => tr σ H1 fun xs H2 => S (x :: xs) H2) : tCons ta tr σ H S := h
theorem w_tup {t : TA} (h : t σ H fun xs H1 => xs.length ≤ sizeLine ∧ ∀ p, H1 p = none → Q (.ref p) (upd H1 p (.tup xs))) : tTup t σ H Q := h
theorem w_lst {t : TA} (h : t σ H fun xs H1 => xs.length ≤ sizeLine ∧ ∀ p, H1 p = none → Q (.ref p) (upd H1 p (.lst xs))) : tLst t σ H Q := h
theorem w_call {sp : Sp} {E : XK} {t : TA} (h : t σ H fun vs H1 => sp (vs ++ []) H1 Q E) : tCall sp [] E t σ H Q := h
theorem w_callX {sp : Sp} {E : St → XK} {t : TA} (h : t σ H fun vs H1 => sp vs H1 Q (E σ)) : tCallX sp E t σ H Q := h
theorem w_meth {C : Addr} {m : Str} {sp : Sp} {E : XK} {ta : TE} {t : TA} (h : ta σ H fun x H1 => ∃ a dx fs, x = .ref a ∧ H1 a = some (.ins C dx fs) ∧ fs.lookup m = none ∧ t σ H1 fun vs H2 => sp (x :: (vs ++ [])) H2 Q E) : tMeth C m sp [] E ta t σ H Q := h
theorem w_methX {C : Addr} {m : Str} {sp : Sp} {E : St → XK} {ta : TE} {t : TA} (h : ta σ H fun x H1 => ∃ a dx fs, x = .ref a ∧ H1 a = some (.ins C dx fs) ∧ fs.lookup m = none ∧ t σ H1 fun vs H2 => sp (x :: vs) H2 Q (E σ)) : tMethX C m sp E ta t σ H Q := h
theorem w_make {C : Addr} {sp : Sp} {E : XK} {t : TA} (h : t σ H fun vs H1 => ∀ x dx, H1 x = none → H1 dx = none → dx ≠ x → sp (.ref x :: (vs ++ [])) (upd (upd H1 dx (.own x)) x (.ins C dx [])) (fun v H2 => v = .non ∧ Q (.ref x) H2) E) : tMake C sp [] E t σ H Q := h
theorem w_makeX {C : Addr} {sp : Sp} {E : St → XK} {t : TA} (h : t σ H fun vs H1 => ∀ x dx, H1 x = none → H1 dx = none → dx ≠ x → sp (.ref x :: vs) (upd (upd H1 dx (.own x)) x (.ins C dx [])) (fun v H2 => v = .non ∧ Q (.ref x) H2) (E σ)) : tMakeX C sp E t σ H Q := h
theorem w_raise {C : Addr} {E : St → XK} {t : TA} (h : t σ H fun xs H1 => xs.length ≤ sizeLine ∧ E σ (.ref C) none H1) : tRaise C E t D σ H := h
theorem w_CB {r : List V → Hp → VK → Prop} {t : TA} (h : t σ H fun vs H1 => r vs H1 Q) : tCB r t σ H Q := h
theorem w_BM0 {T : String} {r : V → List V → Hp → VK → Prop} {to : TE} (h : to σ H fun x H1 => tyV K T x H1 ∧ r x [] H1 Q) : tBM0 K T r to σ H Q := h
theorem w_BM {T : String} {r : V → List V → Hp → VK → Prop} {to : TE} {t : TA} (h : to σ H fun x H1 => tyV K T x H1 ∧ t σ H1 fun xs H2 => r x xs H2 Q) : tBM K T r to t σ H Q := h
theorem w_fld {ta : TE} {f : Str} (h : ta σ H fun x H1 => ∃ a C dx fs v, x = .ref a ∧ H1 a = some (.ins C dx fs) ∧ Cls K C ∧ NoAttr K C f ∧ fs.lookup f = some v ∧ Q v H1) : tFld K ta f σ H Q := h
theorem w_sfld {ta tv : TE} {f : Str} (h : tv σ H fun y H1 => ta σ H1 fun x H2 => ∃ a C dx fs, x = .ref a ∧ H2 a = some (.ins C dx fs) ∧ Cls K C ∧ NoAttr K C f ∧ fs.length < 1000 ∧ nx σ (upd H2 a (.ins C dx (putF f y fs)))) : sFld K ta tv f ⟨nx, rt, bk, ct⟩ σ H := h
theorem w_gsub {to ti : TE} {t : TSet} {v : V} {k : St → Hp → Prop} (h : to σ H fun o H1 => ti σ H1 fun i H2 => t o i v H2 fun H3 => k σ H3) : gSub to ti t v σ H k := h
theorem w_gtup {n : Nat} {t : TGs} {v : V} {k : St → Hp → Prop} (h : ∃ a xs, v = .ref a ∧ SqT K H a xs ∧ xs.length = n ∧ t xs σ H k) : gTup K n t v σ H k := h
theorem w_gcons {t : TG} {u : TGs} {v : V} {r : List V} {k : St → Hp → Prop} (h : t v σ H fun σ' H' => u r σ' H' k) : gCons t u (v :: r) σ H k := ⟨v, r, rfl, h⟩
theorem w_gnil {k : St → Hp → Prop} (h : k σ H) : gNil [] σ H k := ⟨rfl, h⟩
theorem w_thaw {t : TS} (h : ∃ a kvs, H a = some (.dT kvs) ∧ t ⟨fun σ' H' => (∃ o, H' a = some (.frz o (.dT kvs))) ∧ nx σ' (upd H' a (.dT kvs)), rt, bk, ct⟩ σ H) : tThaw t ⟨nx, rt, bk, ct⟩ σ H := h
theorem w_idict {tl : TE} {k : It → Hp → Prop} (h : tl σ H fun x H1 => ∃ a kvs, x = .ref a ∧ H1 a = some (.dT kvs) ∧ ∀ o bs, KeyRefs H1 kvs bs → k (Itd a o kvs bs) (upd H1 a (.frz o (.dT kvs)))) : iDict tl σ H k := h
theorem w_minlen {t : TA} (h : t σ H fun vs H1 => ∃ (l : Addr) (gs : List V) (gss : List (List Int)), vs = [V.ref l] ∧ SqL K H1 l gs ∧ ListRefs H1 gs gss ∧ (gss = [] → Q .non H1) ∧
  ∀ (i : Nat) (v : V) (ns : List Int), gs[i]? = some v → gss[i]? = some ns → (∀ j ms, gss[j]? = some ms → ns.length ≤ ms.length ∧ (j < i → ns.length < ms.length)) → Q v H1) : tMinLen K t σ H Q := h
theorem w_sl {r : V → Option Int → Option Int → Hp → VK → Prop} {te : TE} {tl th : TO} (h : te σ H fun x H1 => tl σ H1 fun l H2 => th σ H2 fun u H3 => r x l u H3 Q) : tSl r te tl th σ H Q := h
theorem w_nopart {k : Option Int → Hp → Prop} (h : k none H) : tNoPart σ H k := h
theorem w_part {t : TE} {k : Option Int → Hp → Prop} (h : t σ H fun x H1 => ∃ i, x = .int i ∧ k (some i) H1) : tPart t σ H k := h
theorem w_dget {td ty : TE} (h : td σ H fun x H1 => ty σ H1 fun y H2 => ∃ a v, x = .ref a ∧ DGet H2 a y (some v) ∧ Q v H2) : tDGet td ty σ H Q := h
theorem w_din {ty td : TE} (h : ty σ H fun y H1 => td σ H1 fun x H2 => ∃ a o, x = .ref a ∧ DGet H2 a y o ∧ Q (.bl o.isSome) H2) : tDIn ty td σ H Q := h
theorem w_dnotin {ty td : TE} (h : ty σ H fun y H1 => td σ H1 fun x H2 => ∃ a o, x = .ref a ∧ DGet H2 a y o ∧ Q (.bl (!o.isSome)) H2) : tDNotIn ty td σ H Q := h
theorem w_dget1 {td ty : TE} (h : td σ H fun x H1 => ∃ a, x = .ref a ∧ IsD H1 a ∧ ty σ H1 fun y H2 => ∃ o, DGet H2 a y o ∧ Q (o.getD .non) H2) : tDGet1 td ty σ H Q := h
theorem w_dput {td ty tv : TE} (h : tv σ H fun v H1 => td σ H1 fun x H2 => ty σ H2 fun y H3 => ∃ a H4, x = .ref a ∧ DPut H3 a y v H4 ∧ nx σ H4) : sDPut td ty tv ⟨nx, rt, bk, ct⟩ σ H := h
theorem w_comp {n0 : Nat} {wi : TI} {g : Cz → TG} {tt : Cz → TT} {te : Cz → TE} (h : wi σ H fun J H1 => CompR n0 g tt te σ Q J H1) : tComp n0 wi g tt te σ H Q := h
theorem w_ilist {tl : TE} {k : It → Hp → Prop} (h : tl σ H fun x H1 => ∃ a, x = .ref a ∧ (∃ xs, SqL K H1 a xs) ∧ k (Itl K a) H1) : iList K tl σ H k := h
theorem w_ituple {tl : TE} {k : It → Hp → Prop} (h : tl σ H fun x H1 => ∃ a, x = .ref a ∧ (∃ xs, SqT K H1 a xs) ∧ k (Itt K a) H1) : iTup K tl σ H k := h
theorem w_irng1 {ta : TA} {k : It → Hp → Prop} (h : ta σ H fun vs H1 => ∃ j : Int, vs = [.int j] ∧ -(2 ^ 62) ≤ j ∧ j < 2 ^ 62 ∧ k (Itr 0 j.toNat) H1) : iRng1 ta σ H k := h
theorem w_irng2 {ta : TA} {k : It → Hp → Prop} (h : ta σ H fun vs H1 => ∃ i j : Int, vs = [.int i, .int j] ∧ (-(2 ^ 62) ≤ i ∧ i < 2 ^ 62 ∧ -(2 ^ 62) ≤ j ∧ j < 2 ^ 62) ∧ k (Itr i (j - i).toNat) H1) : iRng2 ta σ H k := h
theorem w_for {wi : TI} {g : TG} {tb : TS} (h : wi σ H fun J H1 => ∃ W : Nat → Nat → St → Hp → Prop, (∃ m, W 0 m σ H1) ∧ ∀ i m σ H, W i m σ H →
  (J.stop i H ∧ D.nx σ H) ∨ (J.go i H ∧ ∃ N : St → Hp → Prop, (∀ σ' H', N σ' H' → ∃ m', m' < m ∧ W (i + 1) m' σ' H') ∧ ∀ x H', J.yld i H x H' → g x σ H' fun σ2 H2 => tb { D with nx := N, ct := N, bk := D.nx } σ2 H2)) : tFor wi g tb D σ H := h
theorem w_while {c : TT} {tb : TS} (h : ∃ W : Nat → St → Hp → Prop, (∃ m, W m σ H) ∧ ∀ m σ H, W m σ H →
  c σ H fun b H1 => if b = true then ∃ N : St → Hp → Prop, (∀ σ' H', N σ' H' → ∃ m', m' < m ∧ W m' σ' H') ∧ tb { D with nx := N, ct := N, bk := D.nx } σ H1 else D.nx σ H1) : tWhile c tb D σ H := h
theorem w_disp {trs : List (TE × TE)} (h : ∀ p, H p = none → tPairs trs σ (upd H p (.dK [])) fun ps H2 => H2 p = some (.dK []) ∧ ∃ kvs : List (Key × V), ps = kvs.map (fun kv => (kV kv.1, kv.2)) ∧ kvs.length ≤ 15 ∧ Q (.ref p) (upd H2 p (.dK (mergeK [] kvs)))) : tDisp trs σ H Q := h
theorem w_pnil {k : List (V × V) → Hp → Prop} (h : k [] H) : tPairs [] σ H k := h
theorem w_pcons {tk tv : TE} {r : List (TE × TE)} {k : List (V × V) → Hp → Prop} (h : tk σ H fun x H1 => tv σ H1 fun y H2 => tPairs r σ H2 fun ps H3 => k ((x, y) :: ps) H3) : tPairs ((tk, tv) :: r) σ H k := h
theorem w_yes (h : R true H) : tYes σ H R := h

theorem w_join {t : TJ} (h : t Str.empty σ H Q) : tJoin t σ H Q := h
theorem w_jcons {te : TE} {t : TJ} {out : Str} (h : te σ H fun x H1 => ∃ y, x = .str y ∧ (out ++ y).length ≤ sizeLine ∧ t (out ++ y) σ H1 Q) : tJCons te t out σ H Q := h
theorem w_fmtI {te : TE} (h : te σ H fun x H1 => ∃ i : Int, x = .int i ∧ i.natAbs.log2 < 1920 ∧ Q (.str (toString i)) H1) : tFmtI te σ H Q := h
theorem w_fmtS {te : TE} (h : te σ H fun x H1 => ∃ y, x = .str y ∧ y.length ≤ sizeLine ∧ Q (.str y) H1) : tFmtS te σ H Q := h

theorem w_rI0 {g : Int → Int → V} {i j : Int} (h : Q (g i j) H) : rI0 g (.int i) (.int j) H Q := ⟨i, j, rfl, rfl, h⟩
theorem w_rI {C : Int → Int → Prop} {g : Int → Int → V} {i j : Int} (c : C i j) (h : Q (g i j) H) : rI C g (.int i) (.int j) H Q := ⟨i, j, rfl, rfl, c, h⟩
theorem w_mulL {g : Int → Int → V} {i j : Int} (c1 : -(2 ^ 64) < i) (c2 : i < 2 ^ 64) (h : Q (g i j) H) : rI CMul g (.int i) (.int j) H Q := ⟨i, j, rfl, rfl, .inl ⟨c1, c2⟩, h⟩
theorem w_mulR {g : Int → Int → V} {i j : Int} (c1 : -(2 ^ 64) < j) (c2 : j < 2 ^ 64) (h : Q (g i j) H) : rI CMul g (.int i) (.int j) H Q := ⟨i, j, rfl, rfl, .inr ⟨c1, c2⟩, h⟩
theorem w_fdiv {g : Int → Int → V} {i j : Int} (c1 : 0 < j) (c2 : j < 1073741824) (h : Q (g i j) H) : rI CDiv g (.int i) (.int j) H Q := ⟨i, j, rfl, rfl, ⟨c1, c2⟩, h⟩
theorem w_pow {g : Int → Int → V} {i j : Int} (c1 : 0 ≤ j) (c2 : j ≤ 1000000) (c3 : i.natAbs < 2 ^ 64) (h : Q (g i j) H) : rI CPow g (.int i) (.int j) H Q := ⟨i, j, rfl, rfl, ⟨c1, c2, c3⟩, h⟩
theorem w_rU {g : Int → V} {i : Int} (h : Q (g i) H) : rU g (.int i) H Q := ⟨i, rfl, h⟩
theorem w_eqI {i j : Int} (h : Q (.bl (decide (i = j))) H) : rEq (.int i) (.int j) H Q := rEq_int.mpr h
theorem w_neI {i j : Int} (h : Q (.bl (!decide (i = j))) H) : rNe (.int i) (.int j) H Q := rNe_int.mpr h
theorem w_eqS {i j : Str} (h : Q (.bl (decide (i = j))) H) : rEq (.str i) (.str j) H Q := ⟨rfl, by
  have e : decide (V.str i = V.str j) = decide (i = j) := by
    by_cases h : i = j
    · subst h; simp
    · rw [decide_eq_false h, decide_eq_false fun z => h (V.str.inj z)]
  rw [e]; exact h⟩
theorem w_neS {i j : Str} (h : Q (.bl (!decide (i = j))) H) : rNe (.str i) (.str j) H Q := ⟨rfl, by
  have e : decide (V.str i = V.str j) = decide (i = j) := by
    by_cases h : i = j
    · subst h; simp
    · rw [decide_eq_false h, decide_eq_false fun z => h (V.str.inj z)]
  rw [e]; exact h⟩
theorem w_eqB {i j : Bool} (h : Q (.bl (decide (i = j))) H) : rEq (.bl i) (.bl j) H Q := ⟨rfl, by
  have e : decide (V.bl i = V.bl j) = decide (i = j) := by cases i <;> cases j <;> rfl
  rw [e]; exact h⟩

theorem w_T {A B : Prop} (h : A) : if true = true then A else B := by simpa using h
theorem w_F {A B : Prop} (h : B) : if false = true then A else B := by simpa using h
theorem w_nT {A B : Prop} (h : B) : if (!true) = true then A else B := by simpa using h
theorem w_nF {A B : Prop} (h : A) : if (!false) = true then A else B := by simpa using h
theorem w_pos {c : Prop} [Decidable c] {A B : Prop} (hc : c) (h : A) : if decide c = true then A else B := by rw [decide_eq_true hc]; exact w_T h
theorem w_neg {c : Prop} [Decidable c] {A B : Prop} (hc : ¬ c) (h : B) : if decide c = true then A else B := by rw [decide_eq_false hc]; exact w_F h
theorem w_npos {c : Prop} [Decidable c] {A B : Prop} (hc : c) (h : B) : if (!decide c) = true then A else B := by rw [decide_eq_true hc]; exact w_nT h
theorem w_nneg {c : Prop} [Decidable c] {A B : Prop} (hc : ¬ c) (h : A) : if (!decide c) = true then A else B := by rw [decide_eq_false hc]; exact w_nF h
theorem w_exbl {b : Bool} {P : Bool → Prop} (h : P b) : ∃ c, V.bl b = .bl c ∧ P c := ⟨b, rfl, h⟩
theorem w_exint {b : Int} {P : Int → Prop} (h : P b) : ∃ c, V.int b = .int c ∧ P c := ⟨b, rfl, h⟩
theorem w_andr {A : Prop} {v : V} (h : A) : v = v ∧ A := ⟨rfl, h⟩
end
end L2

set_option maxHeartbeats 1000000

namespace Hw
theorem len1D {α : Type} {us : List α} (h : us.length = 1) : ∃ a, us = [a] := List.length_eq_one_iff.mp h
theorem len2D {α : Type} {us : List α} (h : us.length = 2) : ∃ a b, us = [a, b] := by
  cases us with
  | nil => cases h
  | cons a r =>
    obtain ⟨b, rfl⟩ := len1D (us := r) (Nat.succ.inj h)
    exact ⟨a, b, rfl⟩
theorem len3D {α : Type} {us : List α} (h : us.length = 3) : ∃ a b c, us = [a, b, c] := by
  cases us with
  | nil => cases h
  | cons a r =>
    obtain ⟨b, c, rfl⟩ := len2D (us := r) (Nat.succ.inj h)
    exact ⟨a, b, c, rfl⟩
theorem len4D {α : Type} {us : List α} (h : us.length = 4) : ∃ a b c d, us = [a, b, c, d] := by
  cases us with
  | nil => cases h
  | cons a r =>
    obtain ⟨b, c, d, rfl⟩ := len3D (us := r) (Nat.succ.inj h)
    exact ⟨a, b, c, d, rfl⟩

theorem rng1n {n : Nat} (h : n ≤ 12) : -(2 ^ 62) ≤ (1 : Int) ∧ (1 : Int) < 2 ^ 62 ∧ -(2 ^ 62) ≤ (n : Int) ∧ (n : Int) < 2 ^ 62 := by omega
theorem rngN {n : Nat} (h : n ≤ 12) : -(2 ^ 62) ≤ (n : Int) ∧ (n : Int) < 2 ^ 62 := by omega
theorem rng20 {n : Nat} (h : n ≤ 12) : -(2 ^ 20) ≤ (n : Int) ∧ (n : Int) < 2 ^ 20 := by omega

open PySem PySem.W PyProof.Rows in
theorem walkX_of {q : Program} {loose : List Str} {XP : (Str → Option Value) → Heap → Prop} {K : Params → Frag} {as : List Addr} {n t : Nat} {r : RowW} {d : DefRec} {kwd : List (Str × Expr)} {run : Value → List Value → Sem Value}
    (e : ∀ P, as = (K P).map (·.1)) (W : WalkO q loose XP (fun w h => (K w.params).In h) r d kwd run) : WalkX q loose XP (X.obsZ as) (X.valZ K n t) r d kwd run := by
  intro w s₀ s₁ mg mb G Y a o pm cd doc dV kV h1 h2 h3 h4 h5 h6 args vals as' L hpre hlay hrd hwl hlo
  exact W w s₀ s₁ mg mb G (InK.keeps w _ _ (X.z_facts e Y).2.1 L.keeps) a o pm cd doc dV kV h1 h2 h3 h4 h5 h6 args vals as' hpre hlay hrd hwl hlo
end Hw

set_option maxHeartbeats 1000000

namespace Hw
open PySem L2 HwSort
theorem TupRefs.nl {H H' : Hp} {bs : List V} {kss : List (List Int)} (t : TupRefs H bs kss) (k : KeepNL H H') : TupRefs H' bs kss := t.keeps fun b _ h => k b _ h fun _ e => nomatch e
theorem paired_snoc {α β : Type} {F : α → β → Prop} {l₁ : List α} {l₂ : List β} {a : α} {b : β} (x : Paired F l₁ l₂) (h : F a b) : Paired F (l₁ ++ [a]) (l₂ ++ [b]) := by
  induction x with
  | nil => exact .cons h .nil
  | cons x r ih => exact .cons x ih
theorem TupRefs.snoc {H : Hp} {bs : List V} {kss : List (List Int)} {b : Addr} {ks : List Int} (t : TupRefs H bs kss) (h : H b = some (.tup (ks.map V.int))) : TupRefs H (bs ++ [.ref b]) (kss ++ [ks]) := paired_snoc t ⟨b, rfl, h⟩

noncomputable def ltP (a b : Pr) : Prop := a.1 < b.1 ∨ a.1 = b.1 ∧ a.2 < b.2
theorem ltP_irrefl (a : Pr) : ¬ ltP a a := by
  rintro (h | ⟨_, h⟩) <;> omega
structure RowsOk (many : Int) (cs : Cs) : Prop where
  rise : (keysC cs).Pairwise ltP
  ok : ∀ k ∈ keysC cs, Ok2 many k.1 k.2
  cost : ∀ e ∈ cs, 0 ≤ e.2 ∧ e.2 ≤ 1000000
  len : cs.length ≤ 144
theorem rise_nd {l : List Pr} (r : l.Pairwise ltP) : l.Nodup := List.Pairwise.imp (fun {a b} (h : ltP a b) (e : a = b) => by subst e; exact ltP_irrefl _ h) r
theorem RowsOk.nd {many : Int} {cs : Cs} (r : RowsOk many cs) : (keysC cs).Nodup := rise_nd r.rise
end Hw

set_option maxHeartbeats 1000000

namespace L2
open PySem PySem.Spec PyProof.Rows
section
variable {X : Cx}
end
end L2

namespace L2
open PySem PySem.Spec PyProof.Rows
end L2

set_option maxHeartbeats 1000000

namespace PySem
open Sem (wp)
set_option maxRecDepth 100000
namespace F
end F
section
variable {prog : Program} {w : World} {A : Around} {E : Value → Shared → Prop} {h : Heap} {g : Array GenState} {d : Drawn} {t : Nat} {os : OsState} {a : Addr} {its : Array Value} {n : Nat}
end
end PySem

set_option maxHeartbeats 1000000

namespace L2
open PySem PySem.Spec PyProof.Rows
section
variable {P : Program} {w : World} {A : Around} {s : Shared} {h₀ : Heap} {l I d : Addr} {vs : List Value} {xs : List (List Key × Addr × Value)} {R : Result → Shared → Prop}
end

end L2

set_option maxHeartbeats 1000000

namespace L2
open PySem PySem.Spec PyProof.Rows
section
variable {X : Cx}
end
end L2

set_option maxHeartbeats 1000000

namespace L2
open PySem PySem.Spec PyProof.Rows
mutual
inductive DRep (H : Hp) : V → PyData → Prop
  | non : DRep H .non .none
  | bl (b : Bool) : DRep H (.bl b) (.bool b)
  | int (i : Int) : DRep H (.int i) (.int i)
  | str (x : Str) : DRep H (.str x) (.str x)
  | lst {a : Addr} {xs : List V} {ds : List PyData} : H a = some (.lst xs) → DReps H xs ds → DRep H (.ref a) (.list ds)
  | tup {a : Addr} {xs : List V} {ds : List PyData} : H a = some (.tup xs) → DReps H xs ds → DRep H (.ref a) (.tuple ds)
inductive DReps (H : Hp) : List V → List PyData → Prop
  | nil : DReps H [] []
  | cons {x : V} {d : PyData} {xs : List V} {ds : List PyData} : DRep H x d → DReps H xs ds → DReps H (x :: xs) (d :: ds)
end
section
variable {X : Cx} {pins : List (Addr × Obj)} {σ : St} {H : Hp} {s : Shared}
mutual
theorem DRep.reads (I : Inv X pins σ H s) : ∀ {v : V} {d : PyData} {u : Value}, DRep H v d → RelV v u → ∃ as, Reads s.heap u d as
  | _, _, _, .non, r => by cases r; exact ⟨_, .none⟩
  | _, _, _, .bl b, r => by cases r; exact ⟨_, .bool b⟩
  | _, _, _, .int i, r => by obtain ⟨t, rfl⟩ := r; exact ⟨_, .int i t⟩
  | _, _, _, .str x, r => by obtain ⟨t, rfl⟩ := r; exact ⟨_, .str x t⟩
  | _, _, _, .lst h t, r => by
    cases r
    obtain ⟨_, its, n, rv, e⟩ := I.hok _ _ h
    obtain ⟨as, q⟩ := DReps.reads I t rv
    exact ⟨_, .list e rfl rfl (by simpa using q)⟩
  | _, _, _, .tup h t, r => by
    cases r
    obtain ⟨_, its, rv, o, e, c, n, dd⟩ := I.hok _ _ h
    obtain ⟨as, q⟩ := DReps.reads I t rv
    exact ⟨_, .tuple e c dd (by simpa using q)⟩
theorem DReps.reads (I : Inv X pins σ H s) : ∀ {xs : List V} {ds : List PyData} {us : List Value}, DReps H xs ds → Vals xs us → ∃ as, ReadsAll s.heap us ds as
  | _, _, _, .nil, .nil => ⟨_, .nil⟩
  | _, _, _, .cons h t, .cons r rr => by
    obtain ⟨a1, q1⟩ := DRep.reads I h r
    obtain ⟨a2, q2⟩ := DReps.reads I t rr
    exact ⟨_, .cons q1 q2⟩
end
end
mutual
theorem DRep.same {H H' : Hp} (k : Same H H') : ∀ {v : V} {d : PyData}, DRep H v d → DRep H' v d
  | _, _, .non => .non
  | _, _, .bl b => .bl b
  | _, _, .int i => .int i
  | _, _, .str x => .str x
  | _, _, .lst h t => .lst (k _ _ h) (DReps.same k t)
  | _, _, .tup h t => .tup (k _ _ h) (DReps.same k t)
theorem DReps.same {H H' : Hp} (k : Same H H') : ∀ {xs : List V} {ds : List PyData}, DReps H xs ds → DReps H' xs ds
  | _, _, .nil => .nil
  | _, _, .cons h t => .cons (DRep.same k h) (DReps.same k t)
end
noncomputable def rEqD (neg : Bool) : R2 := fun x y H Q => ∃ dx dy, DRep H x dx ∧ DRep H y dy ∧ dx.canLay0 = true ∧ dy.canLay0 = true ∧ dx.depth ≤ 60 ∧ Q (.bl (if neg then !PyData.eqv dx dy else PyData.eqv dx dy)) H
section
variable {X : Cx}
theorem op_eqD (hu : X.A.units + 64 < cLine) : OpR X (compareOp .Eq) (rEqD false) := by
  intro pins s σ H x y v u Q I rx ry h
  obtain ⟨dx, dy, hx, hy, cx, cy, hd, q⟩ := h
  obtain ⟨as, r1⟩ := hx.reads I rx
  obtain ⟨bs, r2⟩ := hy.reads I ry
  exact SeqAt.compareEq_reads r1 r2 cx cy (by omega) ⟨.bl (PyData.eqv dx dy), H, I, rfl, q⟩
end
end L2

set_option maxHeartbeats 1000000

namespace Hw
open PySem L2 HwSort
noncomputable abbrev Grp := List Int
structure PSt where
  rests : Cs
  spent : List Pr
  prices : List (Grp × Int)
  lonely : Option Grp
noncomputable def entersB (g : Grp) (k : Pr) : Bool := decide (k.2 ∈ g) && !decide (k.1 ∈ g)
noncomputable def entering (rests : Cs) (g : Grp) : List Pr := (keysC rests).filter (entersB g)
noncomputable def minI : List Int → Int
  | [] => 0
  | [a] => a
  | a :: b :: r => min a (minI (b :: r))
noncomputable def costOf (cs : Cs) (k : Pr) : Int := (lookC cs k).getD 0
noncomputable def priceOf (rests : Cs) (g : Grp) : Int := minI ((entering rests g).map (costOf rests))

noncomputable def lowered (rests : Cs) (ks : List Pr) (price : Int) : Cs := rests.map fun e => if e.1 ∈ ks then (e.1, e.2 - price) else e
noncomputable def chargeF (st : PSt) (g : Grp) : PSt :=
  if entering st.rests g = [] then { st with lonely := some g }
  else { rests := lowered st.rests (entering st.rests g) (priceOf st.rests g), spent := st.spent ++ (entering st.rests g).filter fun k => decide (costOf st.rests k = priceOf st.rests g),
         prices := if priceOf st.rests g = 0 then st.prices else st.prices ++ [(g, priceOf st.rests g)], lonely := st.lonely }
theorem paired_of {α β : Type} {F : α → β → Prop} : ∀ {l₁ : List α} {l₂ : List β}, l₁.length = l₂.length → (∀ (i : Nat) a b, l₁[i]? = some a → l₂[i]? = some b → F a b) → Paired F l₁ l₂
  | [], [], _, _ => .nil
  | [], _ :: _, h, _ => by simp at h
  | _ :: _, [], h, _ => by simp at h
  | a :: l₁, b :: l₂, h, k => .cons (k 0 a b rfl rfl) (paired_of (by simpa using h) fun i x y hx hy => k (i + 1) x y (by simpa using hx) (by simpa using hy))
structure PrObj (C1 : Addr) (H : Hp) (p d s q : Addr) (lv : V) : Prop where
  ob : ∃ dx fs, H p = some (.ins C1 dx fs) ∧ fs.lookup ("rests" : Str) = some (.ref d) ∧ fs.lookup ("spent" : Str) = some (.ref s) ∧ fs.lookup ("prices" : Str) = some (.ref q) ∧ fs.lookup ("lonely" : Str) = some lv ∧
    (∀ m : Str, m ≠ "rests" → m ≠ "spent" → m ≠ "prices" → m ≠ "lonely" → fs.lookup m = none) ∧ fs.length ≤ 100

noncomputable def PriceRefs (N : Addr → Prop) (H : Hp) (s q : Addr) : List V → List (Grp × Int) → Prop := Paired fun y p => ∃ b l, y = V.ref b ∧ H b = some (.tup [.ref l, .int p.2]) ∧ H l = some (.lst (p.1.map V.int)) ∧ l ≠ s ∧ l ≠ q ∧ N l
noncomputable def LonelyAt (N : Addr → Prop) (H : Hp) (s q : Addr) (lv : V) : Option Grp → Prop
  | none => lv = .non
  | some g => ∃ l, lv = .ref l ∧ H l = some (.lst (g.map V.int)) ∧ l ≠ s ∧ l ≠ q ∧ N l
structure PrAt (N : Addr → Prop) (C1 : Addr) (H : Hp) (p d s q : Addr) (st : PSt) : Prop where
  ob : ∃ lv, PrObj C1 H p d s q lv ∧ LonelyAt N H s q lv st.lonely
  dc : H d = some (.dT (enc st.rests))
  sp : ∃ rs, H s = some (.lst rs) ∧ TupRefs H rs (st.spent.map two)
  pr : ∃ qs, H q = some (.lst qs) ∧ PriceRefs N H s q qs st.prices
  ne : s ≠ q

structure StOk (many : Int) (st : PSt) : Prop where
  nd : (keysC st.rests).Nodup
  len : st.rests.length ≤ 200
  slen : st.spent.length ≤ 40000
  plen : st.prices.length ≤ 40000
theorem LonelyAt.keep {N : Addr → Prop} {H H' : Hp} {s q : Addr} {lv : V} {o : Option Grp} (x : LonelyAt N H s q lv o) (k : ∀ b xs, H b = some (.lst xs) → b ≠ s → b ≠ q → H' b = some (.lst xs)) : LonelyAt N H' s q lv o := by
  cases o with
  | none => exact x
  | some g => obtain ⟨l, e, a1, a2, a3, a4⟩ := x; exact ⟨l, e, k _ _ a1 a2 a3, a2, a3, a4⟩
theorem PriceRefs.keep {N : Addr → Prop} {H H' : Hp} {s q : Addr} {vs : List V} {ps : List (Grp × Int)} (x : PriceRefs N H s q vs ps) (k : ∀ b xs, H b = some (.lst xs) → b ≠ s → b ≠ q → H' b = some (.lst xs)) (kt : ∀ b xs, H b = some (.tup xs) → H' b = some (.tup xs)) : PriceRefs N H' s q vs ps :=
  Paired.mapP x fun _ _ hh9 => by obtain ⟨b, l, e, a1, a2, a3, a4, a5⟩ := hh9; exact ⟨b, l, e, kt _ _ a1, k _ _ a2 a3 a4, a3, a4, a5⟩
structure TxtP (K : PySem.W.Frag) (mg : Str → Option Value) (C1 : Addr) : Prop where
  cl : Cls K C1
  aR : NoAttr K C1 "rests"
  aS : NoAttr K C1 "spent"
  aP : NoAttr K C1 "prices"
  aL : NoAttr K C1 "lonely"
end Hw

set_option maxHeartbeats 1000000

namespace Hw
open PySem L2 HwSort
inductive Reach (spent : List Pr) (t : Int) : Int → Prop
  | base : Reach spent t t
  | step {a b : Int} : (a, b) ∈ spent → Reach spent t b → Reach spent t a
open Classical in
noncomputable def behindF (n : Nat) (spent : List Pr) (t : Int) : Grp := ((List.range n).map Int.ofNat).filter fun a => decide (Reach spent t a)
theorem nodup_len {α : Type} [DecidableEq α] : ∀ {l m : List α}, l.Nodup → (∀ x ∈ l, x ∈ m) → l.length ≤ m.length
  | [], m, _, _ => Nat.zero_le _
  | a :: r, m, hn, hs => by
    obtain ⟨h1, h2⟩ := List.nodup_cons.mp hn
    have ha : a ∈ m := hs a (List.mem_cons_self ..)
    have ih := nodup_len (l := r) (m := m.erase a) h2 fun x hx => by
      have hne : x ≠ a := fun e => h1 (e ▸ hx)
      exact (List.mem_erase_of_ne hne).mpr (hs x (List.mem_cons_of_mem _ hx))
    rw [List.length_erase_of_mem ha] at ih
    have : 0 < m.length := List.length_pos_of_mem ha
    rw [List.length_cons]
    omega
theorem mem_tellers {n : Nat} {a : Int} : a ∈ (List.range n).map Int.ofNat ↔ 0 ≤ a ∧ a < n := by
  rw [List.mem_map]
  constructor
  · rintro ⟨k, hk, rfl⟩
    have := List.mem_range.mp hk
    exact ⟨Int.natCast_nonneg _, by show (k : Int) < n; omega⟩
  · rintro ⟨h1, h2⟩
    exact ⟨a.toNat, List.mem_range.mpr (by omega), Int.toNat_of_nonneg h1⟩
theorem tellers_rise (n : Nat) : ((List.range n).map Int.ofNat).Pairwise (· < ·) := by
  rw [List.pairwise_map]
  exact List.pairwise_lt_range.imp fun h => by show (_ : Int) < _; exact Int.ofNat_lt.mpr h
theorem mem_behind {n : Nat} {spent : List Pr} {t a : Int} : a ∈ behindF n spent t ↔ (0 ≤ a ∧ a < n) ∧ Reach spent t a := by
  unfold behindF
  rw [List.mem_filter, mem_tellers]
  simp
theorem behind_rise (n : Nat) (spent : List Pr) (t : Int) : (behindF n spent t).Pairwise (· < ·) := (tellers_rise n).sublist List.filter_sublist
theorem sorted_unique : ∀ {l m : List Int}, l.Pairwise (· < ·) → m.Pairwise (· < ·) → (∀ x, x ∈ l ↔ x ∈ m) → l = m
  | [], [], _, _, _ => rfl
  | [], b :: m, _, _, h => absurd ((h b).mpr (List.mem_cons_self ..)) (by simp)
  | a :: l, [], _, _, h => absurd ((h a).mp (List.mem_cons_self ..)) (by simp)
  | a :: l, b :: m, h1, h2, h => by
    obtain ⟨a1, a2⟩ := List.pairwise_cons.mp h1
    obtain ⟨b1, b2⟩ := List.pairwise_cons.mp h2
    have hab : a = b := by
      rcases List.mem_cons.mp ((h a).mp (List.mem_cons_self ..)) with e | e
      · exact e
      · rcases List.mem_cons.mp ((h b).mpr (List.mem_cons_self ..)) with e2 | e2
        · exact e2.symm
        · have := b1 a e
          have := a1 b e2
          omega
    subst hab
    congr 1
    refine sorted_unique a2 b2 fun x => ?_
    constructor
    · intro hx
      rcases List.mem_cons.mp ((h x).mp (List.mem_cons_of_mem _ hx)) with e | e
      · have := a1 x hx
        omega
      · exact e
    · intro hx
      rcases List.mem_cons.mp ((h x).mpr (List.mem_cons_of_mem _ hx)) with e | e
      · have := b1 x hx
        omega
      · exact e
theorem lt_of_le_nodup : ∀ {l : List Int}, l.Pairwise (· ≤ ·) → l.Nodup → l.Pairwise (· < ·)
  | [], _, _ => .nil
  | a :: r, h, hn => by
    obtain ⟨a1, a2⟩ := List.pairwise_cons.mp h
    obtain ⟨n1, n2⟩ := List.nodup_cons.mp hn
    refine List.pairwise_cons.mpr ⟨fun x hx => ?_, lt_of_le_nodup a2 n2⟩
    have h1 := a1 x hx
    have h2 : a ≠ x := fun e => n1 (e ▸ hx)
    omega
structure FInv (n : Nat) (spent : List Pr) (t : Int) (ks ws : List Int) : Prop where
  nd : ks.Nodup
  ok : ∀ a ∈ ks, (0 ≤ a ∧ a < n) ∧ Reach spent t a
  sub : ∀ a ∈ ws, a ∈ ks
  tt : t ∈ ks
  cl : ∀ b ∈ ks, b ∉ ws → ∀ a, (a, b) ∈ spent → a ∈ ks
theorem FInv.done {n : Nat} {spent : List Pr} {t : Int} {ks : List Int} (x : FInv n spent t ks []) {l : List Int} (pm : l.Perm ks) (pw : l.Pairwise (· ≤ ·)) : l = behindF n spent t := by
  refine sorted_unique (lt_of_le_nodup pw (pm.nodup_iff.mpr x.nd)) (behind_rise n spent t) fun a => ?_
  rw [pm.mem_iff, mem_behind]
  constructor
  · exact x.ok a
  · rintro ⟨h0, h⟩
    clear h0
    induction h with
    | base => exact x.tt
    | step h1 _ ih => exact x.cl _ ih (by simp) _ h1
structure SpOk (n : Nat) (spent : List Pr) : Prop where
  ok : ∀ k ∈ spent, (0 ≤ k.1 ∧ k.1 < n) ∧ (0 ≤ k.2 ∧ k.2 < n)
  len : spent.length ≤ 1000
end Hw

set_option maxHeartbeats 1000000

namespace Hw
open PySem L2 HwSort
noncomputable def firstMin : List Grp → Option Grp
  | [] => none
  | g :: r => match firstMin r with
    | none => some g
    | some h => if g.length ≤ h.length then some g else some h
noncomputable def groupsF (n : Nat) (spent : List Pr) : List Grp := (List.range (n - 1)).map fun (i : Nat) => behindF n spent (1 + (i : Int))
noncomputable def cutF (n : Nat) (spent : List Pr) : Option Grp := firstMin ((groupsF n spent).filter fun g => !decide (g.headD 0 = 0))
structure IntoAt (H : Hp) (a : Addr) (cs : List Addr) (L : List (List Int)) : Prop where
  ar : H a = some (.lst (cs.map V.ref))
  nd : cs.Nodup
  len : cs.length = L.length
  it : ∀ (i : Nat) c l, cs[i]? = some c → L[i]? = some l → H c = some (.lst (l.map V.int))
  na : a ∉ cs
theorem IntoAt.refs {H : Hp} {a : Addr} {cs : List Addr} {L : List (List Int)} (x : IntoAt H a cs L) : ListRefs H (cs.map V.ref) L := by
  refine paired_of (by rw [List.length_map]; exact x.len) fun i v l hv hl => ?_
  rw [List.getElem?_map] at hv
  cases e : cs[i]? with
  | none => rw [e] at hv; cases hv
  | some c => rw [e] at hv; exact ⟨c, (Option.some.inj hv).symm, x.it i c l e hl⟩
end Hw

set_option maxHeartbeats 1000000

namespace Hw
open PySem L2 HwSort
structure PI (n : Nat) (st : PSt) : Prop where
  nd : (keysC st.rests).Nodup
  ok : ∀ k ∈ keysC st.rests, Ok2 n k.1 k.2
  len : st.rests.length ≤ 144
  nn : ∀ e ∈ st.rests, 0 ≤ e.2
  snd : st.spent.Nodup
  ssub : ∀ k ∈ st.spent, k ∈ keysC st.rests
inductive Steps (n : Nat) : PSt → PSt → Prop
  | refl (st : PSt) : Steps n st st
  | tail {a b : PSt} {G : Grp} : Steps n a b → cutF n b.spent = some G → b.lonely = none → Steps n a (chargeF b G)
noncomputable def Ended (n : Nat) (st : PSt) : Prop := cutF n st.spent = none ∨ st.lonely ≠ none
noncomputable def singles (n : Nat) : List Grp := (List.range (n - 1)).map fun (i : Nat) => [1 + (i : Int)]
noncomputable def st1 (n : Nat) (cs : Cs) : PSt := (singles n).foldl chargeF ⟨cs, [], [], none⟩
noncomputable def Priced (n : Nat) (cs : Cs) (st : PSt) : Prop := Steps n (st1 n cs) st ∧ Ended n st
structure HsOk (n : Nat) (cs : Cs) : Prop where
  nd : (keysC cs).Nodup
  ok : ∀ k ∈ keysC cs, Ok2 n k.1 k.2
  len : cs.length ≤ 144
  nn : ∀ e ∈ cs, 0 ≤ e.2
end Hw

set_option maxHeartbeats 1000000

namespace Hw
open PySem L2 HwSort
noncomputable abbrev Fam := List (Option Int)
structure GInv (n : Nat) (spent : List Pr) (x : Fam × List Int) : Prop where
  nd : x.2.Nodup
  ok : ∀ a ∈ x.2, 0 ≤ a ∧ a < n
  zero : (0 : Int) ∈ x.2
  fl : x.1.length = n
end Hw

set_option maxHeartbeats 1000000

namespace Hw
open PySem L2 HwSort
structure SortedOf (cs hs : Cs) : Prop where
  pm : hs.Perm cs
  rise : (keysC hs).Pairwise ltP
theorem HsOk.perm {n : Nat} {cs hs : Cs} (h : HsOk n cs) (p : hs.Perm cs) : HsOk n hs :=
  ⟨((p.map (fun e : Pr × Int => e.1)).nodup_iff).mpr h.nd, fun k hk => h.ok k (((p.map (fun e : Pr × Int => e.1)).mem_iff).mp hk), by rw [p.length_eq]; exact h.len, fun e he => h.nn e (p.mem_iff.mp he)⟩
theorem HsOk.filter {n : Nat} {cs : Cs} (h : HsOk n cs) (p : Pr × Int → Bool) : HsOk n (cs.filter p) :=
  ⟨h.nd.sublist (List.filter_sublist.map _), fun k hk => by
    obtain ⟨e, he, rfl⟩ := List.mem_map.mp hk
    exact h.ok e.1 (List.mem_map_of_mem (List.mem_filter.mp he).1), Nat.le_trans (List.length_filter_le _ _) h.len, fun e he => h.nn e (List.mem_filter.mp he).1⟩
open Classical in
noncomputable def pricedF (n : Nat) (hs : Cs) : PSt := if h : ∃ st, Priced n hs st then Classical.choose h else ⟨[], [], [], none⟩
noncomputable def worthS (st : PSt) : Option Int := match st.lonely with
  | some _ => none
  | none => some (st.prices.map (·.2)).sum
noncomputable def lwF (n : Nat) (hs : Cs) : Option Int := worthS (pricedF n hs)
structure BkOk (n : Nat) (cs : Cs) : Prop where
  hs : HsOk n cs
  few : cs.length < 64 ∨ (keysC cs).Pairwise ltP
theorem MetD.imp {P : Program} {w : World} {K : PySem.W.Frag} {mg : Str → Option Value} {base : Heap} {C : Addr} {k : Nat} {m : Str} {ps : List Str} {sp sp' : Sp} (D : MetD P w K mg base C k m ps sp) (h : ∀ vs H Q E, sp' vs H Q E → sp vs H Q E) : MetD P w K mg base C k m ps sp' :=
  let ⟨f, fd, F, r⟩ := D; ⟨f, fd, F.imp h, r⟩
theorem Def.imp {P : Program} {w : World} {K : PySem.W.Frag} {mg : Str → Option Value} {base : Heap} {k : Nat} {m : Str} {ps : List Str} {sp sp' : Sp} (D : Def P w K mg base k m ps sp) (h : ∀ vs H Q E, sp' vs H Q E → sp vs H Q E) : Def P w K mg base k m ps sp' :=
  let ⟨f, fd, F, r⟩ := D; ⟨f, fd, F.imp h, r⟩

end Hw

set_option maxHeartbeats 1000000

namespace Hw
open PySem L2 HwSort
noncomputable abbrev hs2 (c : Int) : Cs := [((0, 1), c)]
noncomputable def st2 (c : Int) : PSt := ⟨[((0, 1), 0)], [(0, 1)], if c = 0 then [] else [([1], c)], none⟩
end Hw

set_option maxHeartbeats 1000000

namespace Hw
open PySem L2 HwSort
structure GoodG (n : Nat) (g : Grp) : Prop where
  ne : g ≠ []
  rise : g.Pairwise (· < ·)
  ok : ∀ a ∈ g, 1 ≤ a ∧ a < n
end Hw

set_option maxHeartbeats 1000000

namespace Hw
open PySem L2 HwSort
theorem RowsOk.bk {n : Nat} {cs : Cs} (r : RowsOk n cs) : BkOk n cs := ⟨⟨r.nd, r.ok, r.len, fun e he => (r.cost e he).1⟩, .inr r.rise⟩
end Hw

set_option maxHeartbeats 1000000

namespace Hw
open PySem L2 HwSort
noncomputable def kindOf (n : Nat) (hs : Cs) : Str := match (pricedF n hs).lonely with
  | none => "family"
  | some _ => "lonely"
theorem w_sameD {H : Hp} {Q : VK} {neg : Bool} {x y : V} {d : PyData} (hx : DRep H x d) (hy : DRep H y d) (hl : d.canLay0 = true) (hd : d.depth ≤ 60) (k : Q (.bl (!neg)) H) : rEqD neg x y H Q := by
  refine ⟨d, d, hx, hy, hl, hl, hd, ?_⟩
  rw [SeqAt.eqv_refl _ hl]
  cases neg <;> exact k
mutual

theorem DRep.keepBut {H H' : Hp} {d : Addr} {kvs : List (List Key × V)} (kb : KeepBut d H H') (dc : H d = some (.dT kvs)) : ∀ {v : V} {x : PyData}, DRep H v x → DRep H' v x
  | _, _, .non => .non
  | _, _, .bl b => .bl b
  | _, _, .int i => .int i
  | _, _, .str x => .str x
  | _, _, .lst h t => .lst (kb _ _ h (ne_of h dc (fun z => nomatch z))) (DReps.keepBut kb dc t)
  | _, _, .tup h t => .tup (kb _ _ h (ne_of h dc (fun z => nomatch z))) (DReps.keepBut kb dc t)
theorem DReps.keepBut {H H' : Hp} {d : Addr} {kvs : List (List Key × V)} (kb : KeepBut d H H') (dc : H d = some (.dT kvs)) : ∀ {xs : List V} {ds : List PyData}, DReps H xs ds → DReps H' xs ds
  | _, _, .nil => .nil
  | _, _, .cons h t => .cons (DRep.keepBut kb dc h) (DReps.keepBut kb dc t)
end

theorem HsOk.put {n : Nat} {cs : Cs} (h : HsOk n cs) {k : Pr} {v : Int} (hk : Ok2 n k.1 k.2) (hv : 0 ≤ v) (hl : cs.length < 144) : HsOk n (putC cs k v) := by
  refine ⟨nodup_put k v h.nd, fun j hj => ?_, by have := len_put cs k v; omega, fun e he => ?_⟩
  · rcases mem_keys_put hj with rfl | hj
    · exact hk
    · exact h.ok j hj
  · unfold putC at he
    split at he
    · obtain ⟨x, hx, rfl⟩ := List.mem_map.mp he
      by_cases hxk : x.1 = k
      · rw [if_pos hxk]; exact hv
      · rw [if_neg hxk]; exact h.nn x hx
    · rcases List.mem_append.mp he with h1 | h1
      · exact h.nn e h1
      · rw [List.mem_singleton.mp h1]; exact hv
theorem HsOk.drop {n : Nat} {cs : Cs} (h : HsOk n cs) (k : Pr) : HsOk n (dropC cs k) := h.filter _
end Hw

set_option maxHeartbeats 1000000

namespace Hw
open PySem L2 HwSort
inductive Led (p : Int → Int) : Int → Prop
  | zero : Led p 0
  | step {t : Int} : Led p (p t) → Led p t
structure FamP (n : Nat) (cs : Cs) (p : Int → Int) : Prop where
  has : ∀ t : Int, 1 ≤ t → t < n → (p t, t) ∈ keysC cs
  led : ∀ t : Int, 1 ≤ t → t < n → Led p t
noncomputable def others (n : Nat) : List Int := (List.range (n - 1)).map fun (i : Nat) => 1 + (i : Int)
theorem mem_others {n : Nat} {t : Int} : t ∈ others n ↔ 1 ≤ t ∧ t < n := by
  unfold others
  rw [List.mem_map]
  constructor
  · rintro ⟨i, hi, rfl⟩
    have := List.mem_range.mp hi
    omega
  · rintro ⟨h1, h2⟩
    exact ⟨(t - 1).toNat, List.mem_range.mpr (by omega), by omega⟩
noncomputable def worthP (n : Nat) (cs : Cs) (p : Int → Int) : Int := ((others n).map fun t => costOf cs (p t, t)).sum

noncomputable def enterSum (ps : List (Grp × Int)) (k : Pr) : Int := ((ps.filter fun x => entersB x.1 k).map (·.2)).sum
structure OI (n : Nat) (cs : Cs) (st : PSt) : Prop where
  rest : ∀ k ∈ keysC cs, costOf st.rests k + enterSum st.prices k = costOf cs k
  nil : ∀ k ∈ st.spent, costOf st.rests k = 0
  pos : ∀ x ∈ st.prices, GoodG n x.1 ∧ 0 < x.2
  tied : ∀ x ∈ st.prices, ∃ pre post, st.spent = pre ++ post ∧ (∀ k ∈ pre, entersB x.1 k = false) ∧ ∀ c ∈ x.1, ∀ b ∈ x.1, Reach pre b c
  met : ∀ x ∈ st.prices, ∃ k ∈ st.spent, entersB x.1 k = true
  lam : st.prices.Pairwise fun x y => x.1 ≠ y.1 ∧ ((∀ a ∈ x.1, a ∈ y.1) ∨ ∀ a ∈ x.1, a ∉ y.1)
noncomputable def parF (f : Fam) (t : Int) : Int := (f.getD t.toNat none).getD 0
structure GP (n : Nat) (spent : List Pr) (x : Fam × List Int) : Prop where
  sp : ∀ t ∈ x.2, t ≠ 0 → (parF x.1 t, t) ∈ spent ∧ parF x.1 t ∈ x.2 ∧ x.1.getD t.toNat none ≠ none
  led : ∀ t ∈ x.2, Led (parF x.1) t
  hd : x.1.getD 0 none = none
  once : ∀ g : Grp, (∃ pre post, spent = pre ++ post ∧ (∀ k ∈ pre, entersB g k = false) ∧ ∀ c ∈ g, ∀ b ∈ g, Reach pre b c) → ∀ a ∈ x.2, ∀ b ∈ x.2, a ≠ 0 → b ≠ 0 → entersB g (parF x.1 a, a) = true → entersB g (parF x.1 b, b) = true → a = b
structure IsFam (n : Nat) (cs : Cs) (f : Fam) : Prop where
  len : f.length = n
  hd : f.getD 0 none = none
  full : ∀ t : Int, 1 ≤ t → t < n → f.getD t.toNat none ≠ none
  fp : FamP n cs (parF f)
structure IsLeast (n : Nat) (cs : Cs) (c : Int) : Prop where
  at' : ∃ f, IsFam n cs f ∧ worthP n cs (parF f) = c
  le : ∀ p, FamP n cs p → c ≤ worthP n cs p
end Hw

set_option maxHeartbeats 1000000

namespace Hw
open PySem L2 HwSort
noncomputable def iterP (p : Int → Int) : Nat → Int → Int
  | 0, t => t
  | k + 1, t => if iterP p k t = 0 then 0 else p (iterP p k t)
theorem iter_add (p : Int → Int) (a t : Int) (j : Nat) : ∀ k, iterP p (j + k) t = iterP p k (iterP p j t)
  | 0 => rfl
  | k + 1 => by
    show (if iterP p (j + k) t = 0 then 0 else p (iterP p (j + k) t)) = if iterP p k (iterP p j t) = 0 then 0 else p (iterP p k (iterP p j t))
    rw [iter_add p a t j k]
theorem iter_one {p : Int → Int} {t : Int} (h : t ≠ 0) : iterP p 1 t = p t := by show (if t = 0 then 0 else p t) = _; rw [if_neg h]
theorem led_iter {p : Int → Int} {t : Int} (h : Led p t) : ∃ k, iterP p k t = 0 := by
  induction h with
  | zero => exact ⟨0, rfl⟩
  | @step t _ ih =>
    by_cases h0 : t = 0
    · exact ⟨0, h0⟩
    · obtain ⟨k, hk⟩ := ih
      refine ⟨1 + k, ?_⟩
      rw [iter_add p 0, iter_one h0]
      exact hk
theorem iter_led {p : Int → Int} : ∀ {k : Nat} {t : Int}, iterP p k t = 0 → Led p t
  | 0, t, h => by rw [show t = 0 from h]; exact .zero
  | k + 1, t, h => by
    by_cases h0 : t = 0
    · rw [h0]; exact .zero
    · rw [Nat.add_comm, iter_add p 0, iter_one h0] at h
      exact .step (iter_led h)
theorem least_nat {q : Nat → Prop} (h : ∃ k, q k) : ∃ k, q k ∧ ∀ j, j < k → ¬ q j := by
  obtain ⟨k, hk⟩ := h
  induction k using Nat.strongRecOn with
  | _ k ih =>
    by_cases h1 : ∃ j, j < k ∧ q j
    · obtain ⟨j, hj, hq⟩ := h1
      exact ih j hj hq
    · exact ⟨k, hk, fun j hj hq => h1 ⟨j, hj, hq⟩⟩

structure FamShape (n : Nat) (cs : Cs) (f : Fam) : Prop where
  len : f.length = n
  hd : f.getD 0 none = none
  full : ∀ t : Int, 1 ≤ t → t < n → f.getD t.toNat none ≠ none
  has : ∀ t : Int, 1 ≤ t → t < n → (parF f t, t) ∈ keysC cs
theorem IsFam.shape {n : Nat} {cs : Cs} {f : Fam} (h : IsFam n cs f) : FamShape n cs f := ⟨h.len, h.hd, h.full, h.fp.has⟩
theorem FamShape.at {n : Nat} {cs : Cs} {f : Fam} (h : FamShape n cs f) {t : Int} (h1 : 1 ≤ t) (h2 : t < n) : (f.map optV)[t.toNat]? = some (V.int (parF f t)) := by
  have hl : t.toNat < f.length := by have := h.len; omega
  have h3 := h.full t h1 h2
  have h4 : f.getD t.toNat none = f[t.toNat] := by simp [List.getD, hl]
  rw [List.getElem?_map, List.getElem?_eq_getElem hl]
  have h5 : parF f t = (f[t.toNat]).getD 0 := by unfold parF; rw [h4]
  rw [h4] at h3
  rw [h5]
  cases e : f[t.toNat] with
  | none => exact absurd e h3
  | some v => rfl
theorem FamShape.at0 {n : Nat} {cs : Cs} {f : Fam} (h : FamShape n cs f) (hn : 1 ≤ n) : (f.map optV)[0]? = some V.non := by
  have hl : 0 < f.length := by have := h.len; omega
  have h4 : f.getD 0 none = f[0] := by simp [List.getD, hl]
  rw [List.getElem?_map, List.getElem?_eq_getElem hl]
  rw [← h4, h.hd]
  rfl
open Classical in
noncomputable def ledB (n : Nat) (f : Fam) : Bool := decide (∀ t : Int, 1 ≤ t → t < n → Led (parF f) t)
theorem IsFam.ledB {n : Nat} {cs : Cs} {f : Fam} (h : IsFam n cs f) : ledB n f = true := by unfold Hw.ledB; exact @decide_eq_true _ (Classical.propDecidable _) h.fp.led
theorem RowsOk.filter {many : Int} {cs : Cs} (r : RowsOk many cs) (p : Pr × Int → Bool) : RowsOk many (cs.filter p) := by
  have sub : (keysC (cs.filter p)).Sublist (keysC cs) := List.filter_sublist.map _
  exact ⟨r.rise.sublist sub, fun k hk => r.ok k (sub.subset hk), fun e he => r.cost e (List.mem_filter.mp he).1, Nat.le_trans (List.length_filter_le ..) r.len⟩

theorem look_isSome {cs : Cs} {k : Pr} (h : k ∈ keysC cs) : (lookC cs k).isSome = true := by
  cases e : lookC cs k with
  | none => exact absurd h (look_none e)
  | some c => rfl
end Hw

set_option maxHeartbeats 1000000

namespace Hw
open PySem L2 HwSort
noncomputable def lexLe (n : Nat) (f q : Int → Int) : Prop := (∀ t : Int, 1 ≤ t → t < n → q t = f t) ∨ ∃ t : Int, 1 ≤ t ∧ t < n ∧ f t < q t ∧ ∀ s : Int, 1 ≤ s → s < t → q s = f s
structure SI (n : Nat) (hs hi : Cs) (goal : Int) (i : Nat) (f : Int → Int) : Prop where
  sub : ∀ e ∈ hi, e ∈ hs
  lw : lwF n hi = some goal
  fam : ∀ p, FamP n hi p ↔ FamP n hs p ∧ ∀ t : Int, 1 ≤ t → t < 1 + (i : Int) → p t = f t
  one : ∀ k ∈ keysC hi, k.2 < 1 + (i : Int) → k.1 = f k.2
  lex : ∀ q, FamP n hs q → worthP n hs q = goal → (∀ t : Int, 1 ≤ t → t < 1 + (i : Int) → q t = f t) ∨ ∃ t : Int, 1 ≤ t ∧ t < 1 + (i : Int) ∧ f t < q t ∧ ∀ s : Int, 1 ≤ s → s < t → q s = f s
  rise : (keysC hi).Pairwise ltP
  ok : HsOk n hi
structure FirstFam (n : Nat) (hs : Cs) (goal : Int) (F : Fam) : Prop where
  fam : IsFam n hs F
  worth : worthP n hs (parF F) = goal
  least : ∀ q, FamP n hs q → goal ≤ worthP n hs q
  lex : ∀ q, FamP n hs q → worthP n hs q = goal → lexLe n (parF F) q
end Hw

set_option maxHeartbeats 1000000

namespace Hw
open PySem L2 HwSort
noncomputable def without (cs : Cs) (k : Pr) : Cs := cs.filter fun e => !decide (e.1 = k)
end Hw

set_option maxHeartbeats 1000000

namespace L2
open PySem PySem.Spec PyProof.Rows

noncomputable def upV (lo : Int) (n : Nat) : List V := (List.range n).map fun (i : Nat) => V.int (lo + (i : Int))
theorem call_rng2 {X : Cx} : CallR X (.type "range") (fun xs H Q => ∃ i j : Int, xs = [.int i, .int j] ∧ ∀ p, H p = none → Q (.ref p) (upd H p (.rng i j))) := by
  intro pins s σ H xs us Q I r h
  obtain ⟨i, j, rfl, q⟩ := h
  cases r with
  | cons r rr =>
    cases rr with
    | cons r' rr =>
      cases rr
      obtain ⟨t, rfl⟩ := r
      obtain ⟨t', rfl⟩ := r'
      refine call_range_2 ⟨.ref _, _, I.laid (t' := s.toks + 1) (fun _ _ q => Heap.get?_push_of_some _ q) (Nat.le_refl _) ?_, rfl, q _ (I.hok.fresh (Nat.le_refl _))⟩
      exact ⟨t, t', s.toks, Heap.get?_push_size _ rfl⟩
theorem vals_up {lo : Int} : ∀ (n : Nat) (lo : Int) (us : List Value), us.length = n → (∀ (j : Nat) (v : Value), us[j]? = some v → ∃ t, v = .int (lo + j * 1) t) → Vals (upV lo n) us
  | 0, lo, us, e, _ => by
    have : us = [] := List.eq_nil_of_length_eq_zero e
    subst this
    exact .nil
  | n + 1, lo, us, e, h => by
    cases us with
    | nil => cases e
    | cons u r =>
      have e1 : upV lo (n + 1) = V.int lo :: upV (lo + 1) n := by
        unfold upV
        rw [List.range_succ_eq_map, List.map_cons, List.map_map]
        congr 1
        · simp
        · apply List.map_congr_left
          intro i _
          simp only [Function.comp]
          congr 1
          omega
      rw [e1]
      obtain ⟨t, ht⟩ := h 0 u rfl
      refine .cons ⟨t, by rw [ht]; simp⟩ (vals_up (lo := lo) n (lo + 1) r (by simpa using e) fun j v hj => ?_)
      obtain ⟨t', ht'⟩ := h (j + 1) v hj
      refine ⟨t', ht'.trans ?_⟩
      congr 1
      omega
theorem call_listR {X : Cx} (hc : X.calm = true) : CallR X (.type "list") (fun xs H Q => ∃ (p : Addr) (i j : Int), xs = [.ref p] ∧ H p = some (.rng i j) ∧ -(2 ^ 20) ≤ i ∧ i < 2 ^ 20 ∧ -(2 ^ 20) ≤ j ∧ j < 2 ^ 20 ∧ ∀ l, H l = none → Q (.ref l) (upd H l (.lst (upV i (j - i).toNat)))) := by
  intro pins s σ H xs us Q I r h
  obtain ⟨p, i, j, rfl, hp, h1, h2, h3, h4, q⟩ := h
  obtain ⟨u, rfl, rx⟩ := vals1 r
  cases rx
  obtain ⟨t, u, v, hr⟩ := (show ObjOk X.prog X.w H s.heap p (.rng i j) from I.hok p _ hp)
  have hn : Builtin.Range.rangeSize i j 1 = (((j - i).toNat : Nat) : Int) := by rw [rangeSize_one]; split <;> omega
  refine call_list_range (I.ok.hd hc) hr (small_one (by omega) (by omega) (by omega) (by omega)) hn (by omega) fun h' tk acc c hk hD hI => ?_
  have hv : Vals (upV i (j - i).toNat) acc.toList := vals_up (lo := i) _ _ _ (by rw [Array.length_toList]; exact hI.1) fun k v hv => hI.2 k v (by rw [← hv, Array.getElem?_toList])
  refine ⟨.ref s.heap.objs.size, _, I.laid (t' := tk) hk (Nat.le_refl _) (show ObjOk X.prog X.w _ h' _ (.lst (upV i (j - i).toNat)) from ⟨?_, acc.toList, c, hv, by rw [Array.toArray_toList]; exact hD⟩), rfl, q _ (I.hok.fresh (Nat.le_refl _))⟩
  unfold upV
  rw [List.length_map, List.length_range, sizeLine_eq]
  omega
end L2

set_option maxHeartbeats 1000000

namespace Hw
open PySem L2 HwSort
structure TreeF (n : Nat) (f : Fam) : Prop where
  len : f.length = n
  hd : f.getD 0 none = none
  full : ∀ t : Int, 1 ≤ t → t < n → f.getD t.toNat none ≠ none
  val : ∀ t : Int, 1 ≤ t → t < n → (0 ≤ parF f t ∧ parF f t < n) ∧ parF f t ≠ t
  led : ∀ t : Int, 1 ≤ t → t < n → Led (parF f) t
structure TInv (n i : Nat) (L Th : List Int) (f : Fam) : Prop where
  lnd : L.Nodup
  cover : ∀ t : Int, 0 ≤ t → t < n → t ∈ L ∨ t ∈ Th
  lok : ∀ t ∈ L, (1 ≤ t ∧ t < n) ∧ t ∉ Th
  tok : ∀ t ∈ Th, 0 ≤ t ∧ t < n
  zero : (0 : Int) ∈ Th
  flen : f.length = n
  hd : f.getD 0 none = none
  has : ∀ t ∈ Th, t ≠ 0 → f.getD t.toNat none ≠ none ∧ parF f t ∈ Th ∧ parF f t ≠ t
  led : ∀ t ∈ Th, Led (parF f) t
  ll : L.length + i + 1 = n
  tl : Th.length = i + 1
theorem TreeF.at {n : Nat} {f : Fam} (h : TreeF n f) {t : Int} (h1 : 1 ≤ t) (h2 : t < n) : (f.map optV)[t.toNat]? = some (V.int (parF f t)) := by
  have hl : t.toNat < f.length := by have := h.len; omega
  have h3 := h.full t h1 h2
  have h4 : f.getD t.toNat none = f[t.toNat] := by simp [List.getD, hl]
  rw [List.getElem?_map, List.getElem?_eq_getElem hl]
  have h5 : parF f t = (f[t.toNat]).getD 0 := by unfold parF; rw [h4]
  rw [h4] at h3
  rw [h5]
  cases e : f[t.toNat] with
  | none => exact absurd e h3
  | some v => rfl
theorem TreeF.fam {n : Nat} {f : Fam} (h : TreeF n f) {cs : Cs} (hk : ∀ t : Int, 1 ≤ t → t < n → (parF f t, t) ∈ keysC cs) : IsFam n cs f := ⟨h.len, h.hd, h.full, ⟨hk, h.led⟩⟩
structure MadeI (n i : Nat) (cs ms : Cs) (f : Fam) : Prop where
  nd : (keysC ms).Nodup
  ok : ∀ k ∈ keysC ms, Ok2 n k.1 k.2
  cost : ∀ e ∈ ms, 0 ≤ e.2 ∧ e.2 ≤ 1000000
  new : ∀ k ∈ keysC ms, k ∈ keysC cs ∨ k.2 < 1 + (i : Int)
  sub : ∀ k ∈ keysC cs, k ∈ keysC ms
  has : ∀ t : Int, 1 ≤ t → t < 1 + (i : Int) → (parF f t, t) ∈ keysC ms
end Hw

set_option maxHeartbeats 1000000

namespace Hw
open PySem L2 HwSort
open Classical in
noncomputable def famB (n : Nat) (cs : Cs) (f : Fam) : Bool := decide (IsFam n cs f)
theorem famB_t {n : Nat} {cs : Cs} {f : Fam} (h : IsFam n cs f) : famB n cs f = true := by unfold famB; exact @decide_eq_true _ (Classical.propDecidable _) h
theorem famB_f {n : Nat} {cs : Cs} {f : Fam} (h : ¬ IsFam n cs f) : famB n cs f = false := by unfold famB; exact @decide_eq_false _ (Classical.propDecidable _) h
noncomputable def hearB (cs : Cs) (a : Option Int) (t : Int) : Bool := match a with
  | none => false
  | some a => (lookC cs (a, t)).isSome
theorem look_some_key {cs : Cs} {k : Pr} (h : (lookC cs k).isSome = true) : k ∈ keysC cs := by
  obtain ⟨v, hv⟩ := Option.isSome_iff_exists.mp h
  exact List.mem_map.mpr ⟨_, look_some_mem hv, rfl⟩
theorem hear_key {cs : Cs} {f : Fam} {t : Int} (h : hearB cs (f.getD t.toNat none) t = true) : f.getD t.toNat none ≠ none ∧ (parF f t, t) ∈ keysC cs := by
  unfold parF
  cases e : f.getD t.toNat none with
  | none => rw [e] at h; cases h
  | some a =>
    rw [e] at h
    exact ⟨(fun z => nomatch z), look_some_key h⟩
theorem key_hear {cs : Cs} {f : Fam} {t : Int} (h1 : f.getD t.toNat none ≠ none) (h2 : (parF f t, t) ∈ keysC cs) : hearB cs (f.getD t.toNat none) t = true := by
  unfold parF at h2
  cases e : f.getD t.toNat none with
  | none => exact absurd e h1
  | some a =>
    rw [e] at h2
    exact look_isSome h2
theorem shape_hear {n : Nat} {cs : Cs} {f : Fam} (h1 : f.length = n) (h2 : f.getD 0 none = none) (h : ∀ t : Int, 1 ≤ t → t < n → hearB cs (f.getD t.toNat none) t = true) : FamShape n cs f :=
  ⟨h1, h2, fun t a b => (hear_key (h t a b)).1, fun t a b => (hear_key (h t a b)).2⟩
theorem fam_hear {n : Nat} {cs : Cs} {f : Fam} (h : IsFam n cs f) {t : Int} (h1 : 1 ≤ t) (h2 : t < n) : hearB cs (f.getD t.toNat none) t = true := key_hear (h.full t h1 h2) (h.fp.has t h1 h2)
theorem shape_fam {n : Nat} {cs : Cs} {f : Fam} (h : FamShape n cs f) (hl : ∀ t : Int, 1 ≤ t → t < n → Led (parF f) t) : IsFam n cs f := ⟨h.len, h.hd, h.full, ⟨h.has, hl⟩⟩
theorem famB_shape {n : Nat} {cs : Cs} {f : Fam} (h : FamShape n cs f) : famB n cs f = ledB n f := by
  by_cases hl : ∀ t : Int, 1 ≤ t → t < n → Led (parF f) t
  · rw [famB_t (shape_fam h hl), (shape_fam h hl).ledB]
  · rw [famB_f (fun z => hl z.fp.led)]
    unfold ledB
    exact (@decide_eq_false _ (Classical.propDecidable _) hl).symm

theorem iter_lt {n : Nat} {p : Int → Int} (hp : ∀ t : Int, 1 ≤ t → t < n → 0 ≤ p t ∧ p t < n) {t : Int} (h0 : 1 ≤ t) (ht : t < n) (h : Led p t) : ∃ d, d < n ∧ iterP p d t = 0 := by
  obtain ⟨d, hd, hmin⟩ := least_nat (led_iter h)
  have hin : ∀ j, 0 ≤ iterP p j t ∧ iterP p j t < n := by
    intro j
    induction j with
    | zero => exact ⟨by show 0 ≤ t; omega, ht⟩
    | succ j ih =>
      show 0 ≤ (if iterP p j t = 0 then 0 else p (iterP p j t)) ∧ (if iterP p j t = 0 then 0 else p (iterP p j t)) < n
      split
      · omega
      · exact hp _ (by omega) ih.2
  have hnd : ((List.range d).map fun j => iterP p j t).Nodup := by
    rw [List.nodup_iff_pairwise_ne, List.pairwise_map]
    refine List.Pairwise.imp_of_mem ?_ List.pairwise_lt_range
    intro a b ha hb hab e
    have hb' := List.mem_range.mp hb
    have e1 : iterP p (b + (d - b)) t = 0 := by rw [show b + (d - b) = d by omega]; exact hd
    rw [iter_add p 0, ← e, ← iter_add p 0] at e1
    exact hmin (a + (d - b)) (by omega) e1
  have hle := nodup_len hnd (m := others n) fun x hx => by
    obtain ⟨j, hj, rfl⟩ := List.mem_map.mp hx
    have := hin j
    have := hmin j (List.mem_range.mp hj)
    exact mem_others.mpr ⟨by omega, by omega⟩
  have hol : (others n).length = n - 1 := by simp [others]
  rw [hol, List.length_map, List.length_range] at hle
  exact ⟨d, by omega, hd⟩
open Classical in
noncomputable def ledT (f : Fam) (t : Int) : Bool := decide (Led (parF f) t)
theorem ledT_t {f : Fam} {t : Int} (h : Led (parF f) t) : ledT f t = true := by unfold ledT; exact @decide_eq_true _ (Classical.propDecidable _) h
theorem ledT_f {f : Fam} {t : Int} (h : ¬ Led (parF f) t) : ledT f t = false := by unfold ledT; exact @decide_eq_false _ (Classical.propDecidable _) h

theorem all_others {n : Nat} {g : Int → Bool} {vs : List V} (hl : vs.length = n - 1) (h : ∀ (i : Nat) (v : V), vs[i]? = some v → v = V.bl (g (1 + (i : Int)))) : vs = ((others n).map g).map V.bl := by
  apply List.ext_getElem?
  intro i
  unfold others
  rw [List.getElem?_map, List.getElem?_map, List.getElem?_map]
  cases h1 : vs[i]? with
  | none =>
    have : vs.length ≤ i := List.getElem?_eq_none_iff.mp h1
    rw [List.getElem?_eq_none (by rw [List.length_range]; omega)]
    rfl
  | some v =>
    have hi : i < vs.length := (List.getElem?_eq_some_iff.mp h1).1
    rw [h i v h1, List.getElem?_range (by omega)]
    rfl
theorem all_t {n : Nat} {g : Int → Bool} : ((others n).map g).all id = true ↔ ∀ t : Int, 1 ≤ t → t < n → g t = true := by
  rw [List.all_map, List.all_eq_true]
  exact ⟨fun h t h1 h2 => h t (mem_others.mpr ⟨h1, h2⟩), fun h t ht => h t (mem_others.mp ht).1 (mem_others.mp ht).2⟩
theorem fam_some {f : Fam} {t : Int} (h2 : t.toNat < f.length) : (f.map optV)[t.toNat]? = some (optV (f.getD t.toNat none)) := by
  have h4 : f.getD t.toNat none = f[t.toNat] := by simp [List.getD, h2]
  rw [List.getElem?_map, List.getElem?_eq_getElem h2, h4]
  rfl
theorem fam_at {f : Fam} {t : Int} (h1 : 0 ≤ t) (h2 : t.toNat < f.length) : atI (f.map optV) t = some (optV (f.getD t.toNat none)) := by
  have := atI_nat (fam_some h2)
  rwa [Int.toNat_of_nonneg h1] at this
theorem optV_non (o : Option Int) : decide (optV o = .non) = o.isNone := by cases o <;> rfl
noncomputable def KeysIn (n : Nat) (cs : Cs) : Prop := ∀ k ∈ keysC cs, Ok2 n k.1 k.2
inductive sp_has (C : Addr) (vs : List V) (H : Hp) (Q : VK) (E : XK) : Prop
  | mk (p d : Addr) (n : Nat) (cs : Cs) (a : Option Int) (t : Int) (h09 : vs = [.ref p, optV a, .int t]) (h19 : BookAt C H p d n cs) (h29 : KeysIn n cs) (h39 : 1 ≤ t) (h49 : t < n) (h59 : ∀ H', Same H H' → Q (.bl (hearB cs a t)) H') : sp_has C vs H Q E
inductive sp_comes (vs : List V) (H : Hp) (Q : VK) (E : XK) : Prop
  | mk (l : Addr) (f : Fam) (cs : Cs) (n : Nat) (t : Int) (h09 : vs = [.ref l, .int t]) (h19 : H l = some (.lst (f.map optV))) (h29 : n ≤ 12) (h39 : KeysIn n cs) (h49 : FamShape n cs f) (h59 : 1 ≤ t) (h69 : t < n) (h79 : Q (.bl (ledT f t)) H) : sp_comes vs H Q E
inductive sp_isfam (C : Addr) (vs : List V) (H : Hp) (Q : VK) (E : XK) : Prop
  | mk (p d l : Addr) (n : Nat) (cs : Cs) (f : Fam) (h09 : vs = [.ref p, .ref l]) (h19 : BookAt C H p d n cs) (h29 : KeysIn n cs) (h39 : 1 ≤ n) (h49 : n ≤ 12) (h59 : H l = some (.lst (f.map optV))) (h69 : ∀ H', Same H H' → Q (.bl (famB n cs f)) H') : sp_isfam C vs H Q E
inductive sp_worthX (xa : Ex → Addr) (C : Addr) (vs : List V) (H : Hp) (Q : VK) (E : XK) : Prop
  | mk (p d l : Addr) (n : Nat) (cs : Cs) (f : Fam) (h09 : vs = [.ref p, .ref l]) (h19 : BookAt C H p d n cs) (h29 : KeysIn n cs) (h39 : 1 ≤ n) (h49 : n ≤ 12) (h59 : H l = some (.lst (f.map optV))) (h69 : (IsFam n cs f → ∀ H', Same H H' → Q (.int (worthP n cs (parF f))) H')) (h79 : (¬ IsFam n cs f → ∀ H', Same H H' → E (.ref (xa .NoFamily)) none H')) : sp_worthX xa C vs H Q E
end Hw

set_option maxHeartbeats 1000000

namespace L2
open PySem PySem.Spec PyProof.Rows
end L2
namespace Hw
open PySem L2 HwSort
theorem small_log {i : Int} (h0 : 0 ≤ i) (h1 : i ≤ 1000000) : i.natAbs.log2 < 1920 := by
  by_cases hz : i.natAbs = 0
  · rw [hz]; decide
  · refine (Nat.log2_lt hz).mpr (Nat.lt_of_lt_of_le (show i.natAbs < 2 ^ 20 by omega) (Nat.pow_le_pow_right (by decide) (by decide)))
theorem num_len {i : Int} (h0 : 0 ≤ i) (h1 : i ≤ 1000000) : (Str.ofString (toString i)).length ≤ 7 := PyProof.Rows.toString_length_le h0 (by decide) (by omega)
noncomputable def lineS (e : Pr × Int) : Str := Str.ofString (toString e.1.1) ++ " to " ++ Str.ofString (toString e.1.2) ++ " costs " ++ Str.ofString (toString e.2)
noncomputable def headS (n : Int) : Str := "tellers " ++ Str.ofString (toString n)
noncomputable def textS (n : Int) (cs : Cs) : Str := cs.foldl (fun t e => t ++ "\n" ++ lineS e) (headS n)
theorem join_fold (sep : Str) : ∀ (ls : List Str) (x : Str), Str.join sep (x :: ls) = ls.foldl (fun t l => t ++ sep ++ l) x
  | [], x => rfl
  | y :: r, x => by
    show x ++ sep ++ Str.join sep (y :: r) = _
    rw [← StrLaws.join_shift, join_fold sep r]
    rfl
theorem text_join (n : Int) (cs : Cs) : Str.join "\n" (headS n :: cs.map lineS) = textS n cs := by
  rw [join_fold, List.foldl_map]
  rfl
noncomputable def RowIn (e : Pr × Int) : Prop := (0 ≤ e.1.1 ∧ e.1.1 ≤ 1000000) ∧ (0 ≤ e.1.2 ∧ e.1.2 ≤ 1000000) ∧ (0 ≤ e.2 ∧ e.2 ≤ 1000000)
theorem line_len {e : Pr × Int} (h : RowIn e) : (lineS e).length ≤ 32 := by
  obtain ⟨⟨a1, a2⟩, ⟨b1, b2⟩, ⟨c1, c2⟩⟩ := h
  have h1 := num_len a1 a2
  have h2 := num_len b1 b2
  have h3 := num_len c1 c2
  have h4 : (" to " : Str).length = 4 := by decide +kernel
  have h5 : (" costs " : Str).length = 7 := by decide +kernel
  unfold lineS
  simp only [Str.length_append]
  omega
theorem head_len {n : Int} (h0 : 0 ≤ n) (h1 : n ≤ 1000000) : (headS n).length ≤ 15 := by
  have h2 := num_len h0 h1
  have h3 : ("tellers " : Str).length = 8 := by decide +kernel
  unfold headS
  rw [Str.length_append]
  omega
theorem text_snoc (n : Int) (cs : Cs) (e : Pr × Int) : textS n (cs ++ [e]) = textS n cs ++ "\n" ++ lineS e := by
  unfold textS
  rw [List.foldl_append]
  rfl
theorem text_len {n : Int} (h0 : 0 ≤ n) (h1 : n ≤ 1000000) : ∀ (m : Nat) (cs : Cs), cs.length = m → (∀ e ∈ cs, RowIn e) → (textS n cs).length ≤ 15 + 33 * m
  | 0, cs, hm, _ => by
    have : cs = [] := List.eq_nil_of_length_eq_zero hm
    subst this
    exact head_len h0 h1
  | m + 1, cs, hm, hr => by
    have hne : cs ≠ [] := fun e => by rw [e] at hm; cases hm
    obtain ⟨e0, he0⟩ : ∃ e0, cs = cs.dropLast ++ [e0] := ⟨_, (List.dropLast_concat_getLast hne).symm⟩
    have ih := text_len h0 h1 m cs.dropLast (by rw [List.length_dropLast]; omega) fun e he => hr e (List.dropLast_sublist cs |>.subset he)
    have hl := line_len (hr e0 (by rw [he0]; simp))
    have h3 : ("\n" : Str).length = 1 := by decide +kernel
    rw [he0, text_snoc, Str.length_append, Str.length_append]
    omega

theorem TupRefs.erase {H : Hp} : ∀ {bs : List V} {kss : List (List Int)} (j : Nat), TupRefs H bs kss → TupRefs H (bs.eraseIdx j) (kss.eraseIdx j)
  | _, _, _, .nil => .nil
  | _, _, 0, .cons _ t => t
  | _, _, j + 1, .cons h t => .cons h (TupRefs.erase j t)
theorem RowsOk.erase {many : Int} {cs : Cs} (r : RowsOk many cs) (j : Nat) : RowsOk many (cs.eraseIdx j) := by
  have sub : (cs.eraseIdx j).Sublist cs := List.eraseIdx_sublist cs j
  have sub2 : (keysC (cs.eraseIdx j)).Sublist (keysC cs) := sub.map _
  exact ⟨r.rise.sublist sub2, fun k hk => r.ok k (sub2.subset hk), fun e he => r.cost e (sub.subset he), Nat.le_trans sub.length_le r.len⟩
end Hw

set_option maxHeartbeats 1000000

namespace L2
open PySem PySem.Spec PyProof.Rows

noncomputable def Its (y : Str) : It := ⟨fun i _ => i < y.cps.size, fun i H x H' => H' = H ∧ ∃ c, y.cps[i]? = some c ∧ x = .str ⟨#[c]⟩, fun i _ => y.cps.size ≤ i⟩
theorem turn_str {P : Program} {w : World} {K : PySem.W.Frag} {tg : Expr} (y : Str) (t : Tok) (it : Addr) : Turn P w K tg (Its y) [it] it (fun i h => h.IsStrIter it "str_ascii_iterator" y t i) where
  mem := List.mem_singleton.mpr rfl
  obj := fun i h st b hb => by
    obtain rfl : b = it := List.mem_singleton.mp hb
    obtain ⟨o, eo, co, dd⟩ := st
    exact ⟨o, eo, fun v z => by rw [dd] at z; cases z⟩
  keep := fun i h h' st k => by
    obtain ⟨o, ho, r⟩ := st
    exact ⟨o, k it (List.mem_singleton.mpr rfl) o ho, r⟩
  item := by
    intro X hP hw hK hc i pins s σ H E I hf st hg
    subst hP hw hK
    have hlt : i < y.cps.size := hg
    obtain ⟨a0, a1, _, a3, a4, a5⟩ := hf it (List.mem_singleton.mpr rfl)
    refine wpAny_pyNext_ascii_item st (c := y.cps[i]) (by simp [hlt]) fun h' st' sb => ?_
    have I1 : Inv X pins σ H { s with heap := h', toks := s.toks + 1 } := I.turned (fun b o hb eo => (sb.2 b hb).trans eo) a0 a1 a3 a4 a5
    obtain ⟨o, eo, co, dd⟩ := id st'
    exact ⟨_, rfl, go_of (s := { s with heap := h', toks := s.toks + 1 }) eo co dd (by decide) ⟨.str ⟨#[y.cps[i]]⟩, H, I1, ⟨_, rfl⟩, ⟨rfl, _, by simp [hlt], rfl⟩, st', fun b hb => (hf b hb).1⟩⟩
  done := by
    intro X hP hw hK hc i pins s σ H E I hf st hg
    subst hP hw hK
    have hge : y.cps.size ≤ i := hg
    obtain ⟨a0, a1, _, a3, a4, a5⟩ := hf it (List.mem_singleton.mpr rfl)
    exact wpAny_pyNext_ascii_end (I.ok.hd hc) st (by simp [hge]) fun h' eb => ⟨rfl, I.turned (t' := s.toks) (fun b o hb eo => eb b o hb eo) a0 a1 a3 a4 a5⟩
  self := fun _ _ _ _ _ st h => wpAny_pyIter_striter_ascii st h
noncomputable def iStr (te : TE) : TI := fun σ H R => te σ H fun x H1 => ∃ y, x = .str y ∧ y.cps.all (· < 128) = true ∧ R (Its y) H1
section
variable {X : Cx} {tg : Expr}
theorem pi_str {l : Expr} {tl : TE} (hl : PE X l tl) : PI X tg l (iStr tl) := by
  intro pins s σ H R I h
  refine thn (hl pins s σ H _ I h) fun v s1 hh9 => ?_
  obtain ⟨x, H1, I1, r1, y, ey, ha, q⟩ := hh9
  subst ey
  obtain ⟨t, rfl⟩ := r1
  refine wpAny_pyIter_ascii ha ?_
  refine ⟨s1.heap.objs.size, [s1.heap.objs.size], _, Its y, H1, rfl, I1.kept (t' := s1.toks) fun b o eo => Heap.get?_push_of_some _ eo, turn_str y t _, ⟨_, Heap.get?_push_size _ rfl, rfl, rfl⟩, fun b hb => ?_, q⟩
  obtain rfl : b = s1.heap.objs.size := List.mem_singleton.mp hb
  exact I1.fpOk (Nat.le_refl _) (I1.hok.fresh (Nat.le_refl _))
end
section
variable {n0 : Nat} {g : Cz → TG} {tt : Cz → TT} {te : Cz → TE} {σ : St} {Q : VK} {H1 : Hp}
theorem w_istr {t : TE} {H : Hp} {R : It → Hp → Prop} (h : t σ H fun x H1 => ∃ y, x = .str y ∧ y.cps.all (· < 128) = true ∧ R (Its y) H1) : iStr t σ H R := h
theorem comp_str {y : Str} (Pv : Addr → Nat → St → Hp → Prop) (h0 : ∀ p, H1 p = none → Pv p 0 (σ ++ List.replicate n0 none) (upd H1 p (.lst [])))
    (hs : ∀ p z i c σ H, H1 p = none → y.cps[i]? = some c → Pv p i σ H → g z (.str ⟨#[c]⟩) σ H fun σ3 H3 => tt z σ3 H3 fun b H4 =>
      if b = true then te z σ3 H4 fun v H5 => ∃ ys, H5 p = some (.lst ys) ∧ ys.length < sizeLine ∧ Pv p (i + 1) σ3 (upd H5 p (.lst (ys ++ [v]))) else Pv p (i + 1) σ3 H4)
    (hd : ∀ p σ H, H1 p = none → Pv p y.cps.size σ H → Q (.ref p) H) : CompR n0 g tt te σ Q (Its y) H1 := by
  intro p hp
  refine ⟨fun i m σ H => m = y.cps.size - i ∧ i ≤ y.cps.size ∧ Pv p i σ H, ⟨y.cps.size, rfl, Nat.zero_le _, h0 p hp⟩, ?_⟩
  rintro z i m σ2 H ⟨rfl, hi, pv⟩
  by_cases hlt : i < y.cps.size
  · refine .inr ⟨hlt, Pv p (i + 1), fun σ' H' p' => ⟨y.cps.size - (i + 1), by omega, rfl, hlt, p'⟩, fun x H' yl => ?_⟩
    obtain ⟨e1, c, hc, e2⟩ := yl
    subst e1 e2
    exact hs p z i c σ2 _ hp hc pv
  · obtain rfl : i = y.cps.size := by omega
    exact .inl ⟨Nat.le_refl _, hd p σ2 H hp pv⟩
end

theorem vals_strs : ∀ l : List (Str × Tok), Vals ((l.map (·.1)).map V.str) (strValues l)
  | [] => .nil
  | p :: r => .cons ⟨p.2, rfl⟩ (vals_strs r)
noncomputable def rSplit : V → List V → Hp → VK → Prop := fun x xs H Q => ∃ y z : Str, x = .str y ∧ xs = [.str z] ∧ (z.length == 0) = false ∧ y.length + 2 ≤ sizeLine ∧ ∀ p, H p = none → Q (.ref p) (upd H p (.lst ((Txt.split y z).map V.str)))
open Builtin.Str in
theorem mt_split {X : Cx} : MtR X "str.split" rSplit := by
  intro pins s σ H x xs v us Q I rx rv h
  obtain ⟨y, z, rfl, rfl, hz, hsz, q⟩ := h
  obtain ⟨t, rfl⟩ := rx
  obtain ⟨u0, rfl, ru⟩ := vals1 rv
  obtain ⟨u, rfl⟩ := ru
  have fin : ∀ (l : List (Str × Tok)) (k : Nat), l.map (·.1) = Txt.split y z → EP X pins σ Q (.ref s.heap.objs.size) { s with heap := s.heap.push { cls := .type "list", data := .seq (strValues l).toArray }, toks := k } := fun l k el => by
    have hv := vals_strs l
    rw [el] at hv
    have hl : (Txt.split y z).length ≤ y.length + 2 := split_le y z
    refine ⟨.ref s.heap.objs.size, _, I.laid (t' := k) (fun b o eo => Heap.get?_push_of_some _ eo) (Nat.le_refl _) (show ObjOk X.prog X.w _ _ _ (.lst ((Txt.split y z).map V.str)) from ⟨by rw [List.length_map]; omega, strValues l, 0, hv, Heap.get?_push_size _ rfl⟩), rfl, q _ (I.hok.fresh (Nat.le_refl _))⟩
  have hn : (partsBetween y (occurrences y z 0 y.length (y.length + 1)) z.length).length ≤ sizeLine := by
    have := StrLaws.occ_length_le y z 0 y.length (y.length + 1)
    rw [length_partsBetween]
    omega
  by_cases h1 : (decide (y.length < z.length) || decide (strKind y < strKind z)) = true
  · exact call_meets F.slot_str_split (typeIs_str _ _ _) F.entry_str_split (F.args_str_split_2 _ _) (meets_str_split_cannot_occur y z t u h1) (fin [(y, t)] s.toks (if_pos h1).symm)
  · have h1' : (decide (y.length < z.length) || decide (strKind y < strKind z)) = false := by simpa using h1
    by_cases hf : (occurrences y z 0 y.length (y.length + 1)).isEmpty = true
    · exact call_meets F.slot_str_split (typeIs_str _ _ _) F.entry_str_split (F.args_str_split_2 _ _) (meets_str_split_not_found y z t u h1' hz hf) (fin [(y, t)] s.toks ((if_neg h1).trans (if_pos hf)).symm)
    · have hf' : (occurrences y z 0 y.length (y.length + 1)).isEmpty = false := by simpa using hf
      refine call_meets F.slot_str_split (typeIs_str _ _ _) F.entry_str_split (F.args_str_split_2 _ _) (meets_str_split_sep y z t u h1' hz hf' (by omega) hn) ?_
      have := fin (numbered s.toks (partsBetween y (occurrences y z 0 y.length (y.length + 1)) z.length)) (s.toks + (partsBetween y (occurrences y z 0 y.length (y.length + 1)) z.length).length) ((numbered_texts _ _).trans ((if_neg h1).trans (if_neg hf)).symm)
      rw [← strsFrom_eq] at this
      exact this

theorem call_intS {X : Cx} : CallR X (.type "int") (fun xs H Q => ∃ n : Int, xs = [.str (Str.ofString (toString n))] ∧ 0 ≤ n ∧ n < 10 ^ 10 ∧ Q (.int n) H) := by
  intro pins s σ H xs us Q I r h
  obtain ⟨n, rfl, h0, h1, q⟩ := h
  obtain ⟨u, rfl, ru⟩ := vals1 r
  obtain ⟨t, rfl⟩ := ru
  exact PySem.W.KIN.call_num h0 h1 ⟨.int n, H, I.tok _, ⟨_, rfl⟩, q⟩

end L2

set_option maxHeartbeats 1000000

namespace Hw
open PySem L2 HwSort
theorem app_cons_inj {c : Nat} : ∀ {a b x y : List Nat}, c ∉ a → c ∉ b → a ++ c :: x = b ++ c :: y → a = b ∧ x = y
  | [], [], x, y, _, _, e => by
    simp at e
    exact ⟨rfl, e⟩
  | [], d :: b, x, y, _, hb, e => by
    simp at e
    exact absurd (e.1 ▸ List.mem_cons_self) hb
  | d :: a, [], x, y, ha, _, e => by
    simp at e
    exact absurd (e.1 ▸ List.mem_cons_self) ha
  | d :: a, d' :: b, x, y, ha, hb, e => by
    rw [List.cons_append, List.cons_append, List.cons.injEq] at e
    obtain ⟨h1, h2⟩ := app_cons_inj (fun z => ha (List.mem_cons_of_mem _ z)) (fun z => hb (List.mem_cons_of_mem _ z)) e.2
    exact ⟨by rw [e.1, h1], h2⟩
theorem str_list {a b : Str} (h : a.cps.toList = b.cps.toList) : a = b := Str.ext' (Array.toList_inj.mp h)
theorem join_two (c : Nat) (p q : Str) (r : List Str) : (Str.join ⟨#[c]⟩ (p :: q :: r)).cps.toList = p.cps.toList ++ c :: (Str.join ⟨#[c]⟩ (q :: r)).cps.toList := by
  show (p ++ ⟨#[c]⟩ ++ Str.join ⟨#[c]⟩ (q :: r)).cps.toList = _
  rw [Str.cps_append, Str.cps_append]
  simp
theorem join_inj {c : Nat} : ∀ {ps qs : List Str}, ps ≠ [] → qs ≠ [] → (∀ p ∈ ps, c ∉ p.cps.toList) → (∀ q ∈ qs, c ∉ q.cps.toList) → Str.join ⟨#[c]⟩ ps = Str.join ⟨#[c]⟩ qs → ps = qs
  | [], _, h, _, _, _, _ => absurd rfl h
  | _, [], _, h, _, _, _ => absurd rfl h
  | [p], [q], _, _, _, _, e => by
    have e' : p = q := e
    rw [e']
  | [p], q :: q' :: s, _, _, hp, _, e => by
    have e' : p.cps.toList = (Str.join ⟨#[c]⟩ (q :: q' :: s)).cps.toList := congrArg (fun x : Str => x.cps.toList) e
    rw [join_two] at e'
    exact absurd (e' ▸ List.mem_append_right _ List.mem_cons_self) (hp p List.mem_cons_self)
  | p :: p' :: r, [q], _, _, _, hq, e => by
    have e' : (Str.join ⟨#[c]⟩ (p :: p' :: r)).cps.toList = q.cps.toList := congrArg (fun x : Str => x.cps.toList) e
    rw [join_two] at e'
    exact absurd (e' ▸ List.mem_append_right _ List.mem_cons_self) (hq q List.mem_cons_self)
  | p :: p' :: r, q :: q' :: s, _, _, hp, hq, e => by
    have e' := congrArg (fun x : Str => x.cps.toList) e
    have e' : (Str.join ⟨#[c]⟩ (p :: p' :: r)).cps.toList = (Str.join ⟨#[c]⟩ (q :: q' :: s)).cps.toList := e'
    rw [join_two, join_two] at e'
    obtain ⟨h1, h2⟩ := app_cons_inj (hp p List.mem_cons_self) (hq q List.mem_cons_self) e'
    have ih := join_inj (ps := p' :: r) (qs := q' :: s) (by simp) (by simp) (fun x hx => hp x (List.mem_cons_of_mem _ hx)) (fun x hx => hq x (List.mem_cons_of_mem _ hx)) (str_list h2)
    rw [str_list h1, ih]
theorem split_join {c : Nat} {ps : List Str} (h0 : ps ≠ []) (hp : ∀ p ∈ ps, c ∉ p.cps.toList) : Txt.split (Str.join ⟨#[c]⟩ ps) ⟨#[c]⟩ = ps := by
  refine join_inj ?_ h0 (StrLaws.split_free _ c) hp (StrLaws.join_split _ _)
  intro z
  have := PyProof.Rows.split_pos (Str.join ⟨#[c]⟩ ps) ⟨#[c]⟩
  rw [z] at this
  exact absurd this (by decide)
theorem blank_eq : (" " : Str) = ⟨#[32]⟩ := by decide +kernel
theorem nl_eq : ("\n" : Str) = ⟨#[10]⟩ := by decide +kernel
theorem num_signs {n : Int} (h0 : 0 ≤ n) : ∀ c ∈ (Str.ofString (toString n)).cps.toList, 48 ≤ c ∧ c ≤ 57 := by
  obtain ⟨m, rfl⟩ := Int.eq_ofNat_of_zero_le h0
  intro c hc
  rw [PySem.W.KIN.signs_num] at hc
  obtain ⟨ch, hch, e⟩ := List.mem_map.mp hc
  rw [← e]
  exact PyProof.Rows.digit_range (Nat.isDigit_of_mem_toDigits (by decide) (by decide) hch)
theorem num_free {n : Int} {c : Nat} (h0 : 0 ≤ n) (hc : c < 48) : c ∉ (Str.ofString (toString n)).cps.toList := fun z => by
  have := num_signs h0 c z
  omega
theorem num_pos {n : Int} (h0 : 0 ≤ n) : 1 ≤ (Str.ofString (toString n)).length := PySem.W.KLn.one_le h0
theorem mem_app {a b : Str} {c : Nat} : c ∈ (a ++ b).cps.toList ↔ c ∈ a.cps.toList ∨ c ∈ b.cps.toList := by
  rw [Str.cps_append]
  simp
theorem head_words (n : Int) : headS n = Str.join " " [("tellers" : Str), Str.ofString (toString n)] := by
  show _ = ("tellers" : Str) ++ " " ++ Str.ofString (toString n)
  have h1 : ("tellers " : Str) = "tellers" ++ " " := by decide +kernel
  unfold headS
  rw [h1]
theorem head_split {n : Int} (h0 : 0 ≤ n) : Txt.split (headS n) " " = [("tellers" : Str), Str.ofString (toString n)] := by
  rw [head_words, blank_eq]
  refine split_join (by simp) fun p hp => ?_
  simp only [List.mem_cons, List.not_mem_nil, or_false] at hp
  rcases hp with rfl | rfl
  · decide +kernel
  · exact num_free h0 (by decide)
theorem line_free {e : Pr × Int} (h : RowIn e) : 10 ∉ (lineS e).cps.toList := by
  have h1 : 10 ∉ (" to " : Str).cps.toList := by decide +kernel
  have h2 : 10 ∉ (" costs " : Str).cps.toList := by decide +kernel
  unfold lineS
  simp only [mem_app]
  rintro ((((z | z) | z) | z) | z)
  · exact num_free h.1.1 (by decide) z
  · exact h1 z
  · exact num_free h.2.1.1 (by decide) z
  · exact h2 z
  · exact num_free h.2.2.1 (by decide) z
theorem head_free {n : Int} (h0 : 0 ≤ n) : 10 ∉ (headS n).cps.toList := by
  have h1 : 10 ∉ ("tellers " : Str).cps.toList := by decide +kernel
  unfold headS
  simp only [mem_app]
  rintro (z | z)
  · exact h1 z
  · exact num_free h0 (by decide) z
theorem text_split {n : Int} {cs : Cs} (h0 : 0 ≤ n) (hr : ∀ e ∈ cs, RowIn e) : Txt.split (textS n cs) "\n" = headS n :: cs.map lineS := by
  rw [← text_join, nl_eq]
  refine split_join (by simp) fun p hp => ?_
  rcases List.mem_cons.mp hp with rfl | hp
  · exact head_free h0
  · obtain ⟨e, he, rfl⟩ := List.mem_map.mp hp
    exact line_free (hr e he)
theorem figures_has : ∀ c, 48 ≤ c → c ≤ 57 → (!(Builtin.Str.occurrences ("0123456789" : Str) ⟨#[c]⟩ 0 ("0123456789" : Str).length 1).isEmpty) = true := by
  intro c h1 h2
  have : ∀ c, c < 58 → 48 ≤ c → (!(Builtin.Str.occurrences ("0123456789" : Str) ⟨#[c]⟩ 0 ("0123456789" : Str).length 1).isEmpty) = true := by decide +kernel
  exact this c (by omega) h1
theorem num_ascii {n : Int} (h0 : 0 ≤ n) : (Str.ofString (toString n)).cps.all (· < 128) = true := by
  rw [Array.all_eq_true_iff_forall_mem]
  intro c hc
  have := num_signs h0 c (Array.mem_toList_iff.mpr hc)
  exact decide_eq_true (by omega)
structure IsBk (K : PySem.W.Frag) (C : Addr) : Prop where
  ha : PySem.W.findIn K (.ref C) "__class__" = some (some (.builtin "object.__class__"))
  hn : PySem.W.specialIn K (.builtin "object.__class__") "__get__" = some (some (.builtin "getset_descriptor.__get__"))
  htk : PySem.W.takesIn K (.builtin "object.__class__") = some true
  hm : PySem.W.mroIn K C (.type "object") = some true
theorem BookAt.ty {K : PySem.W.Frag} {C : Addr} {H : Hp} {p d : Addr} {n : Int} {cs : Cs} (B : BookAt C H p d n cs) (cl : Cls K C) (ib : IsBk K C) : TyOf K H (.ref p) (.ref C) := by
  obtain ⟨dx, h⟩ := B.ob
  exact .ins h cl ib.ha ib.hn ib.htk ib.hm
structure TxtN (mg : Str → Option Value) : Prop where
  g_MOST_COST : ∃ t, mg "MOST_COST" = some (.int 1000000 t)
  g_MOST_FIGURES : ∃ t, mg "MOST_FIGURES" = some (.int 7 t)
  g_FIGURES : ∃ t, mg "FIGURES" = some (.str "0123456789" t)
inductive sp_number (vs : List V) (H : Hp) (Q : VK) (E : XK) : Prop
  | mk (n : Int) (h09 : vs = [.str (Str.ofString (toString n))]) (h19 : 0 ≤ n) (h29 : n ≤ 1000000) (h39 : ∀ H', Same H H' → Q (.int n) H') : sp_number vs H Q E
inductive sp_words (vs : List V) (H : Hp) (Q : VK) (E : XK) : Prop
  | mk (line : Str) (k : Int) (ws : List Str) (h09 : vs = [.str line, .int k]) (h19 : Txt.split line " " = ws) (h29 : (ws.length : Int) = k) (h39 : line.length ≤ 1000) (h49 : ∀ p H', Same H H' → H p = none → H' p = some (.lst (ws.map V.str)) → Q (.ref p) H') : sp_words vs H Q E
end Hw

set_option maxHeartbeats 1000000

namespace L2
open PySem PySem.Spec
theorem entry_unchain : entryFor table "proto.unchain" = some Builtin.«proto.unchain» := entryFor_of_fast (by kernel_rfl)
theorem plain_unchain : plainId "proto.unchain" = true := by decide +kernel
section
variable {prog : Program} {w : World} {A : Around} {E : Value → Shared → Prop} {s : Shared} {a e : Addr} {oa : Obj} {va : Array Value}
theorem unchain_none {v : Value} {Q : Value → Shared → Prop} (ho : s.heap.get? a = some oa) (hd : oa.data = .fields va) (h2 : va[2]? = some .none) (h : Q .none s) :
    wpAny (model prog w) A (runValue (.builtin "proto.unchain" ⟨[v, .ref a, .ref a, .bool false], []⟩)) Q E s := by
  refine wpAny_runValue (codeAny_builtin entry_unchain ?_)
  rw [Around.under_plainId plain_unchain _]
  unfold Builtin.«proto.unchain»
  dsimp only
  refine wpAny_bind (wpAny_field ho hd h2 ?_)
  rw [if_pos (by decide)]
  first | exact wpAny_pure h | exact wpAny_bind (wpAny_pure (wpAny_pure h))
theorem raiseNew_in {α : Type} {oe : Obj} {ve : Array Value} {Q : α → Shared → Prop} (hh : A.handled = some (.ref a)) (hne : a ≠ e) (ho : s.heap.get? a = some oa) (hd : oa.data = .fields va) (h2 : va[2]? = some .none)
    (he : s.heap.get? e = some oe) (hde : oe.data = .fields ve) (hz : 2 < ve.size) (h : E (.ref e) { s with heap := s.heap.update e (Obj.mapFields (·.setIfInBounds 2 (.ref a))) }) : wpAny (model prog w) A (raiseNew (.ref e) : Sem α) Q E s := by
  unfold raiseNew
  refine wpAny_bind (wpAny_handled ?_)
  rw [hh]
  dsimp only
  rw [if_pos (show (Value.ref a != Value.ref e) = true from bne_iff_ne.mpr fun z => hne (Value.ref.inj z))]
  refine wpAny_bind (wpAny_holding (unchain_none ho hd h2 (wpAny_bind ?_)))
  show wpAny _ _ (setField (.ref e) 2 (.ref a)) _ _ _
  exact wpAny_setField he hde hz (wpAny_throw h)
end
section
variable {prog : Program} {w : World} {M : Model} {A : Around} {E : Value → Shared → Prop} {h : Heap} {g : Array GenState} {d : Drawn} {t : Nat} {os : OsState}
variable {nm q : Str} {C N : Addr} {bs bm : List Value} {hdct : Bool} {sn : List Str} {sub : List Value} {ab : Bool} {col : Option Bool} {dd : Option Addr} {k0 k1 k2 k3 k5 : Option Value} {newId : String}
theorem excFrom_own {e : Addr} {dt : Option Addr} {ve : Array Value} {sl : Array (Option Value)} {msg : String} {Q : Value → Shared → Prop} (hbase : bm.contains (.type "BaseException") = true) (hC : h.get? C = some (excClassObj nm q C N bs bm hdct sn sub ab col dd k0 k1 k2 k3 k5 newId))
    (he : h.get? e = some { cls := .ref C, dict := dt, data := .fields ve, slots := sl }) (hq : Q (.ref e) ⟨h, g, d, t, os⟩) : wpAny M A (excFromValue (.ref e) msg) Q E ⟨h, g, d, t, os⟩ := by
  have hcB : (Value.ref C :: bm).contains (.type "BaseException") = true := by rw [List.contains_cons, hbase, Bool.or_true]
  unfold excFromValue
  repeat (first | with_reducible refine wpAny_loadPart_at he ?_ | with_reducible refine wpAny_loadPart_at hC ?_ | (with_reducible refine wpAny_isSubtype_exc hC ?_; rw [hcB]) | wp_step)
  exact hq
theorem isType_own {e : Addr} {dt : Option Addr} {ve : Array Value} {sl : Array (Option Value)} {cls : Value} {Q : Bool → Shared → Prop} (he : h.get? e = some { cls := cls, dict := dt, data := .fields ve, slots := sl }) (hq : Q false ⟨h, g, d, t, os⟩) : wpAny M A (isType (.ref e)) Q E ⟨h, g, d, t, os⟩ := by
  repeat (first | with_reducible refine wpAny_loadPart_at he ?_ | wp_step)
  exact hq
theorem raisedInst_own {e : Addr} {dt : Option Addr} {ve : Array Value} {sl : Array (Option Value)} {Q : Value → Shared → Prop} (hC : h.get? C = some (excClassObj nm q C N bs bm hdct sn sub ab col dd k0 k1 k2 k3 k5 newId))
    (he : h.get? e = some { cls := .ref C, dict := dt, data := .fields ve, slots := sl }) (hq : Q (.ref e) ⟨h, g, d, t, os⟩) : wpAny M A (raisedInstance (.ref e)) Q E ⟨h, g, d, t, os⟩ := by
  unfold raisedInstance
  repeat (first | with_reducible refine wpAny_loadPart_at he ?_ | with_reducible refine wpAny_loadPart_at hC ?_ | wp_step)
  exact hq
end

noncomputable def ExC (h : Heap) (C : Addr) : Prop := ∃ nm q N bs bm hdct sn sub ab col dd k0 k1 k2 k3 k5 newId, h.get? C = some (excClassObj nm q C N bs bm hdct sn sub ab col dd k0 k1 k2 k3 k5 newId) ∧ bm.contains (.type "BaseException") = true
theorem upd_fields {h : Heap} {e : Addr} {cls : Value} {dt : Option Addr} {ve : Array Value} {sl : Array (Option Value)} (i : Nat) (x : Value) (he : h.get? e = some { cls := cls, dict := dt, data := .fields ve, slots := sl }) :
    (h.update e (Obj.mapFields (·.setIfInBounds i x))).get? e = some { cls := cls, dict := dt, data := .fields (ve.setIfInBounds i x), slots := sl } :=
  Heap.get?_update_self (Obj.mapFields (·.setIfInBounds i x)) he rfl
section
variable {prog : Program} {w : World} {A : Around} {E : Value → Shared → Prop} {s : Shared}
theorem raiseStmt_from {x c : Sem Value} {env : Env} {a D C : Addr} {oa : Obj} {va : Array Value} {Q : Flow → Shared → Prop} (hh : A.handled = some (.ref a)) (hac : oa.cls = .ref C) (hda : oa.data = .fields va) (h2 : va[2]? = some .none)
    (h : wpAny (model prog w) A x (fun v s₁ => ∃ e t, v = .ref e ∧ a ≠ e ∧ C ≠ e ∧ D ≠ e ∧ ExC s₁.heap D ∧ ExC s₁.heap C ∧ s₁.heap.get? a = some oa ∧ s₁.heap.get? e = some { cls := .ref D, data := .fields #[.ref t, .none, .none, .none, .bool false, .none] } ∧
      wpAny (model prog w) A c (fun u s₂ => u = .ref a ∧ s₂ = s₁) E s₁ ∧
      ∀ h' o vs, (∀ b, b ≠ e → h'.get? b = s₁.heap.get? b) → h'.get? e = some o → o.cls = .ref D → o.data = .fields vs → vs[0]? = some (.ref t) → vs[1]? = some .none → vs[2]? = some (.ref a) → E (.ref e) { s₁ with heap := h' }) E s) :
    wpAny (model prog w) A (raiseStmt env (some x) (some c)) Q E s := by
  unfold raiseStmt
  refine wpAny_bind (wpAny_mono h (fun v s₁ h₁ => ?_) fun _ _ z => z)
  obtain ⟨e, t, rfl, hae, hCe, hDe, ⟨nm, q, N, bs, bm, hdct, sn, sub, ab, col, dd, k0, k1, k2, k3, k5, newId, hD, hDb⟩, ⟨nm', q', N', bs', bm', hdct', sn', sub', ab', col', dd', k0', k1', k2', k3', k5', newId', hC, hCb⟩, ha, he, hc, hE⟩ := h₁
  obtain ⟨acls, adt, adata, asl⟩ := oa
  dsimp only at hac hda
  subst hac hda
  obtain ⟨hp, g, d, tk, os⟩ := s₁
  dsimp only at hD hC ha he hE
  refine wpAny_bind (wpAny_holding (wpAny_mono hc (fun u s₂ h₂ => wpAny_bind (wpAny_pure ?_)) fun _ _ z => z))
  obtain ⟨rfl, rfl⟩ := h₂
  refine wpAny_bind (wpAny_holding (excFrom_own hDb hD he ?_))
  dsimp only
  have he1 := upd_fields 3 (.ref a) he
  have he2 := upd_fields 4 (.bool true) he1
  have o1 : ∀ b, b ≠ e → (hp.update e (Obj.mapFields (·.setIfInBounds 3 (.ref a)))).get? b = hp.get? b := fun b hb => Heap.get?_update_other _ _ (Ne.symm hb)
  have o2 : ∀ b, b ≠ e → ((hp.update e (Obj.mapFields (·.setIfInBounds 3 (.ref a)))).update e (Obj.mapFields (·.setIfInBounds 4 (.bool true)))).get? b = hp.get? b := fun b hb => (Heap.get?_update_other _ _ (Ne.symm hb)).trans (o1 b hb)
  rw [if_neg (show ¬ ((Value.ref a == Value.none) = true) from fun z => by cases beq_iff_eq.mp z)]
  refine wpAny_bind (wpAny_holding (excFrom_own hCb hC ha ?_))
  refine wpAny_bind (wpAny_setField he rfl (by simp) ?_)
  refine wpAny_bind (wpAny_setField he1 rfl (by simp) ?_)
  refine wpAny_bind (isType_own he2 ?_)
  rw [if_neg Bool.false_ne_true]
  refine wpAny_bind (raisedInst_own ((o2 D hDe).trans hD) he2 ?_)
  refine wpAny_bind ?_
  unfold setFlight
  refine wpAny_bind (wpAny_field he2 rfl (x := .none) rfl ?_)
  rw [if_neg (by decide)]
  refine wpAny_pure ?_
  refine raiseNew_in hh hae ((o2 a hae).trans ha) rfl h2 he2 rfl (by simp) ?_
  exact hE _ _ _ (fun b hb => (Heap.get?_update_other _ _ (Ne.symm hb)).trans (o2 b hb)) (upd_fields 2 (.ref a) he2) rfl rfl rfl rfl rfl
end
end L2

set_option maxHeartbeats 1000000

namespace L2
open PySem PySem.Spec PyProof.Rows


noncomputable def HeldX (X : Cx) (E : XK) : Prop := ∀ (pins : List (Addr × Obj)) (σ : St) (H : Hp) (s : Shared) (h' : Heap) (e D : Addr) (a0 : Value) (d : Option Addr) (B : Heap), Inv X pins σ H s → FlyC B X.stack e (.ref D) a0 (ctxV d) (rawInt X.env.locals) h' → s.heap.UpToSlots h' → Bk X.fs H X.s₀.heap s.heap B →
  H e = none → X.s₀.heap.get? e = none → E (.ref D) d H → X.xe (.ref e) { s with heap := h' }
section
variable {P : Program} {w : World} {K : PySem.W.Frag} {mg : Str → Option Value} {base : Heap} {N : List Str} {qual : Str} {scope : Scope} {f : Addr} {cd : Value} {A : Around} {outer : List Env} {s : Shared} {H : Hp} {E : XK}
theorem heldX : HeldX (cxOf (CXF P w) P w K mg base N qual scope f cd A outer s H E) E := by
  intro pins σ H1 s1 h' e D a0 d B I x sm bk free new q
  refine leaveC_held rfl x fun h2 f1 sm2 => ⟨e, D, B, a0, d, H1, rfl, ?_, q⟩
  have hb : Un (frs outer) [] H H1 s.heap s1.heap := I.base
  have F0 := I.frames0
  have nf : ∀ b ∈ frs outer, H1 b = none := fun b hb' => by
    obtain ⟨o, e⟩ := F0.th b hb'
    exact hb.free b o e (F0.frf b hb') (by simp)
  exact ⟨I.os, I.bare, f1, hb.onB bk f1.1 (sm.trans sm2) F0.frf F0.fnf, I.hok.onB bk f1.1 nf, free, new, bk.onB I.hok (fun b u e => hb.there b u e (by simp)) f1.1⟩
end
section
variable {X : Cx} {pins : List (Addr × Obj)} {σ : St} {H : Hp} {s : Shared} {h' : Heap}

theorem Inv.noted (I : Inv X pins σ H s) (st : (PySem.W.hideAll s.heap (frs X.stack)).StaysIn h') (sm : s.heap.UpToSlots h') : Inv X pins σ H { s with heap := h' } := by
  have bk : Bk (frs X.stack) H s.heap s.heap (PySem.W.hideAll s.heap (frs X.stack)) := fun b o e hb _ => PySem.W.hideAll_get _ e hb
  have F0 := I.frames
  refine I.call (g' := s.gens) (d' := s.drawn) (t' := s.toks) (ch := []) ⟨fun b o e n hb _ => st b o (PySem.W.hideAll_get _ e hb), fun b o e n hb _ => sm b o e (F0.fnf b hb o e), fun b o e n _ => n, fun b o e _ => ?_, fun _ _ e => e, fun _ _ _ e => e, fun b ps e => ⟨#[], by rw [e]; simp⟩⟩ (I.hok.onB bk st I.stkFree) I.bare fun b z => absurd z (by simp)
  by_cases hb : b ∈ frs X.stack
  · obtain ⟨sl, q⟩ := sm b o e (F0.fnf b hb o e)
    exact ⟨_, q⟩
  · exact ⟨o, st b o (PySem.W.hideAll_get _ e hb)⟩
theorem exC_of {K : PySem.W.Frag} {h : Heap} {C : Addr} (X : K.In h) (x : XCls K C) : ExC h C := by
  obtain ⟨bm, N, nm, q, bs, hdct, sn, sub, ab, col, dd, k0, k1, k2, k3, k5, mN, hC, hN, hni, TL⟩ := exc_obj X x.exc
  exact ⟨nm, q, N, bs, bm, hdct, sn, sub, ab, col, dd, k0, k1, k2, k3, k5, _, hC, TL.hasType (by decide)⟩
end

theorem PS.nox {X : Cx} {st : Stmt} {t : TS} (h : PS X.nox st t) : PS X st t := fun pins s σ H D I hw =>
  wpAny_mono (h pins s σ H D (I.wish _) hw) (fun _ _ q => q.unwish) fun _ _ z => False.elim z

noncomputable def tTryFrom (K : PySem.W.Frag) (ds : List Value) (D : Addr) (i : Nat) (E : St → XK) (E' : XK) (t : TS) (ta : TA) : TS := fun Dn σ H => t Dn σ H ∧ ∀ σ' c d H', σ'.length = σ.length → E σ' c d H' → d = none ∧ ∃ C, c = .ref C ∧ XCls K C ∧ PySem.W.exmAny K (.ref C) ds = some true ∧
  ∀ a, H' a = none → ta (σ'.set i (some (.ref a))) H' fun xs H1 => xs.length ≤ sizeLine ∧ E' (.ref D) (some a) H1
section
variable {X : Cx} {body : List Stmt} {x n x1 x2 x3 x4 : Str} {D D1 D2 D3 D4 : Addr} {i kk : Nat} {t : TS} {ta : TA} {E : St → XK} {E' : XK} {np cpos ep rp hp tp p1 p2 p3 p4 pos : Pos} {e0 : Expr} {es : List Expr}
theorem ps_tryFrom (xD : XCls X.K D) (hm : X.mg x = some (.ref D)) (m1 : X.mg x1 = some (.ref D1)) (m2 : X.mg x2 = some (.ref D2)) (m3 : X.mg x3 = some (.ref D3)) (m4 : X.mg x4 = some (.ref D4)) (hst : X.stack = X.env :: X.outer) (hf : X.env.frame = some X.env.locals) (hex : X.ex = []) (hH : HeldX X E')
    (hb : ∀ (F : Value → Shared → Prop) (pn : List (Addr × Obj)), PassesX (X.tryx F pn) E → PSs (X.tryx F pn) body t) (ha : ∀ e, PA (X.inexc e) (e0 :: es) ta) (hN : X.N.Nodup) (hi : X.N[i]? = some n) (hk : X.env.kindOf n = some .local)
    (hg : Gl X x := by rfl) (g1 : Gl X x1 := by rfl) (g2 : Gl X x2 := by rfl) (g3 : Gl X x3 := by rfl) (g4 : Gl X x4 := by rfl) (hdb : (x == ("__debug__" : Str)) = false := by decide) (b1 : (x1 == ("__debug__" : Str)) = false := by decide) (b2 : (x2 == ("__debug__" : Str)) = false := by decide) (b3 : (x3 == ("__debug__" : Str)) = false := by decide) (b4 : (x4 == ("__debug__" : Str)) = false := by decide) (bn : (n == ("__debug__" : Str)) = false := by decide) (bc : (n == ("__classdict__" : Str)) = false := by decide)
    (he : starEach (e0 :: es) X.env = (false, eval e0 X.env) :: starEach es X.env := by rfl) (hpl : (backTo cpos (starEach es X.env)).any (·.1) = false := by rfl) :
    PS X (.Try body [.ExceptHandler (some (.Tuple [.Name x1 p1, .Name x2 p2, .Name x3 p3, .Name x4 p4] kk tp)) (some n) [.Raise (some (.Call (.Name x np) (e0 :: es) [] cpos)) (some (.Name n ep)) rp] hp] [] [] pos) (tTryFrom X.K [.ref D1, .ref D2, .ref D3, .ref D4] D i E E' t ta) := by
  intro pins s σ H Dn I h
  obtain ⟨h1, h2⟩ := h
  refine wpAny_Try_except ?_
  refine wpAny_mono (hb _ pins ?_ [] s σ H Dn I.tryx h1) (fun f s1 q => ?_) fun e s1 q => q
  · rintro pins' σ' H1 s1 e s' I1' ⟨a, C, B, a0, d, H', rfl, F, q⟩
    have I1 : Inv X pins σ' H1 s1 := I1'.untryx
    have F1 : Fly X.prog X.w X.stack H1 s1 a C B a0 d H' s' := F
    obtain ⟨rfl, C', ec, xC, hx, k⟩ := h2 σ' _ _ _ (I1.len.trans I.len.symm) q
    cases ec
    have hfr := F1.free
    have hA : X.A.frames = some (X.env :: X.outer) := hst ▸ I.ok.frames
    show wpAny _ X.A (noteFrame (.ref a) X.env) _ _ s'
    refine noteC_next (L := X.env.locals) hA hf (hst ▸ F1.fly) fun h4 held4 sm4 => ?_
    refine flightC (s := { s' with heap := h4 }) (fr := none) held4 fun h5 fly5 sm5 => ?_
    have F5 := F1.on I1.frames (hst ▸ fly5) (sm4.trans sm5)
    have J5 := I1.flown F5
    -- the tuple of classes
    refine wpAny_handleBy_cons (codeAny_handlers_test ?_) (by intro q; cases q)
    refine wpAny_Tuple ?_
    refine wpAny_items_cons (ld_glob (X := X.inexc (.ref a)) (J5.inexc (e := .ref a)) g1 m1 ?_ b1)
    refine wpAny_items_cons (ld_glob (X := X.inexc (.ref a)) (J5.inexc (e := .ref a)) g2 m2 ?_ b2)
    refine wpAny_items_cons (ld_glob (X := X.inexc (.ref a)) (J5.inexc (e := .ref a)) g3 m3 ?_ b3)
    refine wpAny_items_cons (ld_glob (X := X.inexc (.ref a)) (J5.inexc (e := .ref a)) g4 m4 ?_ b4)
    refine wpAny_items_nil ⟨by size_fits, ?_⟩
    have kp : ∀ q o, h5.get? q = some o → (h5.push { cls := .type "tuple", data := .seq [Value.ref D1, .ref D2, .ref D3, .ref D4].toArray }).get? q = some o := fun _ _ z => Heap.get?_push_of_some _ z
    have ex5 : ExcAt a C h5 := F5.fly.there
    refine (PySem.W.exm_tup4 (J5.kIn.keeps kp) ((ex5.type).keeps kp) (Heap.get?_push_size h5 rfl) hx).here ?_
    have F6 := F5.on I1.frames (F5.fly.kept kp) (Heap.UpToSlots.of_keeps kp)
    show codeAny _ _ (.handlers (.ref a) [.ExceptHandler none (some n) [.Raise (some (.Call (.Name x np) (e0 :: es) [] cpos)) (some (.Name n ep)) rp] hp] X.env) _ _
    refine codeAny_handlers_suite_as (flightC (fr := none) F6.fly fun h7 fly7 sm7 => ?_)
    have F7 := F6.on I1.frames fly7 sm7
    have J7 := I1.flown F7
    obtain ⟨oa, va, hoa, hac, hda, hca⟩ := F7.fly.full
    have naL : a ≠ X.env.locals := fun z => by
      obtain ⟨m, ⟨o, _, _, ho, _⟩, _⟩ := I1.loc
      rw [← z, F1.new] at ho
      cases ho
    have naf : a ∉ X.fs := fun z => by
      obtain ⟨_, o, ho, _⟩ := I1.funs.mem z
      rw [F1.new] at ho
      cases ho
    have J7p : Inv X ((a, oa) :: pins) σ' H' _ := J7.pins_of fun p hp => by
      rcases List.mem_cons.mp hp with rfl | hp
      · exact ⟨hoa, hfr, naL, naf, fun v z => by rw [hda] at z; cases z⟩
      · exact J7.pin p (List.mem_append_right _ hp)
    refine store_ok J7p hN hi (Or.inl hk) (v := .ref a) rfl (fun s8 J8 => ?_) (Or.inr hk)
    refine wpAny_execs_cons ?_
    rw [arm_exec_Raise]
    refine wpAny_bind (wpAny_standAt ?_)
    refine raiseStmt_from (a := a) (C := C) (D := D) rfl hac hda hca ?_
    refine wpAny_bind (wpAny_Call_ofName (ld_glob (X := X.inexc (.ref a)) (J8.inexc (e := .ref a)) hg hm ?_ hdb))
    unfold callWith
    have hq := ha (.ref a) cpos ((a, oa) :: pins) s8 _ H' _ (J8.inexc (e := .ref a)) (k a hfr)
    have hplain : (backTo cpos (starEach (e0 :: es) X.env)).any (·.1) = false := by rw [he]; show (false || (backTo cpos (starEach es X.env)).any (·.1)) = false; rw [hpl]; rfl
    have hq' : wpAny (model X.prog X.w) (X.A.mark (some (.ref a))) (spliced ((false, eval e0 X.env) :: backTo cpos (starEach es X.env))) (AP (X.inexc (.ref a)) ((a, oa) :: pins) (σ'.set i (some (.ref a))) fun xs H1 => xs.length ≤ sizeLine ∧ E' (.ref D) (some a) H1) (fun _ _ => False) s8 := by
      have := hq
      rw [show starEach (e0 :: es) (X.inexc (.ref a)).env = (false, eval e0 X.env) :: starEach es X.env from he] at this
      exact this
    refine wpAny_bind (wpAny_holding ?_)
    rw [show backTo cpos (starEach (e0 :: es) X.env) = (false, eval e0 X.env) :: backTo cpos (starEach es X.env) by rw [he]; rfl]
    refine Calls.evalArgs_plain (wpAny_mono hq' (fun us s9 hq9 => wpAny_bind (wpAny_standAt ?_)) fun _ _ z => z.elim)
    obtain ⟨xs, H1', J9', r9, hlen9, q9⟩ := hq9
    have J9 : Inv X ((a, oa) :: pins) (σ'.set i (some (.ref a))) H1' s9 := J9'.uninexc I.ok
    obtain ⟨bm, N, nm, qn, bs, hdct, sn, sub, ab, col, dd, k0, k1, k2, k3, k5, mN, hC, hNs, hni, TL⟩ := exc_obj I.mod.kin xD.exc
    obtain ⟨hp9, g9, d9, tk9, os9⟩ := s9
    have hC9 := J9.bk _ _ hC
    rw [show ((false, eval e0 X.env) :: backTo cpos (starEach es X.env)).any (·.1) = false from hpl]
    refine wpAny_bind (wpAny_keeperOf_exc hC9 ?_)
    refine wpAny_bind (wpAny_call_exc_subU (hrest := by rw [List.nil_append, ← r9.length]; exact hlen9) PySem.F.excBase_ValueError (by decide) PySem.F.excBase_ValueError (TL.keeps J9.bk) hC9 (hNs.keeps J9.bk) hni fun h10 e2 hm10 => wpAny_bind (wpAny_holding (wpAny_point (wpAny_pure (wpAny_bind (wpAny_standAt (wpAny_pure ?_)))))))
    obtain ⟨tt, het, _, _⟩ := hm10.there
    have ne9 : ∀ b o, hp9.get? b = some o → b ≠ e2 := fun b o e z => by
      rw [z, hm10.new] at e
      cases e
    have ta9 : hp9.get? a = some oa := (J9.pin (a, oa) (List.mem_append_right _ List.mem_cons_self)).1
    have J10 : Inv X ((a, oa) :: pins) (σ'.set i (some (.ref a))) H1' ⟨h10, g9, d9, tk9, os9⟩ := J9.kept (t' := tk9) hm10.keeps
    obtain ⟨nmC, qC, NC, bsC, bmC, hdC, snC, subC, abC, colC, ddC, c0, c1, c2, c3, c5, idC, hCC, hCB⟩ := exC_of J9.kIn xC
    refine ⟨e2, tt, rfl, ne9 _ _ ta9, ne9 _ _ hCC, ne9 _ _ hC9, exC_of J10.kIn xD, exC_of J10.kIn xC, hm10.keeps _ _ ta9, het, ?_, fun h11 o11 vs11 hk11 ho11 hc11 hd11 v0 v1 v2 => ?_⟩
    · refine wpAny_bind ?_
      obtain ⟨m, hn, hl⟩ := J10.loc
      have hlen : i < σ'.length := by rw [I1.len]; exact (List.getElem?_eq_some_iff.mp hi).1
      obtain ⟨u, r, l⟩ := hl i n (.ref a) hi (List.getElem?_set_self hlen) (.inl hk)
      cases r
      rcases l with ⟨hk', hm'⟩ | ⟨hk', c, hc, hcell⟩
      · exact wpAny_Name (wpAny_loadName_local I.ok.kind hk' hn hm' (wpAny_bind (wpAny_standAt (wpAny_pure ⟨rfl, rfl⟩)))) bn
      · rcases hk' with hk' | hk'
        · rw [hk] at hk'; cases hk'
        · rw [hk] at hk'; cases hk'
    -- it is on its way
    have mk : MadeC hp9 h11 e2 (.ref D) (.ref tt) (ctxV (some a)) := ⟨fun b o e => (hk11 b (ne9 b o e)).trans (hm10.keeps b o e), hm10.new, o11, vs11, ho11, hc11, hd11, v0, v1, v2⟩
    have hin : ∀ env ∈ X.stack, ∀ b, env.frame = some b → b ∈ frs X.stack := fun env he b hb => List.mem_filterMap.mpr ⟨env, he, hb⟩
    have hfr9 : hp9.FunFrames (PySem.W.hideAll hp9 (frs X.stack)) X.stack := PySem.W.funFrames_hide J9.stack hin
    refine noteC_made (base := PySem.W.hideAll hp9 (frs X.stack)) (h := hp9) (L := X.env.locals) hA hf (fun b o q => PySem.W.of_hideAll _ q) (hst ▸ hfr9) mk fun h12 x12 sm12 => ?_
    have x12' : FlyC (PySem.W.hideAll hp9 (frs X.stack)) X.stack e2 (.ref D) (.ref tt) (ctxV (some a)) (rawInt X.env.locals) h12 := hst ▸ x12
    have J12 := J9.noted x12'.1 ((Heap.UpToSlots.of_keeps mk.keeps).trans sm12)
    have J12p : Inv X pins _ H1' _ := J12.pins_of fun p hp => J12.pin p (List.mem_append_right _ (List.mem_cons_of_mem _ hp))
    refine unname_ok2 J12p hN hi hk fun s13 J13 sb13 => ?_
    have hLf : X.env.locals ∈ frs X.stack := by rw [hst]; unfold frs; rw [List.filterMap_cons, hf]; exact List.mem_cons_self
    have x13 : FlyC (PySem.W.hideAll hp9 (frs X.stack)) X.stack e2 (.ref D) (.ref tt) (ctxV (some a)) (rawInt X.env.locals) s13.heap := by
      refine x12'.keeps (fun b o vs e hd => ?_) (fun b o q => ?_) (frames_rebase (fun L hL => PySem.W.hideAll_none _ hL) J13.stack)
      · refine (sb13.2 b fun z => ?_).trans e
        obtain ⟨_, o', ho', hn'⟩ := x12'.2.2.1.mem hLf
        rw [z] at e
        rw [e] at ho'
        cases ho'
        exact hn' vs hd
      · refine (sb13.2 b fun z => ?_).trans (x12'.1 b o q)
        rw [z, PySem.W.hideAll_none _ hLf] at q
        cases q
    refine passOnC hf x13 fun h14 x14 sm14 => ?_
    show wpAny _ _ (noteFrame (.ref e2) X.env) _ _ _
    refine noteC_again (s := { s13 with heap := h14 }) hf x14 ?_
    refine cameBackC (s := { s13 with heap := h14 }) hf x14 fun h15 x15 sm15 => ?_
    refine hH pins _ H1' s13 h15 e2 D (.ref tt) (some a) _ J13 x15 (sm14.trans sm15) (fun b o e hb hc => ?_) ?_ ?_ q9
    · have there : ∃ o9, hp9.get? b = some o9 := by
        rcases hc with hc | ⟨u, hu⟩
        · cases q : H1' b with
          | none => exact absurd q hc
          | some u => exact (J9.hok b u q).get
        · exact J9.base.there b u hu (by rw [hex]; simp)
      obtain ⟨o9, e9⟩ := there
      have hne : b ≠ X.env.locals := by
        rcases hc with hc | ⟨u, hu⟩
        · intro z
          rw [z] at hc
          exact hc J9.free
        · exact Nat.ne_of_lt (Nat.lt_of_lt_of_le (Heap.lt_size hu) I.ok.above)
      have hB : (PySem.W.hideAll hp9 (frs X.stack)).get? b = some o9 := PySem.W.hideAll_get _ e9 fun z => by
        rcases List.mem_cons.mp (J9.stkSub b z) with q | q
        · exact hne q
        · exact hb q
      rw [x13.1 b o9 hB] at e
      cases e
      exact hB
    · cases e : H1' e2 with
      | none => rfl
      | some u =>
        obtain ⟨o, e2'⟩ := (J9.hok e2 u e).get
        have e3 : hp9.get? e2 = some o := e2'
        rw [hm10.new] at e3
        cases e3
    · cases e : X.s₀.heap.get? e2 with
      | none => rfl
      | some u =>
        obtain ⟨o, e2'⟩ := J9.base.there e2 u e (by rw [hex]; simp)
        have e3 : hp9.get? e2 = some o := e2'
        rw [hm10.new] at e3
        cases e3
  · cases f with
    | next =>
      obtain ⟨σ', H', I', z⟩ := q
      exact wpAny_execs_nil ⟨σ', H', I'.untryx, z⟩
    | ret v =>
      obtain ⟨v', σ', H', I', r, z⟩ := q
      exact ⟨v', σ', H', I'.untryx, r, z⟩
    | brk =>
      obtain ⟨σ', H', I', z⟩ := q
      exact ⟨σ', H', I'.untryx, z⟩
    | cont =>
      obtain ⟨σ', H', I', z⟩ := q
      exact ⟨σ', H', I'.untryx, z⟩
end
end L2

set_option maxHeartbeats 1000000
set_option compiler.extract_closed false


namespace Hw
open PySem L2 HwSort

noncomputable def top (i : Nat) : Stmt := PySem.Challenge.pw_hearwood_k20_each_refusal_alone.main.body.getD i (.Pass ⟨0, 0, 0, 0⟩)
noncomputable abbrev s_check_pair : Stmt := top 11
noncomputable abbrev s_Book___init__ : Stmt := inClass (top 12) 0
noncomputable abbrev s_Book_many : Stmt := inClass (top 12) 1
noncomputable abbrev s_Book_let : Stmt := inClass (top 12) 2
noncomputable abbrev s_Book_ban : Stmt := inClass (top 12) 3
noncomputable abbrev s_Book_cost : Stmt := inClass (top 12) 4
noncomputable abbrev s_Book_hearings : Stmt := inClass (top 12) 5
noncomputable abbrev s_shown : Stmt := top 17
noncomputable abbrev s_number : Stmt := top 18
noncomputable abbrev s_words_of : Stmt := top 19
noncomputable abbrev s_let_line : Stmt := top 20
noncomputable abbrev s_book_of : Stmt := top 21
noncomputable abbrev s_read : Stmt := top 22
noncomputable abbrev s_has_hearing : Stmt := top 24
noncomputable abbrev s_comes_to_first : Stmt := top 25
noncomputable abbrev s_is_family : Stmt := top 26
noncomputable abbrev s_worth : Stmt := top 27
noncomputable abbrev s_Pricing___init__ : Stmt := inClass (top 29) 0
noncomputable abbrev s_Pricing_charge : Stmt := inClass (top 29) 1
noncomputable abbrev s_tellers_behind : Stmt := top 30
noncomputable abbrev s_cut_off : Stmt := top 31
noncomputable abbrev s_priced : Stmt := top 32
noncomputable abbrev s_least_worth : Stmt := top 34
noncomputable abbrev s_with_only : Stmt := top 35
noncomputable abbrev s_least_with : Stmt := top 36
noncomputable abbrev s_least : Stmt := top 37
noncomputable abbrev s_lack : Stmt := top 38
noncomputable abbrev s_law_cell_at : Stmt := top 40
noncomputable abbrev s_law_refuses : Stmt := top 41
noncomputable abbrev s_law_classes : Stmt := top 42
noncomputable abbrev s_law_caught : Stmt := top 43
noncomputable abbrev s_law : Stmt := top 44
noncomputable abbrev hasX : List Ex := [.HearError, .NoBook, .NoTeller, .Alone, .First, .NoHearing, .NoFamily, .BadText]

set_option bootstrap.genMatcherCode true
local macro_rules | `(tactic| walk_at "rd") => `(tactic| try simp only [tSeq, tIfS, tNot, tAnd, tOr, tTest, tChain, tB, tVar, tC, tOp, tUn, rI0_int, rI_int, rU_int, rEq_int, rNe_int, tAndV, tOrV, tNotV, tIf, tNext, tRet, tRetN, tDrop, tAsg, gName, tNever, tCons, tNil, tCB, tCall, tCallX, tRaise, tTup, tLst, L2.start,
  List.map_cons, List.map_nil, List.length_cons, List.length_nil, List.replicate, List.cons_append, List.nil_append, List.append_nil, List.getElem?_cons_zero, List.getElem?_cons_succ, List.set_cons_zero, List.set_cons_succ, Nat.reduceAdd, Nat.reduceSub, Nat.zero_add, Nat.sub_self,
  Option.some.injEq, V.int.injEq, V.bl.injEq, exists_eq_left', exists_eq_left, exists_eq', decide_eq_true_eq, Bool.not_eq_true', decide_eq_false_iff_not])
local macro_rules | `(tactic| walk_at "c") => `(tactic| try dsimp only [tC])
local macro_rules | `(tactic| walk_at "s") => `(tactic| repeat (first
  | (with_reducible first | refine w_seq ?_ | refine w_next ?_ | refine w_break ?_ | refine w_cont ?_ | refine w_drop ?_ | refine w_ret ?_ | refine w_retN ?_ | refine w_ifS ?_ | refine w_asg ?_ | refine w_gname ?_ | refine w_c ?_ | refine w_B ?_ | refine w_test ?_ | refine w_and ?_ | refine w_or ?_ | refine w_not ?_ | refine w_andV ?_ | refine w_orV ?_ | refine w_notV ?_ | refine w_if ?_ | refine w_op ?_ | refine w_un ?_ | refine w_chain ?_ | refine w_nil ?_ | refine w_cons ?_ | refine w_tup ?_ | refine w_lst ?_ | refine w_call ?_ | refine w_callX ?_ | refine w_meth ?_ | refine w_methX ?_ | refine w_make ?_ | refine w_makeX ?_ | refine w_raise ?_ | refine w_CB ?_ | refine w_BM0 ?_ | refine w_BM ?_ | refine w_fld ?_ | refine w_sfld ?_ | refine w_gsub ?_ | refine w_sl ?_ | refine w_nopart ?_ | refine w_part ?_ | refine w_dget ?_ | refine w_din ?_ | refine w_dnotin ?_ | refine w_dget1 ?_ | refine w_dput ?_ | refine w_comp ?_ | refine w_ilist ?_ | refine w_ituple ?_ | refine w_irng1 ?_ | refine w_irng2 ?_ | refine w_yes ?_ | refine w_while ?_ | refine w_disp ?_ | refine w_pnil ?_ | refine w_pcons ?_ | refine w_gtup ?_ | refine w_gcons ?_ | refine w_gnil ?_ | refine w_thaw ?_ | refine w_idict ?_ | refine w_minlen ?_ | refine w_for ?_ | refine w_join ?_ | refine w_jcons ?_ | refine w_fmtI ?_ | refine w_fmtS ?_ | refine w_rI0 ?_ | refine w_rU ?_ | refine w_eqI ?_ | refine w_neI ?_ | refine w_eqS ?_ | refine w_neS ?_ | refine w_eqB ?_ | refine w_T ?_ | refine w_F ?_ | refine w_nT ?_ | refine w_nF ?_ | refine w_exbl ?_ | refine w_exint ?_ | refine w_andr ?_)
  | ((with_reducible apply w_var); exact rfl)
  | (with_reducible refine w_pos (by assumption) ?_) | (with_reducible refine w_neg (by assumption) ?_) | (with_reducible refine w_npos (by assumption) ?_) | (with_reducible refine w_nneg (by assumption) ?_)
  | (with_reducible refine w_fdiv (by first | decide | omega) (by first | decide | omega) ?_)
  | (with_reducible refine w_mulL (by first | decide | omega) (by first | decide | omega) ?_) | (with_reducible refine w_mulR (by first | decide | omega) (by first | decide | omega) ?_)
  | (with_reducible refine w_rI (C := fun _ j => 0 < j) (by first | decide | omega) ?_)
  | (with_reducible refine w_pow (by decide) (by decide) (by decide) ?_)))
set_option bootstrap.genMatcherCode false
section
variable {P : Program} {w : World} {K : PySem.W.Frag} {mg : Str → Option Value} {base : Heap} {C : Addr} {xa : Ex → Addr}
theorem sc_check_pair : FnScope ["many", "one", "other"] ["many", "one", "other"] (defScope s_check_pair) := ⟨rfl, rfl, rfl, by decide +kernel, rfl, by decide +kernel, by decide +kernel⟩
theorem bi_check_pair : BindOk "check_pair" "check_pair" s_check_pair ["many", "one", "other"] := fun _ _ _ _ _ _ us hl => by
  obtain ⟨_, _, _, rfl⟩ := len3D hl
  rfl
theorem x_check (F : FunAt K mg "check_pair" "check_pair" s_check_pair) (EX : Exc K mg hasX xa) : DefX P w K mg base 1 "check_pair" ["many", "one", "other"] (sp_checkX xa) := by
  refine F.defX sc_check_pair bi_check_pair (fun vs H Q E h => ?_) (fun f cdv A outer s H vs Q E hr h => ?_)
  · obtain ⟨a, b, c, rfl, _⟩ := h
    rfl
  · obtain ⟨many, one, other, rfl, q, x⟩ := h
    refine ⟨_, (pss_cons (ps_if (pt_not (PW.pt (pw_and (pt_chain op_le op_lt pe_int (pv 1) (pv 0)) (pw_and1 (pt_chain op_le op_lt pe_int (pv 2) (pv 0))))))
      (pss_one (ps_raise raiseX (EX.nm .NoTeller (by decide)).xc (EX.nm .NoTeller (by decide)).gl rfl (pa_cons pe_str pa_nil)))
      pss_nil)
      (pss_cons (ps_if (pt_cmpR op_eq (pv 1) (pv 2) (nomark _))
      (pss_one (ps_raise raiseX (EX.nm .Alone (by decide)).xc (EX.nm .Alone (by decide)).gl rfl (pa_cons pe_str pa_nil)))
      pss_nil)
      (pss_one (ps_if (pt_cmpR op_eq (pv 2) pe_int (nomark _))
      (pss_one (ps_raise raiseX (EX.nm .First (by decide)).xc (EX.nm .First (by decide)).gl rfl (pa_cons pe_str pa_nil)))
      pss_nil)))), ?_⟩
    try clear hu
    try clear hu0
    try clear hu64
    try dsimp only [cxOf, cxComp, Cx.nox]
    walk_at "rd"
    have one_le : 1 ≤ sizeLine := by simp [sizeLine_eq]
    unfold refuses at q x
    by_cases h1 : (0 ≤ one ∧ one < many) ∧ (0 ≤ other ∧ other < many)
    · rw [if_neg (fun z => z h1)] at q x
      obtain ⟨⟨a1, a2⟩, a3, a4⟩ := h1
      simp only [a1, a2, a3, a4, if_true, not_true, if_false]
      by_cases h2 : one = other
      · rw [if_pos h2] at x ⊢
        exact ⟨one_le, x _ rfl⟩
      · rw [if_neg h2] at q x ⊢
        by_cases h3 : other = 0
        · rw [if_pos h3] at x ⊢
          exact ⟨one_le, x _ rfl⟩
        · rw [if_neg h3] at q ⊢
          exact q rfl
    · rw [if_pos h1] at x
      have x' := And.intro one_le (x _ rfl)
      by_cases b1 : 0 ≤ one <;> by_cases b2 : one < many <;> by_cases b3 : 0 ≤ other <;> by_cases b4 : other < many <;> try exact absurd (And.intro (And.intro b1 b2) (And.intro b3 b4)) h1
      all_goals simp only [b1, b2, b3, b4, if_true, not_true, if_false, not_false_iff]
      all_goals exact x'
theorem sc_Book___init__ : FnScope ["self", "many"] ["self", "many"] (defScope s_Book___init__) := ⟨rfl, rfl, rfl, by decide +kernel, rfl, by decide +kernel, by decide +kernel⟩
theorem bi_Book___init__ : BindOk "__init__" "Book.__init__" s_Book___init__ ["self", "many"] := fun _ _ _ _ _ _ us hl => by
  obtain ⟨_, _, rfl⟩ := len2D hl
  rfl
theorem x_init (F : MakAt K mg C "Book" "__init__" "Book.__init__" s_Book___init__) (T : Txt K mg C) (EX : Exc K mg hasX xa) : MakX P w K mg base C 1 "Book" ["self", "many"] (sp_initX xa C) := by
  refine F.defX sc_Book___init__ bi_Book___init__ (fun vs H Q E h => ?_) (fun f cdv A outer s H vs Q E hr h => ?_)
  · obtain ⟨p, dx, m, rfl, _⟩ := h
    rfl
  · obtain ⟨p, dx, many, rfl, hp, k, x⟩ := h
    obtain ⟨t, hg_MOST_TELLERS⟩ := T.g_MOST_TELLERS
    refine ⟨_, (pss_cons (ps_if (pt_not (pt_chain op_le op_le pe_int (pv 1) (pe_glob (v := V.int 12) rfl hg_MOST_TELLERS ⟨_, rfl⟩)))
      (pss_one (ps_raise raiseX (EX.nm .NoBook (by decide)).xc (EX.nm .NoBook (by decide)).gl rfl (pa_cons (pe_join (pj_cons pe_str (pj_cons (pe_fmtI (pe_glob (v := V.int 12) rfl hg_MOST_TELLERS ⟨_, rfl⟩)) (pj_cons pe_str pj_nil)))) pa_nil)))
      pss_nil)
      (pss_cons (ps_fld (pv 0) (pv 1) rfl)
      (pss_one (ps_fld (pv 0) pe_dnewT rfl)))), ?_⟩
    try clear hu
    try clear hu0
    try clear hu64
    try dsimp only [cxOf, cxComp, Cx.nox]
    walk_at "rd"
    by_cases h12 : 1 ≤ many ∧ many ≤ 12
    · obtain ⟨h1, h2⟩ := h12
      simp only [h1, h2, if_true, not_true, if_false]
      refine ⟨_, rfl, _, rfl, p, C, dx, [], rfl, hp, T.cl, T.aT, (by show 0 < 1000; decide), ?_⟩
      intro d hd
      have npd : p ≠ d := by
        intro e
        subst e
        rw [upd_same] at hd
        cases hd
      have hd' : H d = none := by rw [upd_ne npd.symm] at hd; exact hd
      refine ⟨_, rfl, p, C, dx, _, rfl, (by rw [upd_ne npd, upd_same]), T.cl, T.aC, (by show 1 < 1000; decide), ?_⟩
      refine k ⟨h1, h2⟩ d _ hd' ⟨⟨dx, upd_same⟩, by rw [upd_ne npd.symm, upd_same]; rfl⟩ fun b o e hb => ?_
      rw [upd_ne hb, upd_ne (ne_of_none e hd'), upd_ne hb]
      exact e
    · have x' := x h12
      have fin : (tJoin (tJCons (tC (V.str "a book has 1 to ")) (tJCons (tFmtI (tC (V.int 12))) (tJCons (tC (V.str " tellers")) tJNil)))) [some (V.ref p), some (V.int many)] H fun x1 H1 => 1 ≤ sizeLine ∧ E (Value.ref (xa Ex.NoBook)) none H1 := by
        have hle : ∀ n, n ≤ 1000 → n ≤ sizeLine := fun n h => Nat.le_of_lt (small1000 h)
        exact ⟨_, rfl, hle _ (by decide +kernel), 12, rfl, by decide, _, rfl, hle _ (by decide +kernel), _, rfl, hle _ (by decide +kernel), hle _ (by decide +kernel), hle _ (by decide), x'⟩
      by_cases b1 : 1 ≤ many <;> by_cases b2 : many ≤ 12 <;> try exact absurd (And.intro b1 b2) h12
      all_goals simp only [b1, b2, if_true, not_true, if_false, not_false_iff]
      all_goals exact fin
theorem sc_Book_many : FnScope ["self"] ["self"] (defScope s_Book_many) := ⟨rfl, rfl, rfl, by decide +kernel, rfl, by decide +kernel, by decide +kernel⟩
theorem bi_Book_many : BindOk "many" "Book.many" s_Book_many ["self"] := fun _ _ _ _ _ _ us hl => by
  obtain ⟨_, rfl⟩ := len1D hl
  rfl
theorem d_many (F : MetAt K C "many" "Book.many" s_Book_many) (T : Txt K mg C) : MetD P w K mg base C 1 "many" ["self"] (sp_many C) := by
  refine F.def sc_Book_many bi_Book_many (fun vs H Q E h => ?_) (fun f cdv A outer s H vs Q E hr h => ?_)
  · obtain ⟨p, d, m, cs, rfl, _⟩ := h
    rfl
  · obtain ⟨p, d, many, cs, rfl, B, k⟩ := h
    obtain ⟨dx, h1⟩ := B.ob
    refine ⟨_, (pss_one (ps_ret (pe_fld (pv 0) rfl))), ?_⟩
    try clear hu
    try clear hu0
    try clear hu64
    try dsimp only [cxOf, cxComp, Cx.nox]
    exact rd_fld h1 T.cl T.aT (flds_many _ _) k
theorem sc_Book_let : FnScope ["self", "one", "other", "cost"] ["self", "one", "other", "cost"] (defScope s_Book_let) := ⟨rfl, rfl, rfl, by decide +kernel, rfl, by decide +kernel, by decide +kernel⟩
theorem bi_Book_let : BindOk "let" "Book.let" s_Book_let ["self", "one", "other", "cost"] := fun _ _ _ _ _ _ us hl => by
  obtain ⟨_, _, _, _, rfl⟩ := len4D hl
  rfl
theorem x_let (F : MetAt K C "let" "Book.let" s_Book_let) (T : Txt K mg C) (X_check_pair : DefX P w K mg base 1 "check_pair" ["many", "one", "other"] (sp_checkX xa)) : MetX P w K mg base C 2 "let" ["self", "one", "other", "cost"] (sp_letX xa C) := by
  refine F.defX sc_Book_let bi_Book_let (fun vs H Q E h => ?_) (fun f cdv A outer s H vs Q E hr h => ?_)
  · obtain ⟨p, d, m, cs, a, b, c, rfl, _⟩ := h
    rfl
  · obtain ⟨p, d, many, cs, one, other, cost, rfl, B, hl, k, x⟩ := h
    have hu := hu_of hr
    obtain ⟨dx, h1⟩ := B.ob
    refine ⟨_, (pss_cons (ps_expr (pe_callX X_check_pair (hr.mono (by decide)) passX (pa_cons (pe_fld (pv 0) rfl) (pa_cons (pv 1) (pa_cons (pv 2) pa_nil)))))
      (pss_cons (ps_dput hu (pe_fld (pv 0) rfl) (pe_tup (pa_cons (pv 1) (pa_cons (pv 2) pa_nil))) (pv 3) rfl)
      (pss_one (ps_ret (pe_callB call_lenT (by rfl) T.n_len L2.boot_len (pa_cons (pe_fld (pv 0) rfl) pa_nil)))))), ?_⟩
    try clear hu
    try clear hu0
    try clear hu64
    try dsimp only [cxOf, cxComp, Cx.nox]
    walk_at "rd"
    refine rd_fld h1 T.cl T.aT (flds_many _ _) ⟨many, one, other, rfl, fun ok => ?_, x⟩
    refine ⟨_, rfl, rd_fld h1 T.cl T.aC (flds_costs _ _) ?_⟩
    walk_at "rd"
    refine ⟨by simp [sizeLine_eq], fun t ht => ?_⟩
    have nd : d ≠ t := ne_of_none B.dc ht
    have np : p ≠ t := ne_of_none h1 ht
    refine ⟨d, _, rfl, DPut.t (k := encK (one, other)) ((upd_ne nd).trans B.dc) upd_same (by rw [enc_len]; exact small1000 (by omega)), ?_⟩
    rw [put_enc]
    have h1' : upd (upd H t (.tup [.int one, .int other])) d (.dT (enc (putC cs (one, other) cost))) p = some (.ins C dx (flds many d)) := by rw [upd_ne B.ne, upd_ne np]; exact h1
    refine rd_fld h1' T.cl T.aC (flds_costs _ _) ⟨d, _, rfl, upd_same, ?_⟩
    rw [enc_len]
    exact k ok _ ⟨⟨dx, h1'⟩, upd_same⟩ fun b o e hb => by rw [upd_ne hb, upd_ne (ne_of_none e ht)]; exact e
theorem sc_Book_ban : FnScope ["self", "one", "other"] ["self", "one", "other"] (defScope s_Book_ban) := ⟨rfl, rfl, rfl, by decide +kernel, rfl, by decide +kernel, by decide +kernel⟩
theorem bi_Book_ban : BindOk "ban" "Book.ban" s_Book_ban ["self", "one", "other"] := fun _ _ _ _ _ _ us hl => by
  obtain ⟨_, _, _, rfl⟩ := len3D hl
  rfl
theorem x_ban (F : MetAt K C "ban" "Book.ban" s_Book_ban) (T : Txt K mg C) (EX : Exc K mg hasX xa) (X_check_pair : DefX P w K mg base 1 "check_pair" ["many", "one", "other"] (sp_checkX xa)) : MetX P w K mg base C 2 "ban" ["self", "one", "other"] (sp_banX xa C) := by
  refine F.defX sc_Book_ban bi_Book_ban (fun vs H Q E h => ?_) (fun f cdv A outer s H vs Q E hr h => ?_)
  · obtain ⟨p, d, m, cs, a, b, rfl, _⟩ := h
    rfl
  · obtain ⟨p, d, many, cs, one, other, rfl, B, k, k0, x⟩ := h
    have hu := hu_of hr
    obtain ⟨dx, h1⟩ := B.ob
    refine ⟨_, (pss_cons (ps_expr (pe_callX X_check_pair (hr.mono (by decide)) passX (pa_cons (pe_fld (pv 0) rfl) (pa_cons (pv 1) (pa_cons (pv 2) pa_nil)))))
      (pss_cons (ps_if (pt_cmp (pc_dnotin hu (pe_tup (pa_cons (pv 1) (pa_cons (pv 2) pa_nil))) (pe_fld (pv 0) rfl)))
      (pss_one (ps_raise raiseX (EX.nm .NoHearing (by decide)).xc (EX.nm .NoHearing (by decide)).gl rfl (pa_cons pe_str pa_nil)))
      pss_nil)
      (pss_cons (ps_expr (pe_bm PySem.F.plainAttrs_dict PySem.F.slot_dict_pop PySem.F.type_dict_pop (mt_popT hu) (pe_fld (pv 0) rfl) (pa_cons (pe_tup (pa_cons (pv 1) (pa_cons (pv 2) pa_nil))) pa_nil)))
      (pss_one (ps_ret (pe_callB call_lenT (by rfl) T.n_len L2.boot_len (pa_cons (pe_fld (pv 0) rfl) pa_nil))))))), ?_⟩
    try clear hu
    try clear hu0
    try clear hu64
    try dsimp only [cxOf, cxComp, Cx.nox]
    walk_at "rd"
    refine rd_fld h1 T.cl T.aT (flds_many _ _) ⟨many, one, other, rfl, fun ok => ?_, x⟩
    simp only [tDNotIn]
    walk_at "rd"
    refine ⟨by simp [sizeLine_eq], fun t ht => ?_⟩
    have nd : d ≠ t := ne_of_none B.dc ht
    have np : p ≠ t := ne_of_none h1 ht
    have h2 : upd H t (.tup [.int one, .int other]) p = some (.ins C dx (flds many d)) := (upd_ne np).trans h1
    have h3 : upd H t (.tup [.int one, .int other]) d = some (.dT (enc cs)) := (upd_ne nd).trans B.dc
    refine rd_fld h2 T.cl T.aC (flds_costs _ _) ⟨d, _, rfl, DGet.t (k := encK (one, other)) h3 upd_same, ?_⟩
    cases hc : lookC cs (one, other) with
    | none =>
      rw [val_enc, hc]
      simp only [Option.map_none, Option.isSome_none, Bool.not_false, V.bl.injEq, exists_eq_left', if_true]
      exact ⟨by simp [sizeLine_eq], k0 ok hc _ (same_upd ht)⟩
    | some c =>
      rw [val_enc, hc]
      simp only [Option.map_some, Option.isSome_some, Bool.not_true, V.bl.injEq, exists_eq_left', Bool.false_eq_true, if_false, tBM]
      refine rd_fld h2 T.cl T.aC (flds_costs _ _) ⟨.inr (.inr (.inl ⟨rfl, .inr ⟨_, h3⟩⟩)), ?_⟩
      walk_at "rd"
      refine ⟨by simp [sizeLine_eq], fun u hu' => ?_⟩
      have nd2 : d ≠ u := ne_of_none h3 hu'
      have np2 : p ≠ u := ne_of_none h2 hu'
      refine ⟨d, u, enc cs, encK (one, other), .int c, rfl, rfl, (upd_ne nd2).trans h3, upd_same, by rw [val_enc, hc]; rfl, ?_⟩
      rw [drop_enc]
      have h4 : upd (upd (upd H t (.tup [.int one, .int other])) u (.tup [.int one, .int other])) d (.dT (enc (dropC cs (one, other)))) p = some (.ins C dx (flds many d)) := by rw [upd_ne B.ne, upd_ne np2]; exact h2
      refine rd_fld h4 T.cl T.aC (flds_costs _ _) ⟨d, _, rfl, upd_same, ?_⟩
      rw [enc_len]
      exact k ok (by rw [hc]; rfl) _ ⟨⟨dx, h4⟩, upd_same⟩ fun b o e hb => by rw [upd_ne hb, upd_ne (ne_of_none (by rw [upd_ne (ne_of_none e ht)]; exact e) hu'), upd_ne (ne_of_none e ht)]; exact e
theorem sc_Book_cost : FnScope ["self", "one", "other"] ["self", "one", "other"] (defScope s_Book_cost) := ⟨rfl, rfl, rfl, by decide +kernel, rfl, by decide +kernel, by decide +kernel⟩
theorem bi_Book_cost : BindOk "cost" "Book.cost" s_Book_cost ["self", "one", "other"] := fun _ _ _ _ _ _ us hl => by
  obtain ⟨_, _, _, rfl⟩ := len3D hl
  rfl
theorem x_cost (F : MetAt K C "cost" "Book.cost" s_Book_cost) (T : Txt K mg C) (X_check_pair : DefX P w K mg base 1 "check_pair" ["many", "one", "other"] (sp_checkX xa)) : MetX P w K mg base C 2 "cost" ["self", "one", "other"] (sp_costX xa C) := by
  refine F.defX sc_Book_cost bi_Book_cost (fun vs H Q E h => ?_) (fun f cdv A outer s H vs Q E hr h => ?_)
  · obtain ⟨p, d, m, cs, a, b, rfl, _⟩ := h
    rfl
  · obtain ⟨p, d, many, cs, one, other, rfl, B, k, x⟩ := h
    have hu := hu_of hr
    obtain ⟨dx, h1⟩ := B.ob
    refine ⟨_, (pss_cons (ps_expr (pe_callX X_check_pair (hr.mono (by decide)) passX (pa_cons (pe_fld (pv 0) rfl) (pa_cons (pv 1) (pa_cons (pv 2) pa_nil)))))
      (pss_one (ps_ret (pe_dget1 hu (pe_fld (pv 0) rfl) (pe_tup (pa_cons (pv 1) (pa_cons (pv 2) pa_nil))) ⟨rfl, rfl, rfl, rfl⟩)))), ?_⟩
    try clear hu
    try clear hu0
    try clear hu64
    try dsimp only [cxOf, cxComp, Cx.nox]
    walk_at "rd"
    refine rd_fld h1 T.cl T.aT (flds_many _ _) ⟨many, one, other, rfl, fun ok => ?_, x⟩
    simp only [tDGet1]
    refine rd_fld h1 T.cl T.aC (flds_costs _ _) ⟨d, rfl, .inr ⟨_, .inl B.dc⟩, ?_⟩
    walk_at "rd"
    refine ⟨by simp [sizeLine_eq], fun t ht => ?_⟩
    have nd : d ≠ t := ne_of_none B.dc ht
    refine ⟨_, DGet.t (k := encK (one, other)) ((upd_ne nd).trans B.dc) upd_same, ?_⟩
    rw [val_enc]
    have e : ((lookC cs (one, other)).map V.int).getD .non = optV (lookC cs (one, other)) := by cases lookC cs (one, other) <;> rfl
    rw [e]
    exact k ok _ (same_upd ht)
end
section
variable {P : Program} {w : World} {K : PySem.W.Frag} {mg : Str → Option Value} {base : Heap} {C : Addr}
theorem sc_law_cell_at : FnScope ["script", "k"] ["script", "k"] (defScope s_law_cell_at) := ⟨rfl, rfl, rfl, by decide +kernel, rfl, by decide +kernel, by decide +kernel⟩
theorem bi_law_cell_at : BindOk "_law_cell_at" "_law_cell_at" s_law_cell_at ["script", "k"] := fun _ _ _ _ _ _ us hl => by
  obtain ⟨_, _, rfl⟩ := len2D hl
  rfl
theorem d_cell (F : FunAt K mg "_law_cell_at" "_law_cell_at" s_law_cell_at) (T : Txt K mg C) : Def P w K mg base 1 "_law_cell_at" ["script", "k"] (sp_cell K) := by
  refine F.def sc_law_cell_at bi_law_cell_at (fun vs H Q E h => ?_) (fun f cdv A outer s H vs Q E hr h => ?_)
  · obtain ⟨a, ns, k, rfl, _⟩ := h
    rfl
  · obtain ⟨a, ns, k, rfl, hS, hl, hk, q⟩ := h
    refine ⟨_, (pss_cons (ps_if (pt_cmpR op_lt (pv 1) (pe_callB call_len_seq (by rfl) T.n_len L2.boot_len (pa_cons (pv 0) pa_nil)) (nomark _))
      (pss_one (ps_ret (pe_ix ix_list (pv 0) (pv 1) (fun _ _ => rfl))))
      pss_nil)
      (pss_one (ps_ret pe_int))), ?_⟩
    try clear hu
    try clear hu0
    try clear hu64
    try dsimp only [cxOf, cxComp, Cx.nox]
    walk_at "rd"
    refine ⟨a, _, rfl, .inl hS, ?_⟩
    walk_at "rd"
    rw [List.length_map]
    obtain ⟨n, rfl⟩ : ∃ n : Nat, k = n := ⟨k.toNat, by omega⟩
    unfold cellF at q
    by_cases hlt : (n : Int) < (ns.length : Int)
    · rw [if_pos hlt] at q ⊢
      have hn : n < ns.length := by omega
      refine ⟨a, _, _, _, rfl, rfl, hS, atI_nat (v := .int (ns.getD n 0)) ?_, q⟩
      simp [hn]
    · rw [if_neg hlt] at q ⊢
      exact q
end
section
variable {P : Program} {w : World} {K : PySem.W.Frag} {mg : Str → Option Value} {base : Heap} {C : Addr} {xa : Ex → Addr}
theorem sc_has_hearing : FnScope ["book", "one", "other"] ["book", "one", "other"] (defScope s_has_hearing) := ⟨rfl, rfl, rfl, by decide +kernel, rfl, by decide +kernel, by decide +kernel⟩
theorem bi_has_hearing : BindOk "has_hearing" "has_hearing" s_has_hearing ["book", "one", "other"] := fun _ _ _ _ _ _ us hl => by
  obtain ⟨_, _, _, rfl⟩ := len3D hl
  rfl
theorem d_has (F : FunAt K mg "has_hearing" "has_hearing" s_has_hearing) (T : Txt K mg C) (M_many : MetD P w K mg base C 1 "many" ["self"] (sp_many C)) (M_cost : MetD P w K mg base C 2 "cost" ["self", "one", "other"] (sp_cost C)) : Def P w K mg base 3 "has_hearing" ["book", "one", "other"] (sp_has C) := by
  refine F.def sc_has_hearing bi_has_hearing (fun vs H Q E h => ?_) (fun f cdv A outer s H vs Q E hr h => ?_)
  · obtain ⟨p, d, n, cs, a, t, rfl, _⟩ := h
    rfl
  · obtain ⟨p, d, n, cs, a, t, rfl, B, ki, t1, tn, q⟩ := h
    have hu := hu_of hr
    have q0 := q H (Same.refl _)
    refine ⟨_, (pss_cons (ps_if (PW.pt (pw_or (pt_cmpR op_isN (pv 1) pe_non (nomark _)) (pw_or1 (pt_cmpR op_eq (pv 1) (pv 2) (nomark _)))))
      (pss_one (ps_ret pe_bl))
      pss_nil)
      (pss_cons (ps_if (PW.pt (pw_or (pt_cmpR op_lt (pv 1) pe_int (nomark _)) (pw_or1 (pt_cmpR op_ge (pv 1) (pe_methD0 M_many T.cl (hr.mono (by decide)) (pv 0)) (nomark _)))))
      (pss_one (ps_ret pe_bl))
      pss_nil)
      (pss_one (ps_ret (pe_cmpR op_notN (pe_methD M_cost T.cl (hr.mono (by decide)) (pv 0) (pa_cons (pv 1) (pa_cons (pv 2) pa_nil))) pe_non (nomark _)))))), ?_⟩
    try clear hu
    try clear hu0
    try clear hu64
    try dsimp only [cxOf, cxComp, Cx.nox]
    cases a with
    | none =>
      walk_at "s"
      refine w_pos rfl ?_
      walk_at "s"
      exact q0
    | some a =>
      rw [show optV (some a) = V.int a from rfl]
      walk_at "s"
      refine w_neg (fun z => nomatch z) ?_
      have nokey : ¬ Ok2 n a t → hearB cs (some a) t = false := fun h => by
        show (lookC cs (a, t)).isSome = false
        cases e : lookC cs (a, t) with
        | none => rfl
        | some v => exact absurd (ki _ (List.mem_map.mpr ⟨_, look_some_mem e, rfl⟩)) h
      by_cases h1 : a = t
      · rw [nokey (fun z => z.2.2.2.2.1 h1)] at q0
        walk_at "s"
        exact q0
      · by_cases h2 : a < 0
        · rw [nokey (fun z => by have := z.1; omega)] at q0
          walk_at "s"
          exact q0
        · walk_at "s"
          refine meth_book B (by decide +kernel) (by decide +kernel) ?_
          walk_at "s"
          refine ⟨p, d, n, cs, rfl, B, ?_⟩
          by_cases h3 : (n : Int) ≤ a
          · rw [nokey (fun z => by have := z.2.1; omega)] at q0
            walk_at "s"
            exact q0
          · walk_at "s"
            refine meth_book B (by decide +kernel) (by decide +kernel) ?_
            walk_at "s"
            refine ⟨p, d, n, cs, a, t, rfl, B, ⟨by omega, by omega, by omega, by omega, h1, by omega⟩, fun H1 S1 => ?_⟩
            walk_at "s"
            have q1 := q _ S1
            rw [optV_non]
            have e : (!(lookC cs (a, t)).isNone) = hearB cs (some a) t := by
              show _ = (lookC cs (a, t)).isSome
              cases lookC cs (a, t) <;> rfl
            rw [e]
            exact q1
theorem sc_comes_to_first : FnScope ["family", "teller", "at", "look"] ["family", "teller"] (defScope s_comes_to_first) := ⟨rfl, rfl, rfl, by decide +kernel, rfl, by decide +kernel, by decide +kernel⟩
theorem bi_comes_to_first : BindOk "comes_to_first" "comes_to_first" s_comes_to_first ["family", "teller"] := fun _ _ _ _ _ _ us hl => by
  obtain ⟨_, _, rfl⟩ := len2D hl
  rfl
theorem d_comes (F : FunAt K mg "comes_to_first" "comes_to_first" s_comes_to_first) (T : Txt K mg C) : Def P w K mg base 1 "comes_to_first" ["family", "teller"] sp_comes := by
  refine F.def sc_comes_to_first bi_comes_to_first (fun vs H Q E h => ?_) (fun f cdv A outer s H vs Q E hr h => ?_)
  · obtain ⟨l, f, cs, n, t, rfl, _⟩ := h
    rfl
  · obtain ⟨l, fm, cs, n, t, rfl, hl, n12, ki, sh, t1, tn, q⟩ := h
    have hu := hu_of hr
    have hp : ∀ t : Int, 1 ≤ t → t < n → 0 ≤ parF fm t ∧ parF fm t < n := fun t h1 h2 => by
      obtain ⟨a1, a2, _⟩ := ki _ (sh.has t h1 h2)
      exact ⟨a1, a2⟩
    refine ⟨_, (pss_cons (ps_set (i := 2) sc_comes_to_first.nd rfl (Or.inl rfl) (pv 1))
      (pss_cons (ps_for PassesOwn.never rfl (pi_range1 rfl T.n_range (pa_cons (pe_callB call_len_seq (by rfl) T.n_len L2.boot_len (pa_cons (pv 0) pa_nil)) pa_nil)) (pg_name (i := 3) sc_comes_to_first.nd rfl (Or.inl rfl))
      (pss_cons (ps_if (pt_cmpR op_eq (pv 2) pe_int (nomark _))
      (pss_one (ps_ret pe_bl))
      pss_nil)
      (pss_one (ps_set (i := 2) sc_comes_to_first.nd rfl (Or.inl rfl) (pe_ix ix_list (pv 0) (pv 2) (fun _ _ => rfl))))))
      (pss_one (ps_ret pe_bl)))), ?_⟩
    try clear hu
    try clear hu0
    try clear hu64
    try dsimp only [cxOf, cxComp, Cx.nox]
    walk_at "s"
    refine ⟨l, _, rfl, .inl (SqL.of hl), ?_⟩
    rw [List.length_map, sh.len]
    walk_at "s"
    refine ⟨n, rfl, (rngN n12).1, (rngN n12).2, for_range (n := (n : Int).toNat) (fun k σ H' => ∃ o3, σ = [some (.ref l), some (.int t), some (.int (iterP (parF fm) k t)), o3] ∧ H' = H ∧ 0 ≤ iterP (parF fm) k t ∧ iterP (parF fm) k t < n ∧ ∀ j, j < k → iterP (parF fm) j t ≠ 0) ⟨none, rfl, rfl, by show (0 : Int) ≤ t; omega, tn, fun j h => by omega⟩ ?_ ?_⟩
    · rintro k σ H3 hk ⟨o3, rfl, rfl, hx0, hx1, hno⟩
      have es : iterP (parF fm) (k + 1) t = if iterP (parF fm) k t = 0 then 0 else parF fm (iterP (parF fm) k t) := rfl
      by_cases h0 : iterP (parF fm) k t = 0
      · walk_at "s"
        rw [ledT_t (iter_led h0)] at q
        exact q
      · have hno2 : ∀ j, j < k + 1 → iterP (parF fm) j t ≠ 0 := fun j hj => by
          by_cases e : j = k
          · rw [e]; exact h0
          · exact hno j (by omega)
        rw [es, if_neg h0]
        generalize iterP (parF fm) k t = h at hx0 hx1 h0
        have hat := sh.at (t := h) (by omega) hx1
        have hat' : atI (fm.map optV) h = some (V.int (parF fm h)) := by
          have := atI_nat hat
          rwa [Int.toNat_of_nonneg (by omega)] at this
        walk_at "s"
        refine ⟨l, _, _, _, rfl, rfl, SqL.of hl, hat', ?_⟩
        walk_at "s"
        have := hp h (by omega) hx1
        exact ⟨_, rfl, rfl, this.1, this.2, hno2⟩
    · rintro σ H3 ⟨o3, rfl, rfl, hx0, hx1, hno⟩
      walk_at "s"
      have : ledT fm t = false := ledT_f fun z => by
        obtain ⟨d, h1, h2⟩ := iter_lt hp t1 tn z
        exact hno d (by omega) h2
      rw [this] at q
      exact q
theorem sc_is_family : FnScope ["book", "family", "others"] ["book", "family"] (defScope s_is_family) := ⟨rfl, rfl, rfl, by decide +kernel, rfl, by decide +kernel, by decide +kernel⟩
theorem bi_is_family : BindOk "is_family" "is_family" s_is_family ["book", "family"] := fun _ _ _ _ _ _ us hl => by
  obtain ⟨_, _, rfl⟩ := len2D hl
  rfl
theorem d_isfam (F : FunAt K mg "is_family" "is_family" s_is_family) (T : Txt K mg C) (M_many : MetD P w K mg base C 1 "many" ["self"] (sp_many C)) (D_has_hearing : Def P w K mg base 3 "has_hearing" ["book", "one", "other"] (sp_has C)) (D_comes_to_first : Def P w K mg base 1 "comes_to_first" ["family", "teller"] sp_comes) : Def P w K mg base 4 "is_family" ["book", "family"] (sp_isfam C) := by
  refine F.def sc_is_family bi_is_family (fun vs H Q E h => ?_) (fun f cdv A outer s H vs Q E hr h => ?_)
  · obtain ⟨p, d, l, n, cs, f, rfl, _⟩ := h
    rfl
  · obtain ⟨p, d, l, n, cs, fm, rfl, B, ki, n1, n12, hl, q⟩ := h
    have hu := hu_of hr
    refine ⟨_, (pss_cons (ps_if (PW.pt (pw_or (pt_cmpR op_ne (pe_callB call_len_seq (by rfl) T.n_len L2.boot_len (pa_cons (pv 1) pa_nil)) (pe_methD0 M_many T.cl (hr.mono (by decide)) (pv 0)) (nomark _)) (pw_or1 (pt_cmpR op_notN (pe_ix ix_list (pv 1) pe_int (fun _ _ => rfl)) pe_non (nomark _)))))
      (pss_one (ps_ret pe_bl))
      pss_nil)
      (pss_cons (ps_set (i := 2) sc_is_family.nd rfl (Or.inl rfl) (pe_callTy (call_listR rfl) (by rfl) T.n_list L2.boot_list (pa_cons (pe_callTy call_rng2 (by rfl) T.n_range PyProof.Rows.boot_range (pa_cons pe_int (pa_cons (pe_callB call_len_seq (by rfl) T.n_len L2.boot_len (pa_cons (pv 1) pa_nil)) pa_nil))) pa_nil)))
      (pss_cons (ps_if (pt_not (pt_val (pe_callB (call_allB rfl) (by rfl) T.n_all L2.boot_all (pa_cons (pe_comp (N' := ["book", "family", "#others", "other"]) (n0 := 1) (osc := defScope s_is_family) (pi_list (pv 2)) (fun z => (pg_name (i := 3) (show (["book", "family", "#others", "other"] : List Str).Nodup by decide +kernel) rfl (Or.inl rfl))) (fun z => pif_nil) (fun z => (pe_callD D_has_hearing (hr.mono (by decide)) (pa_cons (pv 0) (pa_cons (pe_ix ix_list (pv 1) (pv 3) (fun _ _ => rfl)) (pa_cons (pv 3) pa_nil))))) rfl rfl (names_ok (N := ["book", "family", "others"]) (by decide +kernel)) rfl) pa_nil))))
      (pss_one (ps_ret pe_bl))
      pss_nil)
      (pss_one (ps_ret (pe_callB (call_allB rfl) (by rfl) T.n_all L2.boot_all (pa_cons (pe_comp (N' := ["#book", "family", "#others", "other"]) (n0 := 1) (osc := defScope s_is_family) (pi_list (pv 2)) (fun z => (pg_name (i := 3) (show (["#book", "family", "#others", "other"] : List Str).Nodup by decide +kernel) rfl (Or.inl rfl))) (fun z => pif_nil) (fun z => (pe_callD D_comes_to_first (hr.mono (by decide)) (pa_cons (pv 1) (pa_cons (pv 3) pa_nil)))) rfl rfl (names_ok (N := ["book", "family", "others"]) (by decide +kernel)) rfl) pa_nil))))))), ?_⟩
    try clear hu
    try clear hu0
    try clear hu64
    try dsimp only [cxOf, cxComp, Cx.nox]
    walk_at "s"
    refine ⟨l, _, rfl, .inl (SqL.of hl), ?_⟩
    rw [List.length_map]
    walk_at "s"
    refine meth_book B (by decide +kernel) (by decide +kernel) ?_
    walk_at "s"
    refine ⟨p, d, n, cs, rfl, B, ?_⟩
    walk_at "s"
    by_cases hln : (fm.length : Int) = n
    case neg =>
      refine w_nneg hln ?_
      walk_at "s"
      have q0 := q H (Same.refl _)
      rw [famB_f (fun z => hln (by rw [z.len]))] at q0
      exact q0
    refine w_npos hln ?_
    walk_at "s"
    refine ⟨l, _, 0, _, rfl, rfl, SqL.of hl, fam_at (Int.le_refl _) (by show 0 < fm.length; omega), ?_⟩
    walk_at "s"
    by_cases h0 : fm.getD 0 none = none
    case neg =>
      refine w_nneg (fun z => h0 ?_) ?_
      · cases e : fm.getD 0 none with
        | none => rfl
        | some a =>
          have z' : optV (fm.getD 0 none) = .non := z
          rw [e] at z'
          cases z'
      walk_at "s"
      have q0 := q H (Same.refl _)
      rw [famB_f (fun z => h0 z.hd)] at q0
      exact q0
    refine w_npos (by show optV (fm.getD 0 none) = .non; rw [h0]; rfl) ?_
    walk_at "s"
    refine ⟨l, _, rfl, .inl (SqL.of hl), ?_⟩
    rw [List.length_map, hln]
    walk_at "s"
    refine ⟨1, n, rfl, fun p0 hp0 => ?_⟩
    have S0 := same_upd (o := .rng 1 n) hp0
    walk_at "s"
    refine ⟨p0, 1, n, rfl, upd_same, by decide, by decide, (rng20 n12).1, (rng20 n12).2, fun lo hlo0 => ?_⟩
    have S1 := S0.trans (same_upd (o := .lst (upV 1 ((n : Int) - 1).toNat)) hlo0)
    have hlo : upd (upd H p0 (.rng 1 n)) lo (.lst (upV 1 ((n : Int) - 1).toNat)) lo = some (.lst (upV 1 ((n : Int) - 1).toNat)) := upd_same
    generalize upd (upd H p0 (.rng 1 n)) lo (.lst (upV 1 ((n : Int) - 1).toNat)) = H1 at S1 hlo
    have upl : (upV 1 ((n : Int) - 1).toNat).length = n - 1 := by unfold upV; rw [List.length_map, List.length_range]; omega
    have upat : ∀ {i x}, (upV 1 ((n : Int) - 1).toNat)[i]? = some x → x = .int (1 + (i : Int)) ∧ i < n - 1 := fun {i x} hx => by
      have hi : i < n - 1 := by have := (List.getElem?_eq_some_iff.mp hx).1; omega
      unfold upV at hx
      rw [List.getElem?_map, List.getElem?_range (by omega)] at hx
      exact ⟨(Option.some.inj hx).symm, hi⟩
    walk_at "s"
    refine ⟨lo, rfl, ⟨_, SqL.of hlo⟩, ?_⟩
    refine comp_list_map (xs := upV 1 ((n : Int) - 1).toNat) (fun i v _ => v = .bl (hearB cs (fm.getD (1 + (i : Int)).toNat none) (1 + (i : Int)))) (fun _ _ _ _ h _ => h) (SqL.of hlo) (by omega) ?_ ?_
    · intro z i x ws H6 F hx hw s6 hF
      obtain ⟨rfl, hi⟩ := upat hx
      obtain ⟨w1, rfl⟩ : ∃ w1, ws = [w1] := len_one hw
      have S6 := S1.trans s6
      walk_at "s"
      refine ⟨l, _, _, _, rfl, rfl, SqL.of (S6 _ _ hl), fam_at (t := 1 + (i : Int)) (by omega) (by omega), ?_⟩
      walk_at "s"
      refine ⟨p, d, n, cs, _, _, rfl, B.same S6, ki, by omega, by omega, fun H7 S7 => ?_⟩
      exact hF [some (.int (1 + (i : Int)))] _ _ rfl S7 rfl
    intro lb vs H2 hlb0 S2 hv hvl hrel
    have evs := all_others (n := n) (g := fun t => hearB cs (fm.getD t.toNat none) t) (by omega) hrel
    rw [evs] at hv
    have S02 := S1.trans S2
    walk_at "s"
    refine ⟨lb, _, rfl, SqL.of hv, ?_⟩
    by_cases hall : ∀ t : Int, 1 ≤ t → t < n → hearB cs (fm.getD t.toNat none) t = true
    case neg =>
      have e : (List.map (fun t => hearB cs (fm.getD t.toNat none) t) (others n)).all id = false := Bool.eq_false_iff.mpr fun z => hall (all_t.mp z)
      rw [e]
      walk_at "s"
      have q0 := q _ S02
      rw [famB_f (fun z => hall fun t a b => fam_hear z a b)] at q0
      exact q0
    rw [all_t.mpr hall]
    have sh := shape_hear (by omega) h0 hall
    walk_at "s"
    have hlo2 := S2 _ _ hlo
    refine ⟨lo, rfl, ⟨_, SqL.of hlo2⟩, ?_⟩
    refine comp_list_map (xs := upV 1 ((n : Int) - 1).toNat) (fun i v _ => v = .bl (ledT fm (1 + (i : Int)))) (fun _ _ _ _ h _ => h) (SqL.of hlo2) (by omega) ?_ ?_
    · intro z i x ws H6 F hx hw s6 hF
      obtain ⟨rfl, hi⟩ := upat hx
      obtain ⟨w1, rfl⟩ : ∃ w1, ws = [w1] := len_one hw
      have S6 := S02.trans s6
      walk_at "s"
      refine ⟨l, fm, cs, n, _, rfl, S6 _ _ hl, n12, ki, sh, by omega, by omega, ?_⟩
      exact hF [some (.int (1 + (i : Int)))] _ _ rfl (Same.refl _) rfl
    intro lc vs3 H3 hlc0 S3 hv3 hvl3 hrel3
    have evs3 := all_others (n := n) (g := ledT fm) (by omega) hrel3
    rw [evs3] at hv3
    walk_at "s"
    refine ⟨lc, _, rfl, SqL.of hv3, ?_⟩
    have q0 := q _ (S02.trans S3)
    have e : (List.map (ledT fm) (others n)).all id = famB n cs fm := by
      rw [famB_shape sh]
      by_cases hl : ∀ t : Int, 1 ≤ t → t < n → Led (parF fm) t
      · rw [all_t.mpr fun t a b => ledT_t (hl t a b), (shape_fam sh hl).ledB]
      · have e1 : (List.map (ledT fm) (others n)).all id = false := Bool.eq_false_iff.mpr fun z => hl fun t a b => by
          have := all_t.mp z t a b
          exact Classical.byContradiction fun y => by rw [ledT_f y] at this; cases this
        rw [e1]
        unfold ledB
        exact (@decide_eq_false _ (Classical.propDecidable _) hl).symm
    rw [e]
    exact q0
theorem sc_worth : FnScope ["book", "family"] ["book", "family"] (defScope s_worth) := ⟨rfl, rfl, rfl, by decide +kernel, rfl, by decide +kernel, by decide +kernel⟩
theorem bi_worth : BindOk "worth" "worth" s_worth ["book", "family"] := fun _ _ _ _ _ _ us hl => by
  obtain ⟨_, _, rfl⟩ := len2D hl
  rfl
theorem x_worth (F : FunAt K mg "worth" "worth" s_worth) (T : Txt K mg C) (EX : Exc K mg hasX xa) (D_is_family : Def P w K mg base 4 "is_family" ["book", "family"] (sp_isfam C)) (M_cost : MetD P w K mg base C 2 "cost" ["self", "one", "other"] (sp_cost C)) : DefX P w K mg base 5 "worth" ["book", "family"] (sp_worthX xa C) := by
  refine F.defX sc_worth bi_worth (fun vs H Q E h => ?_) (fun f cdv A outer s H vs Q E hr h => ?_)
  · obtain ⟨p, d, l, n, cs, f, rfl, _⟩ := h
    rfl
  · obtain ⟨p, d, l, n, cs, fm, rfl, B, ki, n1, n12, hl, kq, kx⟩ := h
    have hu := hu_of hr
    refine ⟨_, (pss_cons (ps_if (pt_not (pt_val (pe_callD D_is_family (hr.mono (by decide)) (pa_cons (pv 0) (pa_cons (pv 1) pa_nil)))))
      (pss_one (ps_raise raiseX (EX.nm .NoFamily (by decide)).xc (EX.nm .NoFamily (by decide)).gl rfl (pa_cons pe_str pa_nil)))
      pss_nil)
      (pss_one (ps_ret (pe_callB (call_sumI rfl) (by rfl) T.n_sum L2.boot_sum (pa_cons (pe_comp (N' := ["book", "family", "other"]) (n0 := 1) (osc := defScope s_worth) (pi_range2 rfl T.n_range (pa_cons pe_int (pa_cons (pe_callB call_len_seq (by rfl) T.n_len L2.boot_len (pa_cons (pv 1) pa_nil)) pa_nil))) (fun z => (pg_name (i := 2) (show (["book", "family", "other"] : List Str).Nodup by decide +kernel) rfl (Or.inl rfl))) (fun z => pif_nil) (fun z => (pe_methD M_cost T.cl (hr.mono (by decide)) (pv 0) (pa_cons (pe_ix ix_list (pv 1) (pv 2) (fun _ _ => rfl)) (pa_cons (pv 2) pa_nil)))) rfl rfl (names_ok (N := ["book", "family"]) (by decide +kernel)) rfl) pa_nil))))), ?_⟩
    try clear hu
    try clear hu0
    try clear hu64
    try dsimp only [cxOf, cxComp, Cx.nox]
    walk_at "s"
    refine ⟨p, d, l, n, cs, fm, rfl, B, ki, n1, n12, hl, fun H1 S1 => ?_⟩
    by_cases fam : IsFam n cs fm
    case neg =>
      rw [famB_f fam]
      walk_at "s"
      exact ⟨by simp [sizeLine_eq], kx fam H1 S1⟩
    rw [famB_t fam]
    have sh := fam.shape
    walk_at "s"
    refine ⟨l, _, rfl, .inl (SqL.of (S1 _ _ hl)), ?_⟩
    rw [List.length_map, fam.len]
    walk_at "s"
    refine ⟨1, n, rfl, rng1n n12, ?_⟩
    refine comp_range_map (fun i v _ => v = .int (costOf cs (parF fm (1 + (i : Int)), 1 + (i : Int)))) (fun _ _ _ _ h _ => h) (by omega) ?_ ?_
    · intro z i ws H3 F hi hw s3 hF
      obtain ⟨w1, rfl⟩ : ∃ w1, ws = [w1] := len_one hw
      have S3 := S1.trans s3
      have B3 := B.same S3
      have hat := sh.at (t := 1 + (i : Int)) (by omega) (by omega)
      have hat' : atI (fm.map optV) (1 + (i : Int)) = some (V.int (parF fm (1 + (i : Int)))) := by
        have := atI_nat hat
        rwa [Int.toNat_of_nonneg (by omega)] at this
      have hk := sh.has (1 + (i : Int)) (by omega) (by omega)
      walk_at "s"
      refine meth_book B3 (by decide +kernel) (by decide +kernel) ?_
      walk_at "s"
      refine ⟨l, _, _, _, rfl, rfl, SqL.of (S3 _ _ hl), hat', ?_⟩
      walk_at "s"
      refine ⟨p, d, n, cs, _, _, rfl, B3, ki _ hk, fun H4 S4 => ?_⟩
      have e : optV (lookC cs (parF fm (1 + (i : Int)), 1 + (i : Int))) = V.int (costOf cs (parF fm (1 + (i : Int)), 1 + (i : Int))) := by
        unfold costOf
        cases hc : lookC cs (parF fm (1 + (i : Int)), 1 + (i : Int)) with
        | none => exact absurd hk (look_none hc)
        | some c => rfl
      rw [e]
      exact hF [some (.int (1 + (i : Int)))] _ _ rfl S4 rfl
    · intro lc vs H3 hlc s3 hv hvl hrel
      have evs : vs = ((others n).map fun t => costOf cs (parF fm t, t)).map V.int := by
        apply List.ext_getElem?
        intro i
        unfold others
        rw [List.getElem?_map, List.getElem?_map, List.getElem?_map]
        cases h1 : vs[i]? with
        | none =>
          have : vs.length ≤ i := List.getElem?_eq_none_iff.mp h1
          rw [List.getElem?_eq_none (by rw [List.length_range]; omega)]
          rfl
        | some v =>
          have hi : i < vs.length := (List.getElem?_eq_some_iff.mp h1).1
          rw [hrel i v h1, List.getElem?_range (by omega)]
          rfl
      subst evs
      walk_at "s"
      exact ⟨lc, _, rfl, SqL.of hv, kq fam _ (S1.trans s3)⟩
end
section
variable {P : Program} {w : World} {K : PySem.W.Frag} {mg : Str → Option Value} {base : Heap} {C C1 : Addr}
theorem sc_number : FnScope ["word"] ["word"] (defScope s_number) := ⟨rfl, rfl, rfl, by decide +kernel, rfl, by decide +kernel, by decide +kernel⟩
theorem bi_number : BindOk "number" "number" s_number ["word"] := fun _ _ _ _ _ _ us hl => by
  obtain ⟨_, rfl⟩ := len1D hl
  rfl
theorem d_number (F : FunAt K mg "number" "number" s_number) (T : Txt K mg C) (TN : TxtN mg) : Def P w K mg base 1 "number" ["word"] sp_number := by
  refine F.def sc_number bi_number (fun vs H Q E h => ?_) (fun f cdv A outer s H vs Q E hr h => ?_)
  · obtain ⟨n, rfl, _⟩ := h
    rfl
  · obtain ⟨n, rfl, h0, h1, q⟩ := h
    obtain ⟨t1, hg_MOST_FIGURES⟩ := TN.g_MOST_FIGURES
    obtain ⟨t2, hg_FIGURES⟩ := TN.g_FIGURES
    refine ⟨_, (pss_cons (ps_if (PW.pt (pw_or (pt_not (pt_chain op_le op_le pe_int (pe_callB call_len_str (by rfl) T.n_len L2.boot_len (pa_cons (pv 0) pa_nil)) (pe_glob (v := V.int 7) rfl hg_MOST_FIGURES ⟨_, rfl⟩))) (pw_or1 (pt_not (pt_val (pe_callB (call_allB rfl) (by rfl) T.n_all L2.boot_all (pa_cons (pe_comp (N' := ["#word", "sign"]) (n0 := 1) (osc := defScope s_number) (pi_str (pv 0)) (fun z => (pg_name (i := 1) (show (["#word", "sign"] : List Str).Nodup by decide +kernel) rfl (Or.inl rfl))) (fun z => pif_nil) (fun z => (pe_cmpR op_in_str (pv 1) (pe_glob (v := V.str "0123456789") rfl hg_FIGURES ⟨_, rfl⟩) rfl)) rfl rfl (names_ok (N := ["word"]) (by decide +kernel)) rfl) pa_nil)))))))
      (pss_one ps_never)
      pss_nil)
      (pss_one (ps_ret (pe_callTy call_intS (by rfl) T.n_int L2.boot_int (pa_cons (pv 0) pa_nil))))), ?_⟩
    try clear hu
    try clear hu0
    try clear hu64
    try dsimp only [cxOf, cxComp, Cx.nox]
    have l1 := num_pos h0
    have l2 := num_len h0 h1
    walk_at "s"
    have hA : (1 : Int) ≤ ((Str.ofString (toString n)).length : Int) := by omega
    have hB : ((Str.ofString (toString n)).length : Int) ≤ 7 := by omega
    refine ⟨_, rfl, by rw [sizeLine_eq]; omega, ?_⟩
    walk_at "s"
    refine w_istr ?_
    walk_at "s"
    refine ⟨_, rfl, num_ascii h0, ?_⟩
    have hsz : (Str.ofString (toString n)).cps.size ≤ 7 := l2
    refine comp_str (fun p i σ H' => ∃ w1, σ = [some (.str (Str.ofString (toString n))), w1] ∧ Same H H' ∧ H' p = some (.lst ((List.replicate i true).map V.bl))) ?_ ?_ ?_
    · intro p hp
      exact ⟨none, rfl, same_upd hp, upd_same⟩
    · rintro p z i c σ H1 hp hc ⟨w1, rfl, sm, hv⟩
      have hi : i < 7 := by
        have := (Array.getElem?_eq_some_iff.mp hc).1
        omega
      obtain ⟨d1, d2⟩ := num_signs h0 c (Array.mem_toList_iff.mpr (Array.mem_of_getElem? hc))
      walk_at "s"
      refine ⟨_, _, rfl, rfl, ?_⟩
      rw [figures_has c d1 d2]
      refine ⟨_, hv, by rw [List.length_map, List.length_replicate, sizeLine_eq]; omega, some (.str ⟨#[c]⟩), rfl, fun b o h => ?_, ?_⟩
      · rw [upd_ne (ne_of_none h hp)]
        exact sm _ _ h
      · rw [upd_same, List.replicate_succ', List.map_append]
        rfl
    · rintro p σ H1 hp ⟨w1, rfl, sm, hv⟩
      walk_at "s"
      refine ⟨p, _, rfl, SqL.of hv, ?_⟩
      rw [show (List.replicate (Str.ofString (toString n)).cps.size true).all id = true by simp]
      walk_at "s"
      refine ⟨n, rfl, h0, by omega, ?_⟩
      exact q _ sm
theorem sc_words_of : FnScope ["line", "many", "words"] ["line", "many"] (defScope s_words_of) := ⟨rfl, rfl, rfl, by decide +kernel, rfl, by decide +kernel, by decide +kernel⟩
theorem bi_words_of : BindOk "words_of" "words_of" s_words_of ["line", "many"] := fun _ _ _ _ _ _ us hl => by
  obtain ⟨_, _, rfl⟩ := len2D hl
  rfl
theorem d_words (F : FunAt K mg "words_of" "words_of" s_words_of) (T : Txt K mg C) : Def P w K mg base 1 "words_of" ["line", "many"] sp_words := by
  refine F.def sc_words_of bi_words_of (fun vs H Q E h => ?_) (fun f cdv A outer s H vs Q E hr h => ?_)
  · obtain ⟨line, k, ws, rfl, _⟩ := h
    rfl
  · obtain ⟨line, k, ws, rfl, hw, hk, hl, q⟩ := h
    refine ⟨_, (pss_cons (ps_set (i := 2) sc_words_of.nd rfl (Or.inl rfl) (pe_bm PySem.F.plainAttrs_str PySem.F.slot_str_split PySem.F.type_str_split mt_split (pv 0) (pa_cons pe_str pa_nil)))
      (pss_cons (ps_if (pt_cmpR op_ne (pe_callB call_len_seq (by rfl) T.n_len L2.boot_len (pa_cons (pv 2) pa_nil)) (pv 1) (nomark _))
      (pss_one ps_never)
      pss_nil)
      (pss_one (ps_ret (pv 2))))), ?_⟩
    try clear hu
    try clear hu0
    try clear hu64
    try dsimp only [cxOf, cxComp, Cx.nox]
    walk_at "s"
    refine ⟨rfl, ?_⟩
    walk_at "s"
    refine ⟨_, _, rfl, rfl, by rw [blank_eq]; rfl, by rw [sizeLine_eq]; omega, fun p hp => ?_⟩
    rw [hw]
    walk_at "s"
    refine ⟨p, _, rfl, .inl (SqL.of upd_same), ?_⟩
    rw [List.length_map, hk]
    walk_at "s"
    refine w_npos rfl ?_
    walk_at "s"
    exact q p _ (same_upd hp) hp upd_same
end

theorem never_def {P : Program} {w : World} {K : PySem.W.Frag} {mg : Str → Option Value} {base : Heap} {x qual : Str} {st : Stmt} {ps : List Str} {k : Nat} (F : FunAt K mg x qual st) (hb : BindOk x qual st ps) : Def P w K mg base k x ps (fun _ _ _ _ => False) := by
  obtain ⟨f, fd, F, e⟩ := F
  exact ⟨f, fd, ⟨fun _ _ _ _ h => h.elim, fun _ _ _ _ _ _ _ _ _ _ _ _ _ h => h.elim⟩, e, F.kp, F.binds hb⟩
theorem Exc.exm {K : PySem.W.Frag} {mg : Str → Option Value} {has : List Ex} {xa : Ex → Addr} (E : Exc K mg has xa) {x y : Ex} (hx : x ∈ has) (hy : y ∈ has) : PySem.W.exmOne K (.ref (xa x)) (.ref (xa y)) = some (isa x y) := by
  unfold PySem.W.exmOne PySem.W.kitCls
  have h1 : PySem.W.subIn K (.ref (xa y)) (.type "BaseException") = some true := (E.nm y hy).xc.mb
  obtain ⟨cd, hcd⟩ := (E.nm y hy).xc.isCls
  rw [h1, if_pos (by decide)]
  have : ((PySem.W.clsIn K (xa y)).isSome && PySem.W.typeIn K (.ref (xa y)) == some (.type "type")) = true := by rw [hcd, (E.nm y hy).ty]; rfl
  simp only [this, if_true]
  exact E.mro x hx y hy
noncomputable def sp_bookofX (xa : Ex → Addr) : Sp := fun vs H _ E => ∃ n : Int, vs = [.str (textS n [])] ∧ 13 ≤ n ∧ n ≤ 1000000 ∧ ∀ H', Same H H' → E (.ref (xa .NoBook)) none H'
noncomputable def sp_readX (xa : Ex → Addr) : Sp := fun vs H _ E => ∃ n : Int, vs = [.str (textS n [])] ∧ 13 ≤ n ∧ n ≤ 1000000 ∧ ∀ a H', Same H H' → E (.ref (xa .BadText)) (some a) H'
noncomputable def sp_lackN (xa : Ex → Addr) (C : Addr) : Sp := fun vs H _ E => ∃ (p d : Addr) (n one other : Int) (cs : Cs), vs = [.ref p, .int one, .int other] ∧ BookAt C H p d n cs ∧ refuses n one other = none ∧ lookC cs (one, other) = none ∧ ∀ H', Same H H' → E (.ref (xa .NoHearing)) none H'
section
variable {P : Program} {w : World} {K : PySem.W.Frag} {mg : Str → Option Value} {base : Heap} {C C1 : Addr} {xa : Ex → Addr}
theorem bi_let_line : BindOk "let_line" "let_line" s_let_line ["book", "line"] := fun _ _ _ _ _ _ us hl => by
  obtain ⟨_, _, rfl⟩ := len2D hl
  rfl
theorem bi_shown : BindOk "shown" "shown" s_shown ["book"] := fun _ _ _ _ _ _ us hl => by
  obtain ⟨_, rfl⟩ := len1D hl
  rfl
theorem bi_least : BindOk "least" "least" s_least ["book"] := fun _ _ _ _ _ _ us hl => by
  obtain ⟨_, rfl⟩ := len1D hl
  rfl
theorem bi_least_with : BindOk "least_with" "least_with" s_least_with ["book", "one", "other"] := fun _ _ _ _ _ _ us hl => by
  obtain ⟨_, _, _, rfl⟩ := len3D hl
  rfl
theorem sc_book_of : FnScope ["text", "lines", "book", "line"] ["text"] (defScope s_book_of) := ⟨rfl, rfl, rfl, by decide +kernel, rfl, by decide +kernel, by decide +kernel⟩
theorem bi_book_of : BindOk "book_of" "book_of" s_book_of ["text"] := fun _ _ _ _ _ _ us hl => by
  obtain ⟨_, rfl⟩ := len1D hl
  rfl
theorem x_bookof (F : FunAt K mg "book_of" "book_of" s_book_of) (T : Txt K mg C) (D_words_of : Def P w K mg base 1 "words_of" ["line", "many"] sp_words) (D_number : Def P w K mg base 1 "number" ["word"] sp_number) (D_let_line : Def P w K mg base 3 "let_line" ["book", "line"] (fun _ _ _ _ => False)) (X_Book : MakX P w K mg base C 1 "Book" ["self", "many"] (sp_initX xa C)) : DefX P w K mg base 4 "book_of" ["text"] (sp_bookofX xa) := by
  refine F.defX sc_book_of bi_book_of (fun vs H Q E h => ?_) (fun f cdv A outer s H vs Q E hr h => ?_)
  · obtain ⟨n, rfl, _⟩ := h
    rfl
  · obtain ⟨n, rfl, n13, nk, q⟩ := h
    refine ⟨_, (pss_cons (ps_set (i := 1) sc_book_of.nd rfl (Or.inl rfl) (pe_bm PySem.F.plainAttrs_str PySem.F.slot_str_split PySem.F.type_str_split mt_split (pv 0) (pa_cons pe_str pa_nil)))
      (pss_cons (ps_set (i := 2) sc_book_of.nd rfl (Or.inl rfl) (pe_makeX X_Book (hr.mono (by decide)) passX (pa_cons (pe_callD D_number (hr.mono (by decide)) (pa_cons (pe_ix ix_list (pe_callD D_words_of (hr.mono (by decide)) (pa_cons (pe_ix ix_list (pv 1) pe_int (fun _ _ => rfl)) (pa_cons pe_int pa_nil))) pe_int (fun _ _ => rfl)) pa_nil)) pa_nil)))
      (pss_cons (PS.nox (ps_for PassesOwn.never rfl (pi_list (pe_slice sl_list (pv 1) (po_some pe_int) po_none)) (pg_name (i := 3) sc_book_of.nd rfl (Or.inl rfl))
      (pss_one (ps_expr (pe_callD D_let_line (hr.mono (by decide)) (pa_cons (pv 2) (pa_cons (pv 3) pa_nil)))))))
      (pss_one (ps_ret (pv 2)))))), ?_⟩
    try clear hu
    try clear hu0
    try clear hu64
    try dsimp only [cxOf, cxComp, Cx.nox]
    have hn0 : (0 : Int) ≤ n := by omega
    have htl := text_len hn0 nk 0 [] rfl (fun e he => by cases he)
    have hhl := head_len hn0 nk
    walk_at "s"
    refine ⟨rfl, ?_⟩
    walk_at "s"
    refine ⟨_, _, rfl, rfl, by rw [nl_eq]; rfl, by rw [sizeLine_eq]; omega, fun l hl0 => ?_⟩
    rw [text_split hn0 (fun e he => by cases he)]
    have S1 := same_upd (o := .lst ([headS n].map V.str)) hl0
    have hl1 : upd H l (.lst ([headS n].map V.str)) l = some (.lst ([headS n].map V.str)) := upd_same
    walk_at "s"
    refine ⟨l, _, 0, _, rfl, rfl, SqL.of hl1, atI_nat (j := 0) rfl, ?_⟩
    walk_at "s"
    refine ⟨headS n, 2, _, rfl, head_split hn0, rfl, by omega, fun l2 H2 S2 hl20 hl2 => ?_⟩
    walk_at "s"
    refine ⟨l2, _, 1, _, rfl, rfl, SqL.of hl2, atI_nat (j := 1) rfl, ?_⟩
    walk_at "s"
    refine ⟨n, rfl, hn0, nk, fun H3 S3 => ?_⟩
    have S03 := (S1.trans S2).trans S3
    walk_at "s"
    intro x dx nx ndx nex
    refine ⟨x, dx, n, rfl, upd_same, fun z => by omega, fun _ => q _ (S03.trans fun b o e => ?_)⟩
    rw [upd_ne (ne_of_none e nx), upd_ne (ne_of_none e ndx)]
    exact e
theorem sc_read : FnScope ["text", "book", "e"] ["text"] (defScope s_read) := ⟨rfl, rfl, rfl, by decide +kernel, rfl, by decide +kernel, by decide +kernel⟩
theorem bi_read : BindOk "read" "read" s_read ["text"] := fun _ _ _ _ _ _ us hl => by
  obtain ⟨_, rfl⟩ := len1D hl
  rfl
theorem x_read (F : FunAt K mg "read" "read" s_read) (T : Txt K mg C) (EX : Exc K mg hasX xa) (X_book_of : DefX P w K mg base 4 "book_of" ["text"] (sp_bookofX xa)) (D_shown : Def P w K mg base 2 "shown" ["book"] (fun _ _ _ _ => False)) : DefX P w K mg base 5 "read" ["text"] (sp_readX xa) := by
  refine F.defX sc_read bi_read (fun vs H Q E h => ?_) (fun f cdv A outer s H vs Q E hr h => ?_)
  · obtain ⟨n, rfl, _⟩ := h
    rfl
  · obtain ⟨n, rfl, n13, nk, q⟩ := h
    have hu64 := hr.units
    refine ⟨_, (pss_cons (ps_tryFrom (E := fun σ c d H' => σ = [some (.str (textS n [])), none, none] ∧ c = .ref (xa .NoBook) ∧ d = none ∧ Same H H') (EX.nm .BadText (by decide)).xc (EX.nm .BadText (by decide)).gl (EX.nm .NoBook (by decide)).gl (EX.nm .NoTeller (by decide)).gl (EX.nm .Alone (by decide)).gl (EX.nm .First (by decide)).gl rfl rfl rfl heldX (fun F pn hx =>
      (pss_one (ps_set (i := 1) sc_read.nd rfl (Or.inl rfl) (pe_callX X_book_of (hr.mono (by decide)) hx (pa_cons (pv 0) pa_nil))))) (fun e =>
      (pa_cons pe_str pa_nil)) sc_read.nd (i := 2) rfl rfl)
      (pss_cons (ps_if (pt_cmpR op_ne (pe_callD D_shown (hr.mono (by decide)) (pa_cons (pv 1) pa_nil)) (pv 0) (nomark _))
      (pss_one (ps_raise raiseX (EX.nm .BadText (by decide)).xc (EX.nm .BadText (by decide)).gl rfl (pa_cons pe_str pa_nil)))
      pss_nil)
      (pss_one (ps_ret (pv 1))))), ?_⟩
    try clear hu
    try clear hu0
    try clear hu64
    try dsimp only [cxOf, cxComp, Cx.nox]
    walk_at "s"
    refine ⟨?_, ?_⟩
    · walk_at "s"
      exact ⟨n, rfl, n13, nk, fun H' S => ⟨rfl, rfl, rfl, S⟩⟩
    · rintro σ' c dd H' hl' ⟨rfl, rfl, rfl, sm⟩
      refine ⟨rfl, _, rfl, (EX.nm .NoBook (by decide)).xc, ?_, fun a ha => ?_⟩
      · unfold PySem.W.exmAny PySem.W.exmAny PySem.W.exmAny PySem.W.exmAny PySem.W.exmAny
        rw [EX.exm (x := .NoBook) (y := .NoBook) (by decide) (by decide), EX.exm (x := .NoBook) (y := .NoTeller) (by decide) (by decide), EX.exm (x := .NoBook) (y := .Alone) (by decide) (by decide), EX.exm (x := .NoBook) (y := .First) (by decide) (by decide)]
        rfl
      · walk_at "s"
        exact ⟨by simp [sizeLine_eq], q a _ sm⟩
theorem sc_lack : FnScope ["book", "one", "other", "having"] ["book", "one", "other"] (defScope s_lack) := ⟨rfl, rfl, rfl, by decide +kernel, rfl, by decide +kernel, by decide +kernel⟩
theorem bi_lack : BindOk "lack" "lack" s_lack ["book", "one", "other"] := fun _ _ _ _ _ _ us hl => by
  obtain ⟨_, _, _, rfl⟩ := len3D hl
  rfl
theorem x_lackN (F : FunAt K mg "lack" "lack" s_lack) (T : Txt K mg C) (EX : Exc K mg hasX xa) (X_cost : MetX P w K mg base C 2 "cost" ["self", "one", "other"] (sp_costX xa C)) (D_least : Def P w K mg base 5 "least" ["book"] (fun _ _ _ _ => False)) (D_least_with : Def P w K mg base 5 "least_with" ["book", "one", "other"] (fun _ _ _ _ => False)) :
    DefX P w K mg base 6 "lack" ["book", "one", "other"] (sp_lackN xa C) := by
  refine F.defX sc_lack bi_lack (fun vs H Q E h => ?_) (fun f cdv A outer s0 H vs Q E hr h => ?_)
  · obtain ⟨p, d, n, one, other, cs, rfl, _⟩ := h
    rfl
  · obtain ⟨b, db, n, one, other, cs, rfl, B, hre, hlk, kN⟩ := h
    refine ⟨_, (pss_cons (ps_if (pt_cmpR op_isN (pe_methX X_cost T.cl (hr.mono (by decide)) passX (pv 0) (pa_cons (pv 1) (pa_cons (pv 2) pa_nil))) pe_non (nomark _))
      (pss_one (ps_raise raiseX (EX.nm .NoHearing (by decide)).xc (EX.nm .NoHearing (by decide)).gl rfl (pa_cons pe_str pa_nil)))
      pss_nil)
      (pss_cons (ps_set (i := 3) sc_lack.nd rfl (Or.inl rfl) (pe_callD D_least_with (hr.mono (by decide)) (pa_cons (pv 0) (pa_cons (pv 1) (pa_cons (pv 2) pa_nil)))))
      (pss_cons (ps_if (pt_cmpR op_isN (pv 3) pe_non (nomark _))
      (pss_one (ps_ret pe_non))
      pss_nil)
      (pss_one (ps_ret (pe_op op_sub (pv 3) (pe_callD D_least (hr.mono (by decide)) (pa_cons (pv 0) pa_nil)))))))), ?_⟩
    try clear hu
    try clear hu0
    try clear hu64
    try dsimp only [cxOf, cxComp, Cx.nox]
    walk_at "s"
    refine meth_book B (by decide +kernel) (by decide +kernel) ?_
    walk_at "s"
    refine ⟨b, db, n, cs, one, other, rfl, B, fun _ H1 S1 => ?_, fun x hx => by rw [hre] at hx; cases hx⟩
    walk_at "s"
    rw [hlk]
    refine w_pos rfl ?_
    walk_at "s"
    exact ⟨by simp [sizeLine_eq], kN H1 S1⟩
end

noncomputable def exOf : Nat → Ex
  | 0 => .NoBook
  | 1 => .NoTeller
  | 2 => .Alone
  | 3 => .First
  | 4 => .NoHearing
  | 5 => .NoFamily
  | _ => .BadText
noncomputable def sevenX : List Ex := [.NoBook, .NoTeller, .Alone, .First, .NoHearing, .NoFamily, .BadText]
theorem isa_seven : ∀ k < 7, sevenX.map (isa (exOf k)) = (List.range 7).map fun (i : Nat) => decide ((i : Int) = (k : Int)) := by decide
theorem reps_bools {H : Hp} : ∀ bs : List Bool, DReps H (bs.map V.bl) (bs.map PyData.bool)
  | [] => .nil
  | b :: r => .cons (.bl b) (reps_bools r)
theorem lay_bools : ∀ bs : List Bool, PyData.canLay0 (.list (bs.map PyData.bool)) = true
  | [] => rfl
  | b :: r => lay_bools r
theorem depth_bools : ∀ bs : List Bool, PyData.depthAll (bs.map PyData.bool) = 0
  | [] => rfl
  | b :: r => by
    show max _ _ = 0
    rw [depth_bools r]
    rfl
noncomputable def sp_refuses (xa : Ex → Addr) : Sp := fun vs H _ E => ∃ (k : Nat) (cell : Int), vs = [.int k, .int cell] ∧ k < 7 ∧ 0 ≤ cell ∧ cell < 999983 ∧ ∀ d H', Same H H' → E (.ref (xa (exOf k))) d H'
inductive sp_classes (xa : Ex → Addr) (vs : List V) (H : Hp) (Q : VK) (E : XK) : Prop
  | mk (a : Addr) (x : Ex) (h09 : vs = [.ref a]) (h19 : H a = some (excO a (xa x))) (h29 : x ∈ sevenX) (h39 : ∀ l H', Same H H' → H l = none → H' l = some (.lst ((sevenX.map (isa x)).map V.bl)) → Q (.ref l) H') : sp_classes xa vs H Q E
inductive sp_caught (vs : List V) (H : Hp) (Q : VK) (E : XK) : Prop
  | mk (k : Nat) (cell : Int) (h09 : vs = [.int k, .int cell]) (h19 : k < 7) (h29 : 0 ≤ cell) (h39 : cell < 999983) (h49 : ∀ H', Same H H' → Q (.bl true) H') : sp_caught vs H Q E
section
variable {P : Program} {w : World} {K : PySem.W.Frag} {mg : Str → Option Value} {base : Heap} {C C1 : Addr} {xa : Ex → Addr}
theorem sc_law_refuses : FnScope ["which", "cell", "book"] ["which", "cell"] (defScope s_law_refuses) := ⟨rfl, rfl, rfl, by decide +kernel, rfl, by decide +kernel, by decide +kernel⟩
theorem bi_law_refuses : BindOk "_law_refuses" "_law_refuses" s_law_refuses ["which", "cell"] := fun _ _ _ _ _ _ us hl => by
  obtain ⟨_, _, rfl⟩ := len2D hl
  rfl
theorem x_refuses (F : FunAt K mg "_law_refuses" "_law_refuses" s_law_refuses) (T : Txt K mg C) (EX : Exc K mg hasX xa) (X_Book : MakX P w K mg base C 1 "Book" ["self", "many"] (sp_initX xa C)) (X_let : MetX P w K mg base C 2 "let" ["self", "one", "other", "cost"] (sp_letX xa C)) (X_ban : MetX P w K mg base C 2 "ban" ["self", "one", "other"] (sp_banX xa C))
    (X_lack : DefX P w K mg base 6 "lack" ["book", "one", "other"] (sp_lackN xa C)) (X_worth : DefX P w K mg base 5 "worth" ["book", "family"] (sp_worthX xa C)) (X_read : DefX P w K mg base 5 "read" ["text"] (sp_readX xa)) : DefX P w K mg base 7 "_law_refuses" ["which", "cell"] (sp_refuses xa) := by
  refine F.defX sc_law_refuses bi_law_refuses (fun vs H Q E h => ?_) (fun f cdv A outer s H vs Q E hr h => ?_)
  · obtain ⟨k, cell, rfl, _⟩ := h
    rfl
  · obtain ⟨k, cell, rfl, k7, c0, c1, q⟩ := h
    refine ⟨_, (pss_cons (ps_if (pt_cmpR op_eq (pv 0) pe_int (nomark _))
      (pss_one (ps_expr (pe_makeX X_Book (hr.mono (by decide)) passX (pa_cons (pe_op op_add pe_int (pv 1)) pa_nil))))
      pss_nil)
      (pss_cons (ps_set (i := 2) sc_law_refuses.nd rfl (Or.inl rfl) (pe_makeX X_Book (hr.mono (by decide)) passX (pa_cons pe_int pa_nil)))
      (pss_cons (ps_if (pt_cmpR op_eq (pv 0) pe_int (nomark _))
      (pss_one (ps_expr (pe_methX X_let T.cl (hr.mono (by decide)) passX (pv 2) (pa_cons pe_int (pa_cons (pe_op op_add pe_int (pv 1)) (pa_cons pe_int pa_nil))))))
      pss_nil)
      (pss_cons (ps_if (pt_cmpR op_eq (pv 0) pe_int (nomark _))
      (pss_one (ps_expr (pe_methX X_let T.cl (hr.mono (by decide)) passX (pv 2) (pa_cons pe_int (pa_cons pe_int (pa_cons (pv 1) pa_nil))))))
      pss_nil)
      (pss_cons (ps_if (pt_cmpR op_eq (pv 0) pe_int (nomark _))
      (pss_one (ps_expr (pe_methX X_ban T.cl (hr.mono (by decide)) passX (pv 2) (pa_cons pe_int (pa_cons pe_int pa_nil)))))
      pss_nil)
      (pss_cons (ps_if (pt_cmpR op_eq (pv 0) pe_int (nomark _))
      (pss_one (ps_expr (pe_callX X_lack (hr.mono (by decide)) passX (pa_cons (pv 2) (pa_cons pe_int (pa_cons pe_int pa_nil))))))
      pss_nil)
      (pss_cons (ps_if (pt_cmpR op_eq (pv 0) pe_int (nomark _))
      (pss_one (ps_expr (pe_callX X_worth (hr.mono (by decide)) passX (pa_cons (pv 2) (pa_cons (pe_lst (pa_cons pe_non (pa_cons pe_int (pa_cons (pe_op op_mod (pv 1) pe_int) pa_nil)))) pa_nil)))))
      pss_nil)
      (pss_one (ps_if (pt_cmpR op_eq (pv 0) pe_int (nomark _))
      (pss_one (ps_expr (pe_callX X_read (hr.mono (by decide)) passX (pa_cons (pe_op op_add_str pe_str (pe_callTy call_str_int (by rfl) T.n_str L2.boot_str (pa_cons (pe_op op_add pe_int (pv 1)) pa_nil))) pa_nil))))
      pss_nil))))))))), ?_⟩
    try clear hu
    try clear hu0
    try clear hu64
    try dsimp only [cxOf, cxComp, Cx.nox]
    walk_at "s"
    by_cases k0 : (k : Int) = 0
    · obtain rfl : k = 0 := by omega
      refine w_pos rfl ?_
      walk_at "s"
      intro x dx nx ndx nex
      refine ⟨x, dx, _, rfl, upd_same, fun z => by omega, fun _ => q _ _ fun b o e => ?_⟩
      rw [upd_ne (ne_of_none e nx), upd_ne (ne_of_none e ndx)]
      exact e
    refine w_neg k0 ?_
    walk_at "s"
    intro x dx nx ndx nex
    refine ⟨x, dx, 3, rfl, upd_same, fun _ d H1 hd B1 kp1 => ⟨rfl, ?_⟩, fun z => absurd (And.intro (by decide) (by decide)) z⟩
    have S1 : Same H H1 := fun b o e => kp1 b o (by rw [upd_ne (ne_of_none e nx), upd_ne (ne_of_none e ndx)]; exact e) (ne_of_none e nx)
    walk_at "s"
    by_cases k1 : (k : Int) = 1
    · obtain rfl : k = 1 := by omega
      refine w_pos rfl ?_
      walk_at "s"
      refine meth_book B1 (by decide +kernel) (by decide +kernel) ?_
      walk_at "s"
      have hre : refuses 3 0 (3 + cell) = some .NoTeller := by unfold refuses; rw [if_pos (fun z => by omega)]
      refine ⟨x, d, 3, [], 0, 3 + cell, 1, rfl, B1, by decide, (fun z => by rw [hre] at z; cases z), fun y hy => ?_⟩
      rw [hre] at hy
      cases hy
      exact q _ _ S1
    refine w_neg k1 ?_
    walk_at "s"
    by_cases k2 : (k : Int) = 2
    · obtain rfl : k = 2 := by omega
      refine w_pos rfl ?_
      walk_at "s"
      refine meth_book B1 (by decide +kernel) (by decide +kernel) ?_
      walk_at "s"
      have hre : refuses 3 2 2 = some .Alone := by decide
      refine ⟨x, d, 3, [], 2, 2, cell, rfl, B1, by decide, (fun z => by rw [hre] at z; cases z), fun y hy => ?_⟩
      rw [hre] at hy
      cases hy
      exact q _ _ S1
    refine w_neg k2 ?_
    walk_at "s"
    by_cases k3 : (k : Int) = 3
    · obtain rfl : k = 3 := by omega
      refine w_pos rfl ?_
      walk_at "s"
      refine meth_book B1 (by decide +kernel) (by decide +kernel) ?_
      walk_at "s"
      have hre : refuses 3 1 0 = some .First := by decide
      refine ⟨x, d, 3, [], 1, 0, rfl, B1, (fun z => by rw [hre] at z; cases z), (fun z => by rw [hre] at z; cases z), fun y hy => ?_⟩
      rw [hre] at hy
      cases hy
      exact q _ _ S1
    refine w_neg k3 ?_
    walk_at "s"
    by_cases k4 : (k : Int) = 4
    · obtain rfl : k = 4 := by omega
      refine w_pos rfl ?_
      walk_at "s"
      exact ⟨x, d, 3, 1, 2, [], rfl, B1, by decide, rfl, fun H2 S2 => q _ _ (S1.trans S2)⟩
    refine w_neg k4 ?_
    walk_at "s"
    by_cases k5 : (k : Int) = 5
    · obtain rfl : k = 5 := by omega
      refine w_pos rfl ?_
      walk_at "s"
      refine ⟨by simp [sizeLine_eq], fun lf hlf => ?_⟩
      have S2 := same_upd (o := .lst [.non, .int 0, .int (cell % 2)]) hlf
      have hl2 : upd H1 lf (.lst [.non, .int 0, .int (cell % 2)]) lf = some (.lst (([none, some 0, some (cell % 2)] : Fam).map optV)) := upd_same
      refine ⟨x, d, lf, 3, [], _, rfl, B1.same S2, (fun k hk => by cases hk), by decide, by decide, hl2, fun z => ?_, fun _ H3 S3 => q _ _ ((S1.trans S2).trans S3)⟩
      have := z.fp.has 1 (by decide) (by decide)
      cases this
    refine w_neg k5 ?_
    walk_at "s"
    obtain rfl : k = 6 := by omega
    refine w_pos rfl ?_
    walk_at "s"
    refine ⟨13 + cell, rfl, small_log (by omega) (by omega), ?_⟩
    walk_at "s"
    refine ⟨_, _, rfl, rfl, ?_, ?_⟩
    · have h2 := num_len (show (0 : Int) ≤ 13 + cell by omega) (by omega)
      have h3 : ("tellers " : Str).length = 8 := by decide +kernel
      rw [sizeLine_eq]
      omega
    walk_at "s"
    exact ⟨13 + cell, rfl, by omega, by omega, fun a H2 S2 => q _ _ (S1.trans S2)⟩
theorem sc_law_classes : FnScope ["e", "found"] ["e"] (defScope s_law_classes) := ⟨rfl, rfl, rfl, by decide +kernel, rfl, by decide +kernel, by decide +kernel⟩
theorem bi_law_classes : BindOk "_law_classes" "_law_classes" s_law_classes ["e"] := fun _ _ _ _ _ _ us hl => by
  obtain ⟨_, rfl⟩ := len1D hl
  rfl
theorem u_classes (F : FunAt K mg "_law_classes" "_law_classes" s_law_classes) (T : Txt K mg C) (EX : Exc K mg hasX xa) : DefU P w K mg base 1 "_law_classes" ["e"] (sp_classes xa) := by
  refine F.defU sc_law_classes bi_law_classes (fun vs H Q E h => ?_) (fun f cdv A outer s H vs Q hr h => ?_)
  · obtain ⟨a, x, rfl, _⟩ := h
    rfl
  · obtain ⟨a, x, rfl, ha, hx7, q⟩ := h
    have hxm : x ∈ hasX := by revert hx7; cases x <;> decide
    have hx : XCls K (xa x) := (EX.nm x hxm).xc
    refine ⟨_, (pss_cons (ps_set (i := 1) sc_law_classes.nd rfl (Or.inl rfl) (pe_lst (pa_cons (pe_callB (call_isiK K rfl) (by rfl) T.n_isinstance L2.boot_isinstance (pa_cons (pv 0) (pa_cons (pe_glob (v := V.ref (xa .NoBook)) rfl (EX.nm .NoBook (by decide)).gl rfl) pa_nil))) (pa_cons (pe_callB (call_isiK K rfl) (by rfl) T.n_isinstance L2.boot_isinstance (pa_cons (pv 0) (pa_cons (pe_glob (v := V.ref (xa .NoTeller)) rfl (EX.nm .NoTeller (by decide)).gl rfl) pa_nil))) (pa_cons (pe_callB (call_isiK K rfl) (by rfl) T.n_isinstance L2.boot_isinstance (pa_cons (pv 0) (pa_cons (pe_glob (v := V.ref (xa .Alone)) rfl (EX.nm .Alone (by decide)).gl rfl) pa_nil))) (pa_cons (pe_callB (call_isiK K rfl) (by rfl) T.n_isinstance L2.boot_isinstance (pa_cons (pv 0) (pa_cons (pe_glob (v := V.ref (xa .First)) rfl (EX.nm .First (by decide)).gl rfl) pa_nil))) pa_nil))))))
      (pss_one (ps_ret (pe_op op_cat (pv 1) (pe_lst (pa_cons (pe_callB (call_isiK K rfl) (by rfl) T.n_isinstance L2.boot_isinstance (pa_cons (pv 0) (pa_cons (pe_glob (v := V.ref (xa .NoHearing)) rfl (EX.nm .NoHearing (by decide)).gl rfl) pa_nil))) (pa_cons (pe_callB (call_isiK K rfl) (by rfl) T.n_isinstance L2.boot_isinstance (pa_cons (pv 0) (pa_cons (pe_glob (v := V.ref (xa .NoFamily)) rfl (EX.nm .NoFamily (by decide)).gl rfl) pa_nil))) (pa_cons (pe_callB (call_isiK K rfl) (by rfl) T.n_isinstance L2.boot_isinstance (pa_cons (pv 0) (pa_cons (pe_glob (v := V.ref (xa .BadText)) rfl (EX.nm .BadText (by decide)).gl rfl) pa_nil))) pa_nil)))))))), ?_⟩
    try clear hu
    try clear hu0
    try clear hu64
    try dsimp only [cxOf, cxComp, Cx.nox]
    walk_at "s"
    refine ⟨a, _, _, _, rfl, ha, hx, (fun z => nomatch z), EX.kit (x := x) (y := .NoBook) hxm (by decide), ?_⟩
    walk_at "s"
    refine ⟨a, _, _, _, rfl, ha, hx, (fun z => nomatch z), EX.kit (x := x) (y := .NoTeller) hxm (by decide), ?_⟩
    walk_at "s"
    refine ⟨a, _, _, _, rfl, ha, hx, (fun z => nomatch z), EX.kit (x := x) (y := .Alone) hxm (by decide), ?_⟩
    walk_at "s"
    refine ⟨a, _, _, _, rfl, ha, hx, (fun z => nomatch z), EX.kit (x := x) (y := .First) hxm (by decide), ?_⟩
    walk_at "s"
    refine ⟨by simp [sizeLine_eq], fun l1 hl1 => ?_⟩
    have S1 := same_upd (o := .lst [.bl (isa x .NoBook), .bl (isa x .NoTeller), .bl (isa x .Alone), .bl (isa x .First)]) hl1
    have ha1 := S1 _ _ ha
    walk_at "s"
    refine ⟨a, _, _, _, rfl, ha1, hx, (fun z => nomatch z), EX.kit (x := x) (y := .NoHearing) hxm (by decide), ?_⟩
    walk_at "s"
    refine ⟨a, _, _, _, rfl, ha1, hx, (fun z => nomatch z), EX.kit (x := x) (y := .NoFamily) hxm (by decide), ?_⟩
    walk_at "s"
    refine ⟨a, _, _, _, rfl, ha1, hx, (fun z => nomatch z), EX.kit (x := x) (y := .BadText) hxm (by decide), ?_⟩
    walk_at "s"
    refine ⟨by simp [sizeLine_eq], fun l2 hl2 => ?_⟩
    have S2 := same_upd (o := .lst [.bl (isa x .NoHearing), .bl (isa x .NoFamily), .bl (isa x .BadText)]) hl2
    walk_at "s"
    refine ⟨l1, l2, _, _, rfl, rfl, S2 _ _ upd_same, upd_same, by simp [sizeLine_eq], fun l3 hl3 => ?_⟩
    exact q l3 _ ((S1.trans S2).trans (same_upd hl3)) ((S1.trans S2).free hl3) upd_same
theorem sc_law_caught : FnScope ["which", "cell", "found", "value", "e"] ["which", "cell"] (defScope s_law_caught) := ⟨rfl, rfl, rfl, by decide +kernel, rfl, by decide +kernel, by decide +kernel⟩
theorem bi_law_caught : BindOk "_law_caught" "_law_caught" s_law_caught ["which", "cell"] := fun _ _ _ _ _ _ us hl => by
  obtain ⟨_, _, rfl⟩ := len2D hl
  rfl
theorem d_caught (F : FunAt K mg "_law_caught" "_law_caught" s_law_caught) (T : Txt K mg C) (EX : Exc K mg hasX xa) (X_law_refuses : DefX P w K mg base 7 "_law_refuses" ["which", "cell"] (sp_refuses xa)) (U_law_classes : DefU P w K mg base 1 "_law_classes" ["e"] (sp_classes xa)) : Def P w K mg base 8 "_law_caught" ["which", "cell"] sp_caught := by
  refine F.def sc_law_caught bi_law_caught (fun vs H Q E h => ?_) (fun f cdv A outer s H vs Q E hr h => ?_)
  · obtain ⟨k, cell, rfl, _⟩ := h
    rfl
  · obtain ⟨k, cell, rfl, k7, c0, c1, q⟩ := h
    have hu64 := hr.units
    have hxs : exOf k ∈ sevenX := by revert k7; intro h; rcases (show k = 0 ∨ k = 1 ∨ k = 2 ∨ k = 3 ∨ k = 4 ∨ k = 5 ∨ k = 6 by omega) with rfl | rfl | rfl | rfl | rfl | rfl | rfl <;> decide
    have hxm : exOf k ∈ hasX := by revert hxs; cases exOf k <;> decide
    have hx : XCls K (xa (exOf k)) := (EX.nm (exOf k) hxm).xc
    have hmro : PySem.W.mroIn K (xa (exOf k)) (.ref (xa .HearError)) = some true := (EX.mro (exOf k) hxm .HearError (by decide)).trans (by simp [isa])
    refine ⟨_, (pss_cons (ps_set (i := 2) sc_law_caught.nd rfl (Or.inl rfl) (pe_lst pa_nil))
      (pss_cons (ps_set (i := 3) sc_law_caught.nd rfl (Or.inl rfl) pe_bl)
      (pss_cons (ps_try (E := fun σ c _ H' => ∃ l0, σ = [some (.int k), some (.int cell), some (.ref l0), some (.bl false), none] ∧ c = .ref (xa (exOf k)) ∧ Same H H') (EX.nm .HearError (by decide)).xc (EX.nm .HearError (by decide)).gl rfl rfl (fun F pn hx =>
      (pss_one (ps_expr (pe_callX X_law_refuses (hr.mono (by decide)) hx (pa_cons (pv 0) (pa_cons (pv 1) pa_nil)))))) (fun e =>
      (pss_cons (ps_set (i := 2) sc_law_caught.nd rfl (Or.inl rfl) (pe_callU U_law_classes ((hr.u.mark _).mono (by decide)) (pa_cons (pv 4) pa_nil)))
      (pss_one (ps_set (i := 3) sc_law_caught.nd rfl (Or.inl rfl) (pe_callB (call_isiK K rfl) (by rfl) T.n_isinstance L2.boot_isinstance (pa_cons (pv 4) (pa_cons (pe_bltn (v := V.ty "ValueError") rfl T.n_ValueError L2.boot_ValueError rfl) pa_nil))))))) sc_law_caught.nd (i := 4) rfl rfl)
      (pss_one (ps_ret (pe_and (pv 3) (pe_one (pe_cmpR (op_eqD hu64) (pv 2) (pe_comp (N' := ["which", "#cell", "#found", "#value", "#e", "k"]) (n0 := 1) (osc := defScope s_law_caught) (pi_range1 rfl T.n_range (pa_cons pe_int pa_nil)) (fun z => (pg_name (i := 5) (show (["which", "#cell", "#found", "#value", "#e", "k"] : List Str).Nodup by decide +kernel) rfl (Or.inl rfl))) (fun z => pif_nil) (fun z => (pe_cmpR op_eq (pv 5) (pv 0) (nomark _))) rfl rfl (names_ok (N := ["which", "cell", "found", "value", "e"]) (by decide +kernel)) rfl) (nomark _))))))))), ?_⟩
    try clear hu
    try clear hu0
    try clear hu64
    try dsimp only [cxOf, cxComp, Cx.nox]
    walk_at "s"
    refine ⟨Nat.zero_le _, fun l0 hl0 => ?_⟩
    have S0 := same_upd (o := .lst []) hl0
    walk_at "s"
    refine ⟨?_, ?_⟩
    · walk_at "s"
      exact ⟨k, cell, rfl, k7, c0, c1, fun d H' S => ⟨l0, rfl, rfl, S0.trans S⟩⟩
    · rintro σ' c dd H' hl' ⟨l0', rfl, rfl, sm⟩
      refine ⟨_, rfl, hmro, fun a ha => ?_⟩
      walk_at "s"
      refine ⟨a, exOf k, rfl, upd_same, hxs, fun l H2 S2 hl20 hl2 => ?_⟩
      have S02 := (sm.trans (same_upd ha)).trans S2
      walk_at "s"
      refine ⟨a, _, _, _, rfl, S2 _ _ upd_same, hx, (fun z => nomatch z), EX.kitV hxm, ?_⟩
      walk_at "s"
      refine ⟨7, rfl, by decide, by decide, ?_⟩
      refine comp_range (n := 7) (fun e j σ H' => ∃ w1, σ = [some (.int k), some (.int cell), some (.ref l), some (.bl true), none, w1] ∧ Same H2 H' ∧ H' e = some (.lst (((List.range j).map fun (i : Nat) => decide ((i : Int) = (k : Int))).map V.bl))) ?_ ?_ ?_
      · intro e he
        exact ⟨none, rfl, same_upd he, upd_same⟩
      · rintro e z j σ H3 he hj ⟨w1, rfl, s3, hv⟩
        walk_at "s"
        refine ⟨_, hv, by rw [List.length_map, List.length_map, List.length_range, sizeLine_eq]; omega, _, rfl, fun b o h => ?_, ?_⟩
        · rw [upd_ne (ne_of_none h he)]
          exact s3 _ _ h
        · rw [upd_same, List.range_succ, List.map_append, List.map_append, Int.zero_add]
          rfl
      · rintro e σ H3 he ⟨w1, rfl, s3, hv⟩
        rw [← isa_seven k k7] at hv
        refine w_sameD (d := .list ((sevenX.map (isa (exOf k))).map PyData.bool)) (.lst (s3 _ _ hl2) (reps_bools _)) (.lst hv (reps_bools _)) (lay_bools _) (by show PyData.depthAll _ + 1 ≤ 60; rw [depth_bools]; decide) ?_
        exact q _ (S02.trans s3)
theorem sc_law : FnScope ["script", "cell", "k"] ["script"] (defScope s_law) := ⟨rfl, rfl, rfl, by decide +kernel, rfl, by decide +kernel, by decide +kernel⟩
theorem law_body (T : Txt K mg C) (D_law_cell_at : Def P w K mg base 1 "_law_cell_at" ["script", "k"] (sp_cell K)) (D_law_caught : Def P w K mg base 8 "_law_caught" ["which", "cell"] sp_caught) : BodyOk P w K mg base "law" s_law ["script", "cell", "k"] 8 (spLaw K) := by
  intro f cdv A outer s0 H vs Q E hr h
  obtain ⟨a, ns, rfl, hS, hlen, q⟩ := h
  refine ⟨_, (pss_cons (ps_set (i := 1) sc_law.nd rfl (Or.inl rfl) (pe_op op_mod (pe_callD D_law_cell_at (hr.mono (by decide)) (pa_cons (pv 0) (pa_cons pe_int pa_nil))) pe_int))
      (pss_cons (ps_for PassesOwn.never rfl (pi_range1 rfl T.n_range (pa_cons pe_int pa_nil)) (pg_name (i := 2) sc_law.nd rfl (Or.inl rfl))
      (pss_one (ps_if (pt_not (pt_val (pe_callD D_law_caught (hr.mono (by decide)) (pa_cons (pe_op op_mod (pe_op op_add (pe_callD D_law_cell_at (hr.mono (by decide)) (pa_cons (pv 0) (pa_cons pe_int pa_nil))) (pv 2)) pe_int) (pa_cons (pv 1) pa_nil)))))
      (pss_one (ps_ret pe_bl))
      pss_nil)))
      (pss_one (ps_ret pe_bl)))), ?_⟩
  try clear hu
  try clear hu0
  try clear hu64
  try dsimp only [cxOf, cxComp, Cx.nox]
  walk_at "s"
  refine ⟨a, ns, 1, rfl, hS, hlen, by decide, ?_⟩
  have c0 := Int.emod_nonneg (cellF ns 1) (show (999983 : Int) ≠ 0 by decide)
  have c1 := Int.emod_lt_of_pos (cellF ns 1) (show (0 : Int) < 999983 by decide)
  walk_at "s"
  generalize cellF ns 1 % 999983 = cell at c0 c1
  refine ⟨7, rfl, by decide, by decide, for_range (n := 7) (fun i σ H' => ∃ o, σ = [some (.ref a), some (.int cell), o] ∧ Same H H') ⟨none, rfl, Same.refl _⟩ ?_ ?_⟩
  · rintro i σ H1 hi ⟨o, rfl, sm⟩
    walk_at "s"
    refine ⟨a, ns, 0, rfl, sm.seq hS, hlen, by decide, ?_⟩
    have m0 := Int.emod_nonneg (cellF ns 0 + (0 + (i : Int))) (show (7 : Int) ≠ 0 by decide)
    have m1 := Int.emod_lt_of_pos (cellF ns 0 + (0 + (i : Int))) (show (0 : Int) < 7 by decide)
    walk_at "s"
    obtain ⟨k, hk⟩ : ∃ k : Nat, (cellF ns 0 + (0 + (i : Int))) % 7 = k := ⟨((cellF ns 0 + (0 + (i : Int))) % 7).toNat, by omega⟩
    rw [hk]
    refine ⟨k, cell, rfl, by omega, c0, c1, fun H2 S2 => ?_⟩
    walk_at "s"
    exact ⟨_, rfl, sm.trans S2⟩
  · rintro σ H1 ⟨o, rfl, sm⟩
    walk_at "s"
    exact q _
end
theorem all_mk {l : PySem.W.OpenLaw} {w : World} {K : PySem.W.Frag} {h : Heap} {mg : Str → Option Value} {fa C : Addr} (X : K.In h) (G : h.Ns mainGlobals mg) (hfa : mg "law" = some (.ref fa))
    {C1 : Addr}
    {f1 : Addr} {od1 an1 : Option Addr} {sl1 : Array (Option Value)} {oc1 kV1 dc1 pm1 cd1 ct1 : Value}
    {f2 : Addr} {od2 an2 : Option Addr} {sl2 : Array (Option Value)} {oc2 kV2 dc2 pm2 cd2 ct2 : Value}
    {f3 : Addr} {od3 an3 : Option Addr} {sl3 : Array (Option Value)} {oc3 kV3 dc3 pm3 cd3 ct3 : Value}
    {f4 : Addr} {od4 an4 : Option Addr} {sl4 : Array (Option Value)} {oc4 kV4 dc4 pm4 cd4 ct4 : Value}
    {f5 : Addr} {od5 an5 : Option Addr} {sl5 : Array (Option Value)} {oc5 kV5 dc5 pm5 cd5 ct5 : Value}
    {f6 : Addr} {od6 an6 : Option Addr} {sl6 : Array (Option Value)} {oc6 kV6 dc6 pm6 cd6 ct6 : Value}
    {f7 : Addr} {od7 an7 : Option Addr} {sl7 : Array (Option Value)} {oc7 kV7 dc7 pm7 cd7 ct7 : Value}
    {f8 : Addr} {od8 an8 : Option Addr} {sl8 : Array (Option Value)} {oc8 kV8 dc8 pm8 cd8 ct8 : Value}
    {f9 : Addr} {od9 an9 : Option Addr} {sl9 : Array (Option Value)} {oc9 kV9 dc9 pm9 cd9 ct9 : Value}
    {f10 : Addr} {od10 an10 : Option Addr} {sl10 : Array (Option Value)} {oc10 kV10 dc10 pm10 cd10 ct10 : Value}
    {f11 : Addr} {od11 an11 : Option Addr} {sl11 : Array (Option Value)} {oc11 kV11 dc11 pm11 cd11 ct11 : Value}
    {f12 : Addr} {od12 an12 : Option Addr} {sl12 : Array (Option Value)} {oc12 kV12 dc12 pm12 cd12 ct12 : Value}
    {f13 : Addr} {od13 an13 : Option Addr} {sl13 : Array (Option Value)} {oc13 kV13 dc13 pm13 cd13 ct13 : Value}
    {f14 : Addr} {od14 an14 : Option Addr} {sl14 : Array (Option Value)} {oc14 kV14 dc14 pm14 cd14 ct14 : Value}
    {f15 : Addr} {od15 an15 : Option Addr} {sl15 : Array (Option Value)} {oc15 kV15 dc15 pm15 cd15 ct15 : Value}
    {f16 : Addr} {od16 an16 : Option Addr} {sl16 : Array (Option Value)} {oc16 kV16 dc16 pm16 cd16 ct16 : Value}
    {f17 : Addr} {od17 an17 : Option Addr} {sl17 : Array (Option Value)} {oc17 kV17 dc17 pm17 cd17 ct17 : Value}
    {f18 : Addr} {od18 an18 : Option Addr} {sl18 : Array (Option Value)} {oc18 kV18 dc18 pm18 cd18 ct18 : Value}
    {f19 : Addr} {od19 an19 : Option Addr} {sl19 : Array (Option Value)} {oc19 kV19 dc19 pm19 cd19 ct19 : Value}
    {f20 : Addr} {od20 an20 : Option Addr} {sl20 : Array (Option Value)} {oc20 kV20 dc20 pm20 cd20 ct20 : Value}
    {f21 : Addr} {od21 an21 : Option Addr} {sl21 : Array (Option Value)} {oc21 kV21 dc21 pm21 cd21 ct21 : Value}
    {f22 : Addr} {od22 an22 : Option Addr} {sl22 : Array (Option Value)} {oc22 kV22 dc22 pm22 cd22 ct22 : Value}
    {f23 : Addr} {od23 an23 : Option Addr} {sl23 : Array (Option Value)} {oc23 kV23 dc23 pm23 cd23 ct23 : Value}
    {f24 : Addr} {od24 an24 : Option Addr} {sl24 : Array (Option Value)} {oc24 kV24 dc24 pm24 cd24 ct24 : Value}
    {f25 : Addr} {od25 an25 : Option Addr} {sl25 : Array (Option Value)} {oc25 kV25 dc25 pm25 cd25 ct25 : Value}
    {f26 : Addr} {od26 an26 : Option Addr} {sl26 : Array (Option Value)} {oc26 kV26 dc26 pm26 cd26 ct26 : Value}
    {f27 : Addr} {od27 an27 : Option Addr} {sl27 : Array (Option Value)} {oc27 kV27 dc27 pm27 cd27 ct27 : Value}
    {f28 : Addr} {od28 an28 : Option Addr} {sl28 : Array (Option Value)} {oc28 kV28 dc28 pm28 cd28 ct28 : Value}
    {f29 : Addr} {od29 an29 : Option Addr} {sl29 : Array (Option Value)} {oc29 kV29 dc29 pm29 cd29 ct29 : Value}
    {f30 : Addr} {od30 an30 : Option Addr} {sl30 : Array (Option Value)} {oc30 kV30 dc30 pm30 cd30 ct30 : Value}
    {f31 : Addr} {od31 an31 : Option Addr} {sl31 : Array (Option Value)} {oc31 kV31 dc31 pm31 cd31 ct31 : Value}
    {f32 : Addr} {od32 an32 : Option Addr} {sl32 : Array (Option Value)} {oc32 kV32 dc32 pm32 cd32 ct32 : Value}
    {A_HearError : Addr}
    {A_NoBook : Addr}
    {A_NoTeller : Addr}
    {A_Alone : Addr}
    {A_First : Addr}
    {A_NoHearing : Addr}
    {A_NoFamily : Addr}
    {A_BadText : Addr}
    {t_MOST_TELLERS : Tok}
    {t_MOST_COST : Tok}
    {t_MOST_FIGURES : Tok}
    {t_FIGURES : Tok}
    (aC : PySem.W.nsIn K mainGlobals "Book" = some (some (.ref C)))
    (aC1 : PySem.W.nsIn K mainGlobals "Pricing" = some (some (.ref C1)))
    (a1 : PySem.W.nsIn K mainGlobals "check_pair" = some (some (.ref f1)))
    (l1 : K.lookup f1 = some ⟨oc1, od1, .func (PySem.W.fnOf "check_pair" "check_pair" (defArgs s_check_pair) (defBody s_check_pair) (defScope s_check_pair) .none kV1 dc1 pm1 an1 cd1 ct1), sl1⟩) (c1 : PySem.W.codeIn K cd1 "check_pair" = true) (k1 : PySem.W.keepIn K (.ref f1) = true)
    (a2 : PySem.W.findIn K (.ref C) "__init__" = some (some (.ref f2))) (i2 : PySem.W.isFn K (.ref f2) = true)
    (l2 : K.lookup f2 = some ⟨oc2, od2, .func (PySem.W.fnOf "__init__" "Book.__init__" (defArgs s_Book___init__) (defBody s_Book___init__) (defScope s_Book___init__) .none kV2 dc2 pm2 an2 cd2 ct2), sl2⟩) (c2 : PySem.W.codeIn K cd2 "Book.__init__" = true) (k2 : PySem.W.keepIn K (.ref f2) = true)
    (a3 : PySem.W.findIn K (.ref C) "many" = some (some (.ref f3))) (i3 : PySem.W.isFn K (.ref f3) = true)
    (l3 : K.lookup f3 = some ⟨oc3, od3, .func (PySem.W.fnOf "many" "Book.many" (defArgs s_Book_many) (defBody s_Book_many) (defScope s_Book_many) .none kV3 dc3 pm3 an3 cd3 ct3), sl3⟩) (c3 : PySem.W.codeIn K cd3 "Book.many" = true) (k3 : PySem.W.keepIn K (.ref f3) = true)
    (a4 : PySem.W.findIn K (.ref C) "let" = some (some (.ref f4))) (i4 : PySem.W.isFn K (.ref f4) = true)
    (l4 : K.lookup f4 = some ⟨oc4, od4, .func (PySem.W.fnOf "let" "Book.let" (defArgs s_Book_let) (defBody s_Book_let) (defScope s_Book_let) .none kV4 dc4 pm4 an4 cd4 ct4), sl4⟩) (c4 : PySem.W.codeIn K cd4 "Book.let" = true) (k4 : PySem.W.keepIn K (.ref f4) = true)
    (a5 : PySem.W.findIn K (.ref C) "ban" = some (some (.ref f5))) (i5 : PySem.W.isFn K (.ref f5) = true)
    (l5 : K.lookup f5 = some ⟨oc5, od5, .func (PySem.W.fnOf "ban" "Book.ban" (defArgs s_Book_ban) (defBody s_Book_ban) (defScope s_Book_ban) .none kV5 dc5 pm5 an5 cd5 ct5), sl5⟩) (c5 : PySem.W.codeIn K cd5 "Book.ban" = true) (k5 : PySem.W.keepIn K (.ref f5) = true)
    (a6 : PySem.W.findIn K (.ref C) "cost" = some (some (.ref f6))) (i6 : PySem.W.isFn K (.ref f6) = true)
    (l6 : K.lookup f6 = some ⟨oc6, od6, .func (PySem.W.fnOf "cost" "Book.cost" (defArgs s_Book_cost) (defBody s_Book_cost) (defScope s_Book_cost) .none kV6 dc6 pm6 an6 cd6 ct6), sl6⟩) (c6 : PySem.W.codeIn K cd6 "Book.cost" = true) (k6 : PySem.W.keepIn K (.ref f6) = true)
    (a7 : PySem.W.findIn K (.ref C) "hearings" = some (some (.ref f7))) (i7 : PySem.W.isFn K (.ref f7) = true)
    (l7 : K.lookup f7 = some ⟨oc7, od7, .func (PySem.W.fnOf "hearings" "Book.hearings" (defArgs s_Book_hearings) (defBody s_Book_hearings) (defScope s_Book_hearings) .none kV7 dc7 pm7 an7 cd7 ct7), sl7⟩) (c7 : PySem.W.codeIn K cd7 "Book.hearings" = true) (k7 : PySem.W.keepIn K (.ref f7) = true)
    (a8 : PySem.W.nsIn K mainGlobals "shown" = some (some (.ref f8)))
    (l8 : K.lookup f8 = some ⟨oc8, od8, .func (PySem.W.fnOf "shown" "shown" (defArgs s_shown) (defBody s_shown) (defScope s_shown) .none kV8 dc8 pm8 an8 cd8 ct8), sl8⟩) (c8 : PySem.W.codeIn K cd8 "shown" = true) (k8 : PySem.W.keepIn K (.ref f8) = true)
    (a9 : PySem.W.nsIn K mainGlobals "number" = some (some (.ref f9)))
    (l9 : K.lookup f9 = some ⟨oc9, od9, .func (PySem.W.fnOf "number" "number" (defArgs s_number) (defBody s_number) (defScope s_number) .none kV9 dc9 pm9 an9 cd9 ct9), sl9⟩) (c9 : PySem.W.codeIn K cd9 "number" = true) (k9 : PySem.W.keepIn K (.ref f9) = true)
    (a10 : PySem.W.nsIn K mainGlobals "words_of" = some (some (.ref f10)))
    (l10 : K.lookup f10 = some ⟨oc10, od10, .func (PySem.W.fnOf "words_of" "words_of" (defArgs s_words_of) (defBody s_words_of) (defScope s_words_of) .none kV10 dc10 pm10 an10 cd10 ct10), sl10⟩) (c10 : PySem.W.codeIn K cd10 "words_of" = true) (k10 : PySem.W.keepIn K (.ref f10) = true)
    (a11 : PySem.W.nsIn K mainGlobals "let_line" = some (some (.ref f11)))
    (l11 : K.lookup f11 = some ⟨oc11, od11, .func (PySem.W.fnOf "let_line" "let_line" (defArgs s_let_line) (defBody s_let_line) (defScope s_let_line) .none kV11 dc11 pm11 an11 cd11 ct11), sl11⟩) (c11 : PySem.W.codeIn K cd11 "let_line" = true) (k11 : PySem.W.keepIn K (.ref f11) = true)
    (a12 : PySem.W.nsIn K mainGlobals "book_of" = some (some (.ref f12)))
    (l12 : K.lookup f12 = some ⟨oc12, od12, .func (PySem.W.fnOf "book_of" "book_of" (defArgs s_book_of) (defBody s_book_of) (defScope s_book_of) .none kV12 dc12 pm12 an12 cd12 ct12), sl12⟩) (c12 : PySem.W.codeIn K cd12 "book_of" = true) (k12 : PySem.W.keepIn K (.ref f12) = true)
    (a13 : PySem.W.nsIn K mainGlobals "read" = some (some (.ref f13)))
    (l13 : K.lookup f13 = some ⟨oc13, od13, .func (PySem.W.fnOf "read" "read" (defArgs s_read) (defBody s_read) (defScope s_read) .none kV13 dc13 pm13 an13 cd13 ct13), sl13⟩) (c13 : PySem.W.codeIn K cd13 "read" = true) (k13 : PySem.W.keepIn K (.ref f13) = true)
    (a14 : PySem.W.nsIn K mainGlobals "has_hearing" = some (some (.ref f14)))
    (l14 : K.lookup f14 = some ⟨oc14, od14, .func (PySem.W.fnOf "has_hearing" "has_hearing" (defArgs s_has_hearing) (defBody s_has_hearing) (defScope s_has_hearing) .none kV14 dc14 pm14 an14 cd14 ct14), sl14⟩) (c14 : PySem.W.codeIn K cd14 "has_hearing" = true) (k14 : PySem.W.keepIn K (.ref f14) = true)
    (a15 : PySem.W.nsIn K mainGlobals "comes_to_first" = some (some (.ref f15)))
    (l15 : K.lookup f15 = some ⟨oc15, od15, .func (PySem.W.fnOf "comes_to_first" "comes_to_first" (defArgs s_comes_to_first) (defBody s_comes_to_first) (defScope s_comes_to_first) .none kV15 dc15 pm15 an15 cd15 ct15), sl15⟩) (c15 : PySem.W.codeIn K cd15 "comes_to_first" = true) (k15 : PySem.W.keepIn K (.ref f15) = true)
    (a16 : PySem.W.nsIn K mainGlobals "is_family" = some (some (.ref f16)))
    (l16 : K.lookup f16 = some ⟨oc16, od16, .func (PySem.W.fnOf "is_family" "is_family" (defArgs s_is_family) (defBody s_is_family) (defScope s_is_family) .none kV16 dc16 pm16 an16 cd16 ct16), sl16⟩) (c16 : PySem.W.codeIn K cd16 "is_family" = true) (k16 : PySem.W.keepIn K (.ref f16) = true)
    (a17 : PySem.W.nsIn K mainGlobals "worth" = some (some (.ref f17)))
    (l17 : K.lookup f17 = some ⟨oc17, od17, .func (PySem.W.fnOf "worth" "worth" (defArgs s_worth) (defBody s_worth) (defScope s_worth) .none kV17 dc17 pm17 an17 cd17 ct17), sl17⟩) (c17 : PySem.W.codeIn K cd17 "worth" = true) (k17 : PySem.W.keepIn K (.ref f17) = true)
    (a18 : PySem.W.findIn K (.ref C1) "__init__" = some (some (.ref f18))) (i18 : PySem.W.isFn K (.ref f18) = true)
    (l18 : K.lookup f18 = some ⟨oc18, od18, .func (PySem.W.fnOf "__init__" "Pricing.__init__" (defArgs s_Pricing___init__) (defBody s_Pricing___init__) (defScope s_Pricing___init__) .none kV18 dc18 pm18 an18 cd18 ct18), sl18⟩) (c18 : PySem.W.codeIn K cd18 "Pricing.__init__" = true) (k18 : PySem.W.keepIn K (.ref f18) = true)
    (a19 : PySem.W.findIn K (.ref C1) "charge" = some (some (.ref f19))) (i19 : PySem.W.isFn K (.ref f19) = true)
    (l19 : K.lookup f19 = some ⟨oc19, od19, .func (PySem.W.fnOf "charge" "Pricing.charge" (defArgs s_Pricing_charge) (defBody s_Pricing_charge) (defScope s_Pricing_charge) .none kV19 dc19 pm19 an19 cd19 ct19), sl19⟩) (c19 : PySem.W.codeIn K cd19 "Pricing.charge" = true) (k19 : PySem.W.keepIn K (.ref f19) = true)
    (a20 : PySem.W.nsIn K mainGlobals "tellers_behind" = some (some (.ref f20)))
    (l20 : K.lookup f20 = some ⟨oc20, od20, .func (PySem.W.fnOf "tellers_behind" "tellers_behind" (defArgs s_tellers_behind) (defBody s_tellers_behind) (defScope s_tellers_behind) .none kV20 dc20 pm20 an20 cd20 ct20), sl20⟩) (c20 : PySem.W.codeIn K cd20 "tellers_behind" = true) (k20 : PySem.W.keepIn K (.ref f20) = true)
    (a21 : PySem.W.nsIn K mainGlobals "cut_off" = some (some (.ref f21)))
    (l21 : K.lookup f21 = some ⟨oc21, od21, .func (PySem.W.fnOf "cut_off" "cut_off" (defArgs s_cut_off) (defBody s_cut_off) (defScope s_cut_off) .none kV21 dc21 pm21 an21 cd21 ct21), sl21⟩) (c21 : PySem.W.codeIn K cd21 "cut_off" = true) (k21 : PySem.W.keepIn K (.ref f21) = true)
    (a22 : PySem.W.nsIn K mainGlobals "priced" = some (some (.ref f22)))
    (l22 : K.lookup f22 = some ⟨oc22, od22, .func (PySem.W.fnOf "priced" "priced" (defArgs s_priced) (defBody s_priced) (defScope s_priced) .none kV22 dc22 pm22 an22 cd22 ct22), sl22⟩) (c22 : PySem.W.codeIn K cd22 "priced" = true) (k22 : PySem.W.keepIn K (.ref f22) = true)
    (a23 : PySem.W.nsIn K mainGlobals "least_worth" = some (some (.ref f23)))
    (l23 : K.lookup f23 = some ⟨oc23, od23, .func (PySem.W.fnOf "least_worth" "least_worth" (defArgs s_least_worth) (defBody s_least_worth) (defScope s_least_worth) .none kV23 dc23 pm23 an23 cd23 ct23), sl23⟩) (c23 : PySem.W.codeIn K cd23 "least_worth" = true) (k23 : PySem.W.keepIn K (.ref f23) = true)
    (a24 : PySem.W.nsIn K mainGlobals "with_only" = some (some (.ref f24)))
    (l24 : K.lookup f24 = some ⟨oc24, od24, .func (PySem.W.fnOf "with_only" "with_only" (defArgs s_with_only) (defBody s_with_only) (defScope s_with_only) .none kV24 dc24 pm24 an24 cd24 ct24), sl24⟩) (c24 : PySem.W.codeIn K cd24 "with_only" = true) (k24 : PySem.W.keepIn K (.ref f24) = true)
    (a25 : PySem.W.nsIn K mainGlobals "least_with" = some (some (.ref f25)))
    (l25 : K.lookup f25 = some ⟨oc25, od25, .func (PySem.W.fnOf "least_with" "least_with" (defArgs s_least_with) (defBody s_least_with) (defScope s_least_with) .none kV25 dc25 pm25 an25 cd25 ct25), sl25⟩) (c25 : PySem.W.codeIn K cd25 "least_with" = true) (k25 : PySem.W.keepIn K (.ref f25) = true)
    (a26 : PySem.W.nsIn K mainGlobals "least" = some (some (.ref f26)))
    (l26 : K.lookup f26 = some ⟨oc26, od26, .func (PySem.W.fnOf "least" "least" (defArgs s_least) (defBody s_least) (defScope s_least) .none kV26 dc26 pm26 an26 cd26 ct26), sl26⟩) (c26 : PySem.W.codeIn K cd26 "least" = true) (k26 : PySem.W.keepIn K (.ref f26) = true)
    (a27 : PySem.W.nsIn K mainGlobals "lack" = some (some (.ref f27)))
    (l27 : K.lookup f27 = some ⟨oc27, od27, .func (PySem.W.fnOf "lack" "lack" (defArgs s_lack) (defBody s_lack) (defScope s_lack) .none kV27 dc27 pm27 an27 cd27 ct27), sl27⟩) (c27 : PySem.W.codeIn K cd27 "lack" = true) (k27 : PySem.W.keepIn K (.ref f27) = true)
    (a28 : PySem.W.nsIn K mainGlobals "_law_cell_at" = some (some (.ref f28)))
    (l28 : K.lookup f28 = some ⟨oc28, od28, .func (PySem.W.fnOf "_law_cell_at" "_law_cell_at" (defArgs s_law_cell_at) (defBody s_law_cell_at) (defScope s_law_cell_at) .none kV28 dc28 pm28 an28 cd28 ct28), sl28⟩) (c28 : PySem.W.codeIn K cd28 "_law_cell_at" = true) (k28 : PySem.W.keepIn K (.ref f28) = true)
    (a29 : PySem.W.nsIn K mainGlobals "_law_refuses" = some (some (.ref f29)))
    (l29 : K.lookup f29 = some ⟨oc29, od29, .func (PySem.W.fnOf "_law_refuses" "_law_refuses" (defArgs s_law_refuses) (defBody s_law_refuses) (defScope s_law_refuses) .none kV29 dc29 pm29 an29 cd29 ct29), sl29⟩) (c29 : PySem.W.codeIn K cd29 "_law_refuses" = true) (k29 : PySem.W.keepIn K (.ref f29) = true)
    (a30 : PySem.W.nsIn K mainGlobals "_law_classes" = some (some (.ref f30)))
    (l30 : K.lookup f30 = some ⟨oc30, od30, .func (PySem.W.fnOf "_law_classes" "_law_classes" (defArgs s_law_classes) (defBody s_law_classes) (defScope s_law_classes) .none kV30 dc30 pm30 an30 cd30 ct30), sl30⟩) (c30 : PySem.W.codeIn K cd30 "_law_classes" = true) (k30 : PySem.W.keepIn K (.ref f30) = true)
    (a31 : PySem.W.nsIn K mainGlobals "_law_caught" = some (some (.ref f31)))
    (l31 : K.lookup f31 = some ⟨oc31, od31, .func (PySem.W.fnOf "_law_caught" "_law_caught" (defArgs s_law_caught) (defBody s_law_caught) (defScope s_law_caught) .none kV31 dc31 pm31 an31 cd31 ct31), sl31⟩) (c31 : PySem.W.codeIn K cd31 "_law_caught" = true) (k31 : PySem.W.keepIn K (.ref f31) = true)
    (a32 : PySem.W.nsIn K mainGlobals "law" = some (some (.ref f32)))
    (l32 : K.lookup f32 = some ⟨oc32, od32, .func (PySem.W.fnOf "law" "law" (defArgs s_law) (defBody s_law) (defScope s_law) .none kV32 dc32 pm32 an32 cd32 ct32), sl32⟩) (c32 : PySem.W.codeIn K cd32 "law" = true) (k32 : PySem.W.keepIn K (.ref f32) = true)
    (pgC : PySem.W.plainGet K C Str.empty = true) (hdC : PySem.W.hasDictIn K C = true) (poC : PySem.W.plainOver K C = true) (saC : PySem.W.findIn K (.ref C) "__setattr__" = some (some (.builtin "object.__setattr__"))) (mkC : PySem.W.makesIn K C = true) (kcC : PySem.W.keepIn K (.ref C) = true)
    (nC_tellers : PySem.W.findIn K (.ref C) "tellers" = some none)
    (nC_costs : PySem.W.findIn K (.ref C) "costs" = some none)
    (pgC1 : PySem.W.plainGet K C1 Str.empty = true) (hdC1 : PySem.W.hasDictIn K C1 = true) (poC1 : PySem.W.plainOver K C1 = true) (saC1 : PySem.W.findIn K (.ref C1) "__setattr__" = some (some (.builtin "object.__setattr__"))) (mkC1 : PySem.W.makesIn K C1 = true) (kcC1 : PySem.W.keepIn K (.ref C1) = true)
    (nC1_rests : PySem.W.findIn K (.ref C1) "rests" = some none)
    (nC1_spent : PySem.W.findIn K (.ref C1) "spent" = some none)
    (nC1_prices : PySem.W.findIn K (.ref C1) "prices" = some none)
    (nC1_lonely : PySem.W.findIn K (.ref C1) "lonely" = some none)
    (ax_HearError : PySem.W.nsIn K mainGlobals "HearError" = some (some (.ref A_HearError)))
    (ax_NoBook : PySem.W.nsIn K mainGlobals "NoBook" = some (some (.ref A_NoBook)))
    (ax_NoTeller : PySem.W.nsIn K mainGlobals "NoTeller" = some (some (.ref A_NoTeller)))
    (ax_Alone : PySem.W.nsIn K mainGlobals "Alone" = some (some (.ref A_Alone)))
    (ax_First : PySem.W.nsIn K mainGlobals "First" = some (some (.ref A_First)))
    (ax_NoHearing : PySem.W.nsIn K mainGlobals "NoHearing" = some (some (.ref A_NoHearing)))
    (ax_NoFamily : PySem.W.nsIn K mainGlobals "NoFamily" = some (some (.ref A_NoFamily)))
    (ax_BadText : PySem.W.nsIn K mainGlobals "BadText" = some (some (.ref A_BadText)))
    (e1_HearError : PySem.W.excIn K A_HearError veTail "ValueError.__new__" = true)
    (e2_HearError : PySem.W.findIn K (.ref A_HearError) "__getattribute__" = some (some (.builtin "BaseException.__getattribute__")))
    (e3_HearError : PySem.W.findIn K (.ref A_HearError) "__getattr__" = some none)
    (e4_HearError : PySem.W.findIn K (.ref A_HearError) "__class__" = some (some (.builtin "object.__class__")))
    (e7_HearError : PySem.W.mroIn K A_HearError (.type "object") = some true)
    (e8_HearError : PySem.W.mroIn K A_HearError (.type "BaseException") = some true)
    (e9_HearError : PySem.W.keepIn K (.ref A_HearError) = true)
    (ty_HearError : PySem.W.typeIn K (.ref A_HearError) = some (.type "type"))
    (ve_HearError : PySem.W.mroIn K A_HearError (.type "ValueError") = some true)
    (m_HearError_HearError : PySem.W.mroIn K A_HearError (.ref A_HearError) = some true)
    (m_HearError_NoBook : PySem.W.mroIn K A_HearError (.ref A_NoBook) = some false)
    (m_HearError_NoTeller : PySem.W.mroIn K A_HearError (.ref A_NoTeller) = some false)
    (m_HearError_Alone : PySem.W.mroIn K A_HearError (.ref A_Alone) = some false)
    (m_HearError_First : PySem.W.mroIn K A_HearError (.ref A_First) = some false)
    (m_HearError_NoHearing : PySem.W.mroIn K A_HearError (.ref A_NoHearing) = some false)
    (m_HearError_NoFamily : PySem.W.mroIn K A_HearError (.ref A_NoFamily) = some false)
    (m_HearError_BadText : PySem.W.mroIn K A_HearError (.ref A_BadText) = some false)
    (e1_NoBook : PySem.W.excIn K A_NoBook veTail "ValueError.__new__" = true)
    (e2_NoBook : PySem.W.findIn K (.ref A_NoBook) "__getattribute__" = some (some (.builtin "BaseException.__getattribute__")))
    (e3_NoBook : PySem.W.findIn K (.ref A_NoBook) "__getattr__" = some none)
    (e4_NoBook : PySem.W.findIn K (.ref A_NoBook) "__class__" = some (some (.builtin "object.__class__")))
    (e7_NoBook : PySem.W.mroIn K A_NoBook (.type "object") = some true)
    (e8_NoBook : PySem.W.mroIn K A_NoBook (.type "BaseException") = some true)
    (e9_NoBook : PySem.W.keepIn K (.ref A_NoBook) = true)
    (ty_NoBook : PySem.W.typeIn K (.ref A_NoBook) = some (.type "type"))
    (ve_NoBook : PySem.W.mroIn K A_NoBook (.type "ValueError") = some true)
    (m_NoBook_HearError : PySem.W.mroIn K A_NoBook (.ref A_HearError) = some true)
    (m_NoBook_NoBook : PySem.W.mroIn K A_NoBook (.ref A_NoBook) = some true)
    (m_NoBook_NoTeller : PySem.W.mroIn K A_NoBook (.ref A_NoTeller) = some false)
    (m_NoBook_Alone : PySem.W.mroIn K A_NoBook (.ref A_Alone) = some false)
    (m_NoBook_First : PySem.W.mroIn K A_NoBook (.ref A_First) = some false)
    (m_NoBook_NoHearing : PySem.W.mroIn K A_NoBook (.ref A_NoHearing) = some false)
    (m_NoBook_NoFamily : PySem.W.mroIn K A_NoBook (.ref A_NoFamily) = some false)
    (m_NoBook_BadText : PySem.W.mroIn K A_NoBook (.ref A_BadText) = some false)
    (e1_NoTeller : PySem.W.excIn K A_NoTeller veTail "ValueError.__new__" = true)
    (e2_NoTeller : PySem.W.findIn K (.ref A_NoTeller) "__getattribute__" = some (some (.builtin "BaseException.__getattribute__")))
    (e3_NoTeller : PySem.W.findIn K (.ref A_NoTeller) "__getattr__" = some none)
    (e4_NoTeller : PySem.W.findIn K (.ref A_NoTeller) "__class__" = some (some (.builtin "object.__class__")))
    (e7_NoTeller : PySem.W.mroIn K A_NoTeller (.type "object") = some true)
    (e8_NoTeller : PySem.W.mroIn K A_NoTeller (.type "BaseException") = some true)
    (e9_NoTeller : PySem.W.keepIn K (.ref A_NoTeller) = true)
    (ty_NoTeller : PySem.W.typeIn K (.ref A_NoTeller) = some (.type "type"))
    (ve_NoTeller : PySem.W.mroIn K A_NoTeller (.type "ValueError") = some true)
    (m_NoTeller_HearError : PySem.W.mroIn K A_NoTeller (.ref A_HearError) = some true)
    (m_NoTeller_NoBook : PySem.W.mroIn K A_NoTeller (.ref A_NoBook) = some false)
    (m_NoTeller_NoTeller : PySem.W.mroIn K A_NoTeller (.ref A_NoTeller) = some true)
    (m_NoTeller_Alone : PySem.W.mroIn K A_NoTeller (.ref A_Alone) = some false)
    (m_NoTeller_First : PySem.W.mroIn K A_NoTeller (.ref A_First) = some false)
    (m_NoTeller_NoHearing : PySem.W.mroIn K A_NoTeller (.ref A_NoHearing) = some false)
    (m_NoTeller_NoFamily : PySem.W.mroIn K A_NoTeller (.ref A_NoFamily) = some false)
    (m_NoTeller_BadText : PySem.W.mroIn K A_NoTeller (.ref A_BadText) = some false)
    (e1_Alone : PySem.W.excIn K A_Alone veTail "ValueError.__new__" = true)
    (e2_Alone : PySem.W.findIn K (.ref A_Alone) "__getattribute__" = some (some (.builtin "BaseException.__getattribute__")))
    (e3_Alone : PySem.W.findIn K (.ref A_Alone) "__getattr__" = some none)
    (e4_Alone : PySem.W.findIn K (.ref A_Alone) "__class__" = some (some (.builtin "object.__class__")))
    (e7_Alone : PySem.W.mroIn K A_Alone (.type "object") = some true)
    (e8_Alone : PySem.W.mroIn K A_Alone (.type "BaseException") = some true)
    (e9_Alone : PySem.W.keepIn K (.ref A_Alone) = true)
    (ty_Alone : PySem.W.typeIn K (.ref A_Alone) = some (.type "type"))
    (ve_Alone : PySem.W.mroIn K A_Alone (.type "ValueError") = some true)
    (m_Alone_HearError : PySem.W.mroIn K A_Alone (.ref A_HearError) = some true)
    (m_Alone_NoBook : PySem.W.mroIn K A_Alone (.ref A_NoBook) = some false)
    (m_Alone_NoTeller : PySem.W.mroIn K A_Alone (.ref A_NoTeller) = some false)
    (m_Alone_Alone : PySem.W.mroIn K A_Alone (.ref A_Alone) = some true)
    (m_Alone_First : PySem.W.mroIn K A_Alone (.ref A_First) = some false)
    (m_Alone_NoHearing : PySem.W.mroIn K A_Alone (.ref A_NoHearing) = some false)
    (m_Alone_NoFamily : PySem.W.mroIn K A_Alone (.ref A_NoFamily) = some false)
    (m_Alone_BadText : PySem.W.mroIn K A_Alone (.ref A_BadText) = some false)
    (e1_First : PySem.W.excIn K A_First veTail "ValueError.__new__" = true)
    (e2_First : PySem.W.findIn K (.ref A_First) "__getattribute__" = some (some (.builtin "BaseException.__getattribute__")))
    (e3_First : PySem.W.findIn K (.ref A_First) "__getattr__" = some none)
    (e4_First : PySem.W.findIn K (.ref A_First) "__class__" = some (some (.builtin "object.__class__")))
    (e7_First : PySem.W.mroIn K A_First (.type "object") = some true)
    (e8_First : PySem.W.mroIn K A_First (.type "BaseException") = some true)
    (e9_First : PySem.W.keepIn K (.ref A_First) = true)
    (ty_First : PySem.W.typeIn K (.ref A_First) = some (.type "type"))
    (ve_First : PySem.W.mroIn K A_First (.type "ValueError") = some true)
    (m_First_HearError : PySem.W.mroIn K A_First (.ref A_HearError) = some true)
    (m_First_NoBook : PySem.W.mroIn K A_First (.ref A_NoBook) = some false)
    (m_First_NoTeller : PySem.W.mroIn K A_First (.ref A_NoTeller) = some false)
    (m_First_Alone : PySem.W.mroIn K A_First (.ref A_Alone) = some false)
    (m_First_First : PySem.W.mroIn K A_First (.ref A_First) = some true)
    (m_First_NoHearing : PySem.W.mroIn K A_First (.ref A_NoHearing) = some false)
    (m_First_NoFamily : PySem.W.mroIn K A_First (.ref A_NoFamily) = some false)
    (m_First_BadText : PySem.W.mroIn K A_First (.ref A_BadText) = some false)
    (e1_NoHearing : PySem.W.excIn K A_NoHearing veTail "ValueError.__new__" = true)
    (e2_NoHearing : PySem.W.findIn K (.ref A_NoHearing) "__getattribute__" = some (some (.builtin "BaseException.__getattribute__")))
    (e3_NoHearing : PySem.W.findIn K (.ref A_NoHearing) "__getattr__" = some none)
    (e4_NoHearing : PySem.W.findIn K (.ref A_NoHearing) "__class__" = some (some (.builtin "object.__class__")))
    (e7_NoHearing : PySem.W.mroIn K A_NoHearing (.type "object") = some true)
    (e8_NoHearing : PySem.W.mroIn K A_NoHearing (.type "BaseException") = some true)
    (e9_NoHearing : PySem.W.keepIn K (.ref A_NoHearing) = true)
    (ty_NoHearing : PySem.W.typeIn K (.ref A_NoHearing) = some (.type "type"))
    (ve_NoHearing : PySem.W.mroIn K A_NoHearing (.type "ValueError") = some true)
    (m_NoHearing_HearError : PySem.W.mroIn K A_NoHearing (.ref A_HearError) = some true)
    (m_NoHearing_NoBook : PySem.W.mroIn K A_NoHearing (.ref A_NoBook) = some false)
    (m_NoHearing_NoTeller : PySem.W.mroIn K A_NoHearing (.ref A_NoTeller) = some false)
    (m_NoHearing_Alone : PySem.W.mroIn K A_NoHearing (.ref A_Alone) = some false)
    (m_NoHearing_First : PySem.W.mroIn K A_NoHearing (.ref A_First) = some false)
    (m_NoHearing_NoHearing : PySem.W.mroIn K A_NoHearing (.ref A_NoHearing) = some true)
    (m_NoHearing_NoFamily : PySem.W.mroIn K A_NoHearing (.ref A_NoFamily) = some false)
    (m_NoHearing_BadText : PySem.W.mroIn K A_NoHearing (.ref A_BadText) = some false)
    (e1_NoFamily : PySem.W.excIn K A_NoFamily veTail "ValueError.__new__" = true)
    (e2_NoFamily : PySem.W.findIn K (.ref A_NoFamily) "__getattribute__" = some (some (.builtin "BaseException.__getattribute__")))
    (e3_NoFamily : PySem.W.findIn K (.ref A_NoFamily) "__getattr__" = some none)
    (e4_NoFamily : PySem.W.findIn K (.ref A_NoFamily) "__class__" = some (some (.builtin "object.__class__")))
    (e7_NoFamily : PySem.W.mroIn K A_NoFamily (.type "object") = some true)
    (e8_NoFamily : PySem.W.mroIn K A_NoFamily (.type "BaseException") = some true)
    (e9_NoFamily : PySem.W.keepIn K (.ref A_NoFamily) = true)
    (ty_NoFamily : PySem.W.typeIn K (.ref A_NoFamily) = some (.type "type"))
    (ve_NoFamily : PySem.W.mroIn K A_NoFamily (.type "ValueError") = some true)
    (m_NoFamily_HearError : PySem.W.mroIn K A_NoFamily (.ref A_HearError) = some true)
    (m_NoFamily_NoBook : PySem.W.mroIn K A_NoFamily (.ref A_NoBook) = some false)
    (m_NoFamily_NoTeller : PySem.W.mroIn K A_NoFamily (.ref A_NoTeller) = some false)
    (m_NoFamily_Alone : PySem.W.mroIn K A_NoFamily (.ref A_Alone) = some false)
    (m_NoFamily_First : PySem.W.mroIn K A_NoFamily (.ref A_First) = some false)
    (m_NoFamily_NoHearing : PySem.W.mroIn K A_NoFamily (.ref A_NoHearing) = some false)
    (m_NoFamily_NoFamily : PySem.W.mroIn K A_NoFamily (.ref A_NoFamily) = some true)
    (m_NoFamily_BadText : PySem.W.mroIn K A_NoFamily (.ref A_BadText) = some false)
    (e1_BadText : PySem.W.excIn K A_BadText veTail "ValueError.__new__" = true)
    (e2_BadText : PySem.W.findIn K (.ref A_BadText) "__getattribute__" = some (some (.builtin "BaseException.__getattribute__")))
    (e3_BadText : PySem.W.findIn K (.ref A_BadText) "__getattr__" = some none)
    (e4_BadText : PySem.W.findIn K (.ref A_BadText) "__class__" = some (some (.builtin "object.__class__")))
    (e7_BadText : PySem.W.mroIn K A_BadText (.type "object") = some true)
    (e8_BadText : PySem.W.mroIn K A_BadText (.type "BaseException") = some true)
    (e9_BadText : PySem.W.keepIn K (.ref A_BadText) = true)
    (ty_BadText : PySem.W.typeIn K (.ref A_BadText) = some (.type "type"))
    (ve_BadText : PySem.W.mroIn K A_BadText (.type "ValueError") = some true)
    (m_BadText_HearError : PySem.W.mroIn K A_BadText (.ref A_HearError) = some true)
    (m_BadText_NoBook : PySem.W.mroIn K A_BadText (.ref A_NoBook) = some false)
    (m_BadText_NoTeller : PySem.W.mroIn K A_BadText (.ref A_NoTeller) = some false)
    (m_BadText_Alone : PySem.W.mroIn K A_BadText (.ref A_Alone) = some false)
    (m_BadText_First : PySem.W.mroIn K A_BadText (.ref A_First) = some false)
    (m_BadText_NoHearing : PySem.W.mroIn K A_BadText (.ref A_NoHearing) = some false)
    (m_BadText_NoFamily : PySem.W.mroIn K A_BadText (.ref A_NoFamily) = some false)
    (m_BadText_BadText : PySem.W.mroIn K A_BadText (.ref A_BadText) = some true)
    (xgg : PySem.W.specialIn K (.builtin "object.__class__") "__get__" = some (some (.builtin "getset_descriptor.__get__"))) (xtk : PySem.W.takesIn K (.builtin "object.__class__") = some true)
    (z_len : PySem.W.nsIn K mainGlobals "len" = some none)
    (z_range : PySem.W.nsIn K mainGlobals "range" = some none)
    (z_max : PySem.W.nsIn K mainGlobals "max" = some none)
    (z_min : PySem.W.nsIn K mainGlobals "min" = some none)
    (z_isinstance : PySem.W.nsIn K mainGlobals "isinstance" = some none)
    (z_all : PySem.W.nsIn K mainGlobals "all" = some none)
    (z_any : PySem.W.nsIn K mainGlobals "any" = some none)
    (z_sorted : PySem.W.nsIn K mainGlobals "sorted" = some none)
    (z_sum : PySem.W.nsIn K mainGlobals "sum" = some none)
    (z_list : PySem.W.nsIn K mainGlobals "list" = some none)
    (z_int : PySem.W.nsIn K mainGlobals "int" = some none)
    (z_bool : PySem.W.nsIn K mainGlobals "bool" = some none)
    (z_tuple : PySem.W.nsIn K mainGlobals "tuple" = some none)
    (z_str : PySem.W.nsIn K mainGlobals "str" = some none)
    (z_dict : PySem.W.nsIn K mainGlobals "dict" = some none)
    (z_ValueError : PySem.W.nsIn K mainGlobals "ValueError" = some none)
    (v_MOST_TELLERS : PySem.W.nsIn K mainGlobals "MOST_TELLERS" = some (some (.int 12 t_MOST_TELLERS)))
    (v_MOST_COST : PySem.W.nsIn K mainGlobals "MOST_COST" = some (some (.int 1000000 t_MOST_COST)))
    (v_MOST_FIGURES : PySem.W.nsIn K mainGlobals "MOST_FIGURES" = some (some (.int 7 t_MOST_FIGURES)))
    (v_FIGURES : PySem.W.nsIn K mainGlobals "FIGURES" = some (some (.str "0123456789" t_FIGURES))) :
    ∃ fd : FuncData, (∀ (s : Shared) (v : Value), BindsTo s fd ⟨[v], []⟩ [("script", v)]) ∧ ∀ base : Heap, K.In base → base.Ns mainGlobals mg → FnOk l.prog w K mg base CX0 9 fa fd ["script"] (spLaw K) := by
  have e := hfa.symm.trans (PySem.W.mg_of X G a32)
  cases e
  have F1 := fun_mk (st := s_check_pair) l1 c1 k1
  have FA_check_pair : FunAt K mg "check_pair" "check_pair" s_check_pair := ⟨f1, _, F1, PySem.W.mg_of X G a1⟩
  have F2 := fun_mk (st := s_Book___init__) l2 c2 k2
  have FA_Book___init__ : MakAt K mg C "Book" "__init__" "Book.__init__" s_Book___init__ := ⟨f2, _, F2, ⟨mkC, a2, i2, kcC⟩, PySem.W.mg_of X G aC⟩
  have F3 := fun_mk (st := s_Book_many) l3 c3 k3
  have FA_Book_many : MetAt K C "many" "Book.many" s_Book_many := ⟨f3, _, F3, ⟨a3, i3, k3⟩⟩
  have F4 := fun_mk (st := s_Book_let) l4 c4 k4
  have FA_Book_let : MetAt K C "let" "Book.let" s_Book_let := ⟨f4, _, F4, ⟨a4, i4, k4⟩⟩
  have F5 := fun_mk (st := s_Book_ban) l5 c5 k5
  have FA_Book_ban : MetAt K C "ban" "Book.ban" s_Book_ban := ⟨f5, _, F5, ⟨a5, i5, k5⟩⟩
  have F6 := fun_mk (st := s_Book_cost) l6 c6 k6
  have FA_Book_cost : MetAt K C "cost" "Book.cost" s_Book_cost := ⟨f6, _, F6, ⟨a6, i6, k6⟩⟩
  have F7 := fun_mk (st := s_Book_hearings) l7 c7 k7
  have FA_Book_hearings : MetAt K C "hearings" "Book.hearings" s_Book_hearings := ⟨f7, _, F7, ⟨a7, i7, k7⟩⟩
  have F8 := fun_mk (st := s_shown) l8 c8 k8
  have FA_shown : FunAt K mg "shown" "shown" s_shown := ⟨f8, _, F8, PySem.W.mg_of X G a8⟩
  have F9 := fun_mk (st := s_number) l9 c9 k9
  have FA_number : FunAt K mg "number" "number" s_number := ⟨f9, _, F9, PySem.W.mg_of X G a9⟩
  have F10 := fun_mk (st := s_words_of) l10 c10 k10
  have FA_words_of : FunAt K mg "words_of" "words_of" s_words_of := ⟨f10, _, F10, PySem.W.mg_of X G a10⟩
  have F11 := fun_mk (st := s_let_line) l11 c11 k11
  have FA_let_line : FunAt K mg "let_line" "let_line" s_let_line := ⟨f11, _, F11, PySem.W.mg_of X G a11⟩
  have F12 := fun_mk (st := s_book_of) l12 c12 k12
  have FA_book_of : FunAt K mg "book_of" "book_of" s_book_of := ⟨f12, _, F12, PySem.W.mg_of X G a12⟩
  have F13 := fun_mk (st := s_read) l13 c13 k13
  have FA_read : FunAt K mg "read" "read" s_read := ⟨f13, _, F13, PySem.W.mg_of X G a13⟩
  have F14 := fun_mk (st := s_has_hearing) l14 c14 k14
  have FA_has_hearing : FunAt K mg "has_hearing" "has_hearing" s_has_hearing := ⟨f14, _, F14, PySem.W.mg_of X G a14⟩
  have F15 := fun_mk (st := s_comes_to_first) l15 c15 k15
  have FA_comes_to_first : FunAt K mg "comes_to_first" "comes_to_first" s_comes_to_first := ⟨f15, _, F15, PySem.W.mg_of X G a15⟩
  have F16 := fun_mk (st := s_is_family) l16 c16 k16
  have FA_is_family : FunAt K mg "is_family" "is_family" s_is_family := ⟨f16, _, F16, PySem.W.mg_of X G a16⟩
  have F17 := fun_mk (st := s_worth) l17 c17 k17
  have FA_worth : FunAt K mg "worth" "worth" s_worth := ⟨f17, _, F17, PySem.W.mg_of X G a17⟩
  have F18 := fun_mk (st := s_Pricing___init__) l18 c18 k18
  have FA_Pricing___init__ : MakAt K mg C1 "Pricing" "__init__" "Pricing.__init__" s_Pricing___init__ := ⟨f18, _, F18, ⟨mkC1, a18, i18, kcC1⟩, PySem.W.mg_of X G aC1⟩
  have F19 := fun_mk (st := s_Pricing_charge) l19 c19 k19
  have FA_Pricing_charge : MetAt K C1 "charge" "Pricing.charge" s_Pricing_charge := ⟨f19, _, F19, ⟨a19, i19, k19⟩⟩
  have F20 := fun_mk (st := s_tellers_behind) l20 c20 k20
  have FA_tellers_behind : FunAt K mg "tellers_behind" "tellers_behind" s_tellers_behind := ⟨f20, _, F20, PySem.W.mg_of X G a20⟩
  have F21 := fun_mk (st := s_cut_off) l21 c21 k21
  have FA_cut_off : FunAt K mg "cut_off" "cut_off" s_cut_off := ⟨f21, _, F21, PySem.W.mg_of X G a21⟩
  have F22 := fun_mk (st := s_priced) l22 c22 k22
  have FA_priced : FunAt K mg "priced" "priced" s_priced := ⟨f22, _, F22, PySem.W.mg_of X G a22⟩
  have F23 := fun_mk (st := s_least_worth) l23 c23 k23
  have FA_least_worth : FunAt K mg "least_worth" "least_worth" s_least_worth := ⟨f23, _, F23, PySem.W.mg_of X G a23⟩
  have F24 := fun_mk (st := s_with_only) l24 c24 k24
  have FA_with_only : FunAt K mg "with_only" "with_only" s_with_only := ⟨f24, _, F24, PySem.W.mg_of X G a24⟩
  have F25 := fun_mk (st := s_least_with) l25 c25 k25
  have FA_least_with : FunAt K mg "least_with" "least_with" s_least_with := ⟨f25, _, F25, PySem.W.mg_of X G a25⟩
  have F26 := fun_mk (st := s_least) l26 c26 k26
  have FA_least : FunAt K mg "least" "least" s_least := ⟨f26, _, F26, PySem.W.mg_of X G a26⟩
  have F27 := fun_mk (st := s_lack) l27 c27 k27
  have FA_lack : FunAt K mg "lack" "lack" s_lack := ⟨f27, _, F27, PySem.W.mg_of X G a27⟩
  have F28 := fun_mk (st := s_law_cell_at) l28 c28 k28
  have FA_law_cell_at : FunAt K mg "_law_cell_at" "_law_cell_at" s_law_cell_at := ⟨f28, _, F28, PySem.W.mg_of X G a28⟩
  have F29 := fun_mk (st := s_law_refuses) l29 c29 k29
  have FA_law_refuses : FunAt K mg "_law_refuses" "_law_refuses" s_law_refuses := ⟨f29, _, F29, PySem.W.mg_of X G a29⟩
  have F30 := fun_mk (st := s_law_classes) l30 c30 k30
  have FA_law_classes : FunAt K mg "_law_classes" "_law_classes" s_law_classes := ⟨f30, _, F30, PySem.W.mg_of X G a30⟩
  have F31 := fun_mk (st := s_law_caught) l31 c31 k31
  have FA_law_caught : FunAt K mg "_law_caught" "_law_caught" s_law_caught := ⟨f31, _, F31, PySem.W.mg_of X G a31⟩
  have F32 := fun_mk (st := s_law) l32 c32 k32
  have cl_Book : Cls K C := ⟨pgC, hdC, poC, saC⟩
  have cl_Pricing : Cls K C1 := ⟨pgC1, hdC1, poC1, saC1⟩
  let xa : Ex → Addr := fun x => match x with | .HearError => A_HearError | .NoBook => A_NoBook | .NoTeller => A_NoTeller | .Alone => A_Alone | .First => A_First | .NoHearing => A_NoHearing | .NoFamily => A_NoFamily | .BadText => A_BadText
  have EX : Exc K mg hasX xa := by
    refine ⟨fun x hx => ?_, fun x hx y hy => ?_⟩
    · cases x
      · exact ⟨⟨e1_HearError, e2_HearError, e3_HearError, e4_HearError, xgg, xtk, e7_HearError, e8_HearError, e9_HearError⟩, PySem.W.mg_of X G ax_HearError, ty_HearError, ve_HearError⟩
      · exact ⟨⟨e1_NoBook, e2_NoBook, e3_NoBook, e4_NoBook, xgg, xtk, e7_NoBook, e8_NoBook, e9_NoBook⟩, PySem.W.mg_of X G ax_NoBook, ty_NoBook, ve_NoBook⟩
      · exact ⟨⟨e1_NoTeller, e2_NoTeller, e3_NoTeller, e4_NoTeller, xgg, xtk, e7_NoTeller, e8_NoTeller, e9_NoTeller⟩, PySem.W.mg_of X G ax_NoTeller, ty_NoTeller, ve_NoTeller⟩
      · exact ⟨⟨e1_Alone, e2_Alone, e3_Alone, e4_Alone, xgg, xtk, e7_Alone, e8_Alone, e9_Alone⟩, PySem.W.mg_of X G ax_Alone, ty_Alone, ve_Alone⟩
      · exact ⟨⟨e1_First, e2_First, e3_First, e4_First, xgg, xtk, e7_First, e8_First, e9_First⟩, PySem.W.mg_of X G ax_First, ty_First, ve_First⟩
      · exact ⟨⟨e1_NoHearing, e2_NoHearing, e3_NoHearing, e4_NoHearing, xgg, xtk, e7_NoHearing, e8_NoHearing, e9_NoHearing⟩, PySem.W.mg_of X G ax_NoHearing, ty_NoHearing, ve_NoHearing⟩
      · exact ⟨⟨e1_NoFamily, e2_NoFamily, e3_NoFamily, e4_NoFamily, xgg, xtk, e7_NoFamily, e8_NoFamily, e9_NoFamily⟩, PySem.W.mg_of X G ax_NoFamily, ty_NoFamily, ve_NoFamily⟩
      · exact ⟨⟨e1_BadText, e2_BadText, e3_BadText, e4_BadText, xgg, xtk, e7_BadText, e8_BadText, e9_BadText⟩, PySem.W.mg_of X G ax_BadText, ty_BadText, ve_BadText⟩
    · cases x <;> cases y <;> first | exact absurd hx (by decide) | exact absurd hy (by decide) | assumption
  have T : Txt K mg C := ⟨cl_Book, nC_tellers, nC_costs, PySem.W.mg_of X G aC, ⟨_, PySem.W.mg_of X G v_MOST_TELLERS⟩, PySem.W.mg_none_of X G z_len, PySem.W.mg_none_of X G z_range, PySem.W.mg_none_of X G z_max, PySem.W.mg_none_of X G z_min, PySem.W.mg_none_of X G z_isinstance, PySem.W.mg_none_of X G z_all, PySem.W.mg_none_of X G z_any, PySem.W.mg_none_of X G z_sorted, PySem.W.mg_none_of X G z_sum, PySem.W.mg_none_of X G z_list, PySem.W.mg_none_of X G z_int, PySem.W.mg_none_of X G z_bool, PySem.W.mg_none_of X G z_tuple, PySem.W.mg_none_of X G z_str, PySem.W.mg_none_of X G z_dict, PySem.W.mg_none_of X G z_ValueError⟩
  have TP : TxtP K mg C1 := ⟨cl_Pricing, nC1_rests, nC1_spent, nC1_prices, nC1_lonely⟩
  refine ⟨PySem.W.fnOf "law" "law" (defArgs s_law) (defBody s_law) (defScope s_law) .none kV32 dc32 pm32 an32 cd32 ct32, fun s v => .of_eq rfl, fun base _ _ => ?_⟩
  have D1 := x_check (P := l.prog) (w := w) (base := base) FA_check_pair EX
  have I1 := x_init (P := l.prog) (w := w) (base := base) FA_Book___init__ T EX
  have L1 := x_let (base := base) FA_Book_let T D1
  have BX := x_ban (base := base) FA_Book_ban T EX D1
  have CX := x_cost (base := base) FA_Book_cost T D1
  have D0 := d_cell (P := l.prog) (w := w) (base := base) FA_law_cell_at T
  have MM := d_many (P := l.prog) (w := w) (base := base) FA_Book_many T
  have MC := CX.calm calm_cost
  have IS := d_isfam FA_is_family T MM (d_has FA_has_hearing T MM MC) (d_comes FA_comes_to_first T)
  have XW := x_worth FA_worth T EX IS MC
  have TN : TxtN mg := ⟨⟨_, PySem.W.mg_of X G v_MOST_COST⟩, ⟨_, PySem.W.mg_of X G v_MOST_FIGURES⟩, ⟨_, PySem.W.mg_of X G v_FIGURES⟩⟩
  have WO := d_words (P := l.prog) (w := w) (base := base) FA_words_of T
  have NU := d_number (P := l.prog) (w := w) (base := base) FA_number T TN
  have BO := x_bookof FA_book_of T WO NU (never_def FA_let_line bi_let_line) I1
  have RE := x_read FA_read T EX BO (never_def FA_shown bi_shown)
  have LA := x_lackN FA_lack T EX CX (never_def FA_least bi_least) (never_def FA_least_with bi_least_with)
  have RF := x_refuses FA_law_refuses T EX I1 L1 BX LA XW RE
  refine F32.ok sc_law (fun vs H Q E h => ?_) (law_body T D0 (d_caught FA_law_caught T EX RF (u_classes FA_law_classes T EX)) _)
  obtain ⟨a, ns, rfl, _⟩ := h
  rfl
theorem walk {l : PySem.W.OpenLaw} {q : Program} {loose : List Str} {XP : (Str → Option Value) → Heap → Prop} {YP : World → Heap → Prop} {d : DefRec} {K : Params → PySem.W.Frag} (hn : l.most = some 63) (hdf : d.params.defaults = [])
    (hY : ∀ (w : World) (h : Heap), YP w h → (K w.params).In h)
    (F : ∀ (w : World) (mg : Str → Option Value) (fa : Addr) (h : Heap), (K w.params).In h → h.Ns mainGlobals mg → mg d.name = some (.ref fa) →
      ∃ fd : FuncData, (∀ (s : Shared) (u : Value), BindsTo s fd ⟨[u], []⟩ [("script", u)]) ∧ ∀ base : Heap, (K w.params).In base → base.Ns mainGlobals mg → FnOk l.prog w (K w.params) mg base CX0 9 fa fd ["script"] (spLaw (K w.params))) :
    PySem.W.WalkO q loose XP YP l.row.toRowW d [] (fun f vs => PySem.call f vs) :=
  L2.walk_of (n := 63) (k := 9) (x := "script") (CX := fun _ => CX0) (sp := fun w => spLaw (K w.params)) hn (by decide) hdf ⟨rfl, by decide, by decide⟩ hY F (fun _ _ a ns hl _ hS => ⟨a, ns, rfl, hS, hl, fun _ => rfl⟩) fun _ _ _ _ _ z => z
end Hw
open PySem PySem.W PyProof.Rows
set_option maxRecDepth 100000 in
set_option maxHeartbeats 0 in
theorem PySem.Challenge.cw_hearwood_k20_each_refusal_alone_holds : PySem.Challenge.rw_hearwood_k20_each_refusal_alone.Holds := by
  w_on; o_law; z_head; (case hw => w_witness2)
  refine Hw.walkX_of (fun _ => by kernel_rfl) ?W
  case W =>
  refine Hw.walk (l := PySem.Challenge.rw_hearwood_k20_each_refusal_alone) rfl rfl (fun w h Y => Y) ?F
  case F =>
    intro w mg fa h KX G hmg
    refine' Hw.all_mk KX G hmg ?aC ?aC1 ?a1 ?l1 ?c1 ?k1 ?a2 ?i2 ?l2 ?c2 ?k2 ?a3 ?i3 ?l3 ?c3 ?k3 ?a4 ?i4 ?l4 ?c4 ?k4 ?a5 ?i5 ?l5 ?c5 ?k5 ?a6 ?i6 ?l6 ?c6 ?k6 ?a7 ?i7 ?l7 ?c7 ?k7 ?a8 ?l8 ?c8 ?k8 ?a9 ?l9 ?c9 ?k9 ?a10 ?l10 ?c10 ?k10 ?a11 ?l11 ?c11 ?k11 ?a12 ?l12 ?c12 ?k12 ?a13 ?l13 ?c13 ?k13 ?a14 ?l14 ?c14 ?k14 ?a15 ?l15 ?c15 ?k15 ?a16 ?l16 ?c16 ?k16 ?a17 ?l17 ?c17 ?k17 ?a18 ?i18 ?l18 ?c18 ?k18 ?a19 ?i19 ?l19 ?c19 ?k19 ?a20 ?l20 ?c20 ?k20 ?a21 ?l21 ?c21 ?k21 ?a22 ?l22 ?c22 ?k22 ?a23 ?l23 ?c23 ?k23 ?a24 ?l24 ?c24 ?k24 ?a25 ?l25 ?c25 ?k25 ?a26 ?l26 ?c26 ?k26 ?a27 ?l27 ?c27 ?k27 ?a28 ?l28 ?c28 ?k28 ?a29 ?l29 ?c29 ?k29 ?a30 ?l30 ?c30 ?k30 ?a31 ?l31 ?c31 ?k31 ?a32 ?l32 ?c32 ?k32 ?pgC ?hdC ?poC ?saC ?mkC ?kcC ?nC_tellers ?nC_costs ?pgC1 ?hdC1 ?poC1 ?saC1 ?mkC1 ?kcC1 ?nC1_rests ?nC1_spent ?nC1_prices ?nC1_lonely ?ax_HearError ?ax_NoBook ?ax_NoTeller ?ax_Alone ?ax_First ?ax_NoHearing ?ax_NoFamily ?ax_BadText ?e1_HearError ?e2_HearError ?e3_HearError ?e4_HearError ?e7_HearError ?e8_HearError ?e9_HearError ?ty_HearError ?ve_HearError ?m_HearError_HearError ?m_HearError_NoBook ?m_HearError_NoTeller ?m_HearError_Alone ?m_HearError_First ?m_HearError_NoHearing ?m_HearError_NoFamily ?m_HearError_BadText ?e1_NoBook ?e2_NoBook ?e3_NoBook ?e4_NoBook ?e7_NoBook ?e8_NoBook ?e9_NoBook ?ty_NoBook ?ve_NoBook ?m_NoBook_HearError ?m_NoBook_NoBook ?m_NoBook_NoTeller ?m_NoBook_Alone ?m_NoBook_First ?m_NoBook_NoHearing ?m_NoBook_NoFamily ?m_NoBook_BadText ?e1_NoTeller ?e2_NoTeller ?e3_NoTeller ?e4_NoTeller ?e7_NoTeller ?e8_NoTeller ?e9_NoTeller ?ty_NoTeller ?ve_NoTeller ?m_NoTeller_HearError ?m_NoTeller_NoBook ?m_NoTeller_NoTeller ?m_NoTeller_Alone ?m_NoTeller_First ?m_NoTeller_NoHearing ?m_NoTeller_NoFamily ?m_NoTeller_BadText ?e1_Alone ?e2_Alone ?e3_Alone ?e4_Alone ?e7_Alone ?e8_Alone ?e9_Alone ?ty_Alone ?ve_Alone ?m_Alone_HearError ?m_Alone_NoBook ?m_Alone_NoTeller ?m_Alone_Alone ?m_Alone_First ?m_Alone_NoHearing ?m_Alone_NoFamily ?m_Alone_BadText ?e1_First ?e2_First ?e3_First ?e4_First ?e7_First ?e8_First ?e9_First ?ty_First ?ve_First ?m_First_HearError ?m_First_NoBook ?m_First_NoTeller ?m_First_Alone ?m_First_First ?m_First_NoHearing ?m_First_NoFamily ?m_First_BadText ?e1_NoHearing ?e2_NoHearing ?e3_NoHearing ?e4_NoHearing ?e7_NoHearing ?e8_NoHearing ?e9_NoHearing ?ty_NoHearing ?ve_NoHearing ?m_NoHearing_HearError ?m_NoHearing_NoBook ?m_NoHearing_NoTeller ?m_NoHearing_Alone ?m_NoHearing_First ?m_NoHearing_NoHearing ?m_NoHearing_NoFamily ?m_NoHearing_BadText ?e1_NoFamily ?e2_NoFamily ?e3_NoFamily ?e4_NoFamily ?e7_NoFamily ?e8_NoFamily ?e9_NoFamily ?ty_NoFamily ?ve_NoFamily ?m_NoFamily_HearError ?m_NoFamily_NoBook ?m_NoFamily_NoTeller ?m_NoFamily_Alone ?m_NoFamily_First ?m_NoFamily_NoHearing ?m_NoFamily_NoFamily ?m_NoFamily_BadText ?e1_BadText ?e2_BadText ?e3_BadText ?e4_BadText ?e7_BadText ?e8_BadText ?e9_BadText ?ty_BadText ?ve_BadText ?m_BadText_HearError ?m_BadText_NoBook ?m_BadText_NoTeller ?m_BadText_Alone ?m_BadText_First ?m_BadText_NoHearing ?m_BadText_NoFamily ?m_BadText_BadText ?xgg ?xtk ?z_len ?z_range ?z_max ?z_min ?z_isinstance ?z_all ?z_any ?z_sorted ?z_sum ?z_list ?z_int ?z_bool ?z_tuple ?z_str ?z_dict ?z_ValueError ?v_MOST_TELLERS ?v_MOST_COST ?v_MOST_FIGURES ?v_FIGURES
    (case aC => k_is); (case aC1 => k_is); (case a1 => k_is); (case l1 => k_is); (case c1 => k_is); (case k1 => k_is)
    (case a2 => k_is); (case i2 => k_is); (case l2 => k_is); (case c2 => k_is); (case k2 => k_is); (case a3 => k_is)
    (case i3 => k_is); (case l3 => k_is); (case c3 => k_is); (case k3 => k_is); (case a4 => k_is); (case i4 => k_is)
    (case l4 => k_is); (case c4 => k_is); (case k4 => k_is); (case a5 => k_is); (case i5 => k_is); (case l5 => k_is)
    (case c5 => k_is); (case k5 => k_is); (case a6 => k_is); (case i6 => k_is); (case l6 => k_is); (case c6 => k_is)
    (case k6 => k_is); (case a7 => k_is); (case i7 => k_is); (case l7 => k_is); (case c7 => k_is); (case k7 => k_is)
    (case a8 => k_is); (case l8 => k_is); (case c8 => k_is); (case k8 => k_is); (case a9 => k_is); (case l9 => k_is)
    (case c9 => k_is); (case k9 => k_is); (case a10 => k_is); (case l10 => k_is); (case c10 => k_is); (case k10 => k_is)
    (case a11 => k_is); (case l11 => k_is); (case c11 => k_is); (case k11 => k_is); (case a12 => k_is); (case l12 => k_is)
    (case c12 => k_is); (case k12 => k_is); (case a13 => k_is); (case l13 => k_is); (case c13 => k_is); (case k13 => k_is)
    (case a14 => k_is); (case l14 => k_is); (case c14 => k_is); (case k14 => k_is); (case a15 => k_is); (case l15 => k_is)
    (case c15 => k_is); (case k15 => k_is); (case a16 => k_is); (case l16 => k_is); (case c16 => k_is); (case k16 => k_is)
    (case a17 => k_is); (case l17 => k_is); (case c17 => k_is); (case k17 => k_is); (case a18 => k_is); (case i18 => k_is)
    (case l18 => k_is); (case c18 => k_is); (case k18 => k_is); (case a19 => k_is); (case i19 => k_is); (case l19 => k_is)
    (case c19 => k_is); (case k19 => k_is); (case a20 => k_is); (case l20 => k_is); (case c20 => k_is); (case k20 => k_is)
    (case a21 => k_is); (case l21 => k_is); (case c21 => k_is); (case k21 => k_is); (case a22 => k_is); (case l22 => k_is)
    (case c22 => k_is); (case k22 => k_is); (case a23 => k_is); (case l23 => k_is); (case c23 => k_is); (case k23 => k_is)
    (case a24 => k_is); (case l24 => k_is); (case c24 => k_is); (case k24 => k_is); (case a25 => k_is); (case l25 => k_is)
    (case c25 => k_is); (case k25 => k_is); (case a26 => k_is); (case l26 => k_is); (case c26 => k_is); (case k26 => k_is)
    (case a27 => k_is); (case l27 => k_is); (case c27 => k_is); (case k27 => k_is); (case a28 => k_is); (case l28 => k_is)
    (case c28 => k_is); (case k28 => k_is); (case a29 => k_is); (case l29 => k_is); (case c29 => k_is); (case k29 => k_is)
    (case a30 => k_is); (case l30 => k_is); (case c30 => k_is); (case k30 => k_is); (case a31 => k_is); (case l31 => k_is)
    (case c31 => k_is); (case k31 => k_is); (case a32 => k_is); (case l32 => k_is); (case c32 => k_is); (case k32 => k_is)
    (case pgC => k_is); (case hdC => k_is); (case poC => k_is); (case saC => k_is); (case mkC => k_is); (case kcC => k_is)
    (case nC_tellers => k_is); (case nC_costs => k_is); (case pgC1 => k_is); (case hdC1 => k_is); (case poC1 => k_is); (case saC1 => k_is)
    (case mkC1 => k_is); (case kcC1 => k_is); (case nC1_rests => k_is); (case nC1_spent => k_is); (case nC1_prices => k_is); (case nC1_lonely => k_is)
    (case ax_HearError => k_is); (case ax_NoBook => k_is); (case ax_NoTeller => k_is); (case ax_Alone => k_is); (case ax_First => k_is); (case ax_NoHearing => k_is)
    (case ax_NoFamily => k_is); (case ax_BadText => k_is); (case e1_HearError => k_exc); (case e2_HearError => k_is); (case e3_HearError => k_is); (case e4_HearError => k_is)
    (case e7_HearError => k_is); (case e8_HearError => k_is); (case e9_HearError => k_is); (case ty_HearError => k_is); (case ve_HearError => k_is); (case m_HearError_HearError => k_is)
    (case m_HearError_NoBook => k_is); (case m_HearError_NoTeller => k_is); (case m_HearError_Alone => k_is); (case m_HearError_First => k_is); (case m_HearError_NoHearing => k_is); (case m_HearError_NoFamily => k_is)
    (case m_HearError_BadText => k_is); (case e1_NoBook => k_exc); (case e2_NoBook => k_is); (case e3_NoBook => k_is); (case e4_NoBook => k_is); (case e7_NoBook => k_is)
    (case e8_NoBook => k_is); (case e9_NoBook => k_is); (case ty_NoBook => k_is); (case ve_NoBook => k_is); (case m_NoBook_HearError => k_is); (case m_NoBook_NoBook => k_is)
    (case m_NoBook_NoTeller => k_is); (case m_NoBook_Alone => k_is); (case m_NoBook_First => k_is); (case m_NoBook_NoHearing => k_is); (case m_NoBook_NoFamily => k_is); (case m_NoBook_BadText => k_is)
    (case e1_NoTeller => k_exc); (case e2_NoTeller => k_is); (case e3_NoTeller => k_is); (case e4_NoTeller => k_is); (case e7_NoTeller => k_is); (case e8_NoTeller => k_is)
    (case e9_NoTeller => k_is); (case ty_NoTeller => k_is); (case ve_NoTeller => k_is); (case m_NoTeller_HearError => k_is); (case m_NoTeller_NoBook => k_is); (case m_NoTeller_NoTeller => k_is)
    (case m_NoTeller_Alone => k_is); (case m_NoTeller_First => k_is); (case m_NoTeller_NoHearing => k_is); (case m_NoTeller_NoFamily => k_is); (case m_NoTeller_BadText => k_is); (case e1_Alone => k_exc)
    (case e2_Alone => k_is); (case e3_Alone => k_is); (case e4_Alone => k_is); (case e7_Alone => k_is); (case e8_Alone => k_is); (case e9_Alone => k_is)
    (case ty_Alone => k_is); (case ve_Alone => k_is); (case m_Alone_HearError => k_is); (case m_Alone_NoBook => k_is); (case m_Alone_NoTeller => k_is); (case m_Alone_Alone => k_is)
    (case m_Alone_First => k_is); (case m_Alone_NoHearing => k_is); (case m_Alone_NoFamily => k_is); (case m_Alone_BadText => k_is); (case e1_First => k_exc); (case e2_First => k_is)
    (case e3_First => k_is); (case e4_First => k_is); (case e7_First => k_is); (case e8_First => k_is); (case e9_First => k_is); (case ty_First => k_is)
    (case ve_First => k_is); (case m_First_HearError => k_is); (case m_First_NoBook => k_is); (case m_First_NoTeller => k_is); (case m_First_Alone => k_is); (case m_First_First => k_is)
    (case m_First_NoHearing => k_is); (case m_First_NoFamily => k_is); (case m_First_BadText => k_is); (case e1_NoHearing => k_exc); (case e2_NoHearing => k_is); (case e3_NoHearing => k_is)
    (case e4_NoHearing => k_is); (case e7_NoHearing => k_is); (case e8_NoHearing => k_is); (case e9_NoHearing => k_is); (case ty_NoHearing => k_is); (case ve_NoHearing => k_is)
    (case m_NoHearing_HearError => k_is); (case m_NoHearing_NoBook => k_is); (case m_NoHearing_NoTeller => k_is); (case m_NoHearing_Alone => k_is); (case m_NoHearing_First => k_is); (case m_NoHearing_NoHearing => k_is)
    (case m_NoHearing_NoFamily => k_is); (case m_NoHearing_BadText => k_is); (case e1_NoFamily => k_exc); (case e2_NoFamily => k_is); (case e3_NoFamily => k_is); (case e4_NoFamily => k_is)
    (case e7_NoFamily => k_is); (case e8_NoFamily => k_is); (case e9_NoFamily => k_is); (case ty_NoFamily => k_is); (case ve_NoFamily => k_is); (case m_NoFamily_HearError => k_is)
    (case m_NoFamily_NoBook => k_is); (case m_NoFamily_NoTeller => k_is); (case m_NoFamily_Alone => k_is); (case m_NoFamily_First => k_is); (case m_NoFamily_NoHearing => k_is); (case m_NoFamily_NoFamily => k_is)
    (case m_NoFamily_BadText => k_is); (case e1_BadText => k_exc); (case e2_BadText => k_is); (case e3_BadText => k_is); (case e4_BadText => k_is); (case e7_BadText => k_is)
    (case e8_BadText => k_is); (case e9_BadText => k_is); (case ty_BadText => k_is); (case ve_BadText => k_is); (case m_BadText_HearError => k_is); (case m_BadText_NoBook => k_is)
    (case m_BadText_NoTeller => k_is); (case m_BadText_Alone => k_is); (case m_BadText_First => k_is); (case m_BadText_NoHearing => k_is); (case m_BadText_NoFamily => k_is); (case m_BadText_BadText => k_is)
    (case xgg => k_is); (case xtk => k_is); (case z_len => k_is); (case z_range => k_is); (case z_max => k_is); (case z_min => k_is)
    (case z_isinstance => k_is); (case z_all => k_is); (case z_any => k_is); (case z_sorted => k_is); (case z_sum => k_is); (case z_list => k_is)
    (case z_int => k_is); (case z_bool => k_is); (case z_tuple => k_is); (case z_str => k_is); (case z_dict => k_is); (case z_ValueError => k_is)
    (case v_MOST_TELLERS => k_is); (case v_MOST_COST => k_is); (case v_MOST_FIGURES => k_is); (case v_FIGURES => k_is)
