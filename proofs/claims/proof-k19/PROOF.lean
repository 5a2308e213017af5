import PyProof.Rows.All
import Wide.All
import OpenK.AllK
import Wide.FinOn
import Lean
import PyProof.EqAt
import PyProof.EqKinds
import PyProof.TupleCall
import KE.KSortAsk
import KE.KMinBuiltin
import KE.KDictOf
import PyProof.IsiH_list
import PyProof.P3Eq
import PyProof.NeData
import PyProof.ListRange
import KE.KIntText
import KE.KxLen
import KE.KTryMore
import KE.IntTextText
import PySem.Challenge.RW_hearwood_k19_texts_refused
set_option bootstrap.genMatcherCode false
set_option genSizeOfSpec false
set_option compiler.extract_closed false
set_option Elab.async false
set_option linter.all false
set_option maxRecDepth 100000

namespace L2
open PySem PySem.Spec PyProof.Rows


noncomputable abbrev Key := Sum Int Str
noncomputable def keyIs : Key → Value → Bool
  | .inl k, v => Value.isInt k v
  | .inr x, v => Value.isStrOf x v
noncomputable def keyH (w : World) : Key → Int
  | .inl k => hashInt k
  | .inr x => hashStr w x
theorem keyIs_shape : ∀ {k : Key} {v : Value}, keyIs k v = true → (∃ i t, k = Sum.inl i ∧ v = Value.int i t) ∨ (∃ x t, k = Sum.inr x ∧ v = Value.str x t)
  | .inl i, v, h => by
    obtain ⟨t, e⟩ := Value.isInt_shape (k := i) (v := v) h
    exact .inl ⟨i, t, rfl, e⟩
  | .inr x, v, h => by
    obtain ⟨t, e⟩ := Value.isStrOf_shape (x := x) (v := v) h
    exact .inr ⟨x, t, rfl, e⟩
theorem keyIs_int (i : Int) (t : Tok) : keyIs (.inl i) (.int i t) = true := by simp [keyIs, Value.isInt]
theorem keyIs_str (x : Str) (t : Tok) : keyIs (.inr x) (.str x t) = true := by simp [keyIs, Value.isStrOf]
theorem key_ll (a b : Int) : decide ((Sum.inl a : Key) = Sum.inl b) = (a == b) := by
  by_cases e : a = b
  · subst e; simp
  · have h : ¬ (Sum.inl a : Key) = Sum.inl b := fun q => e (Sum.inl.inj q)
    rw [decide_eq_false h]
    exact (beq_eq_false_iff_ne.mpr e).symm
theorem key_rr (a b : Str) : decide ((Sum.inr a : Key) = Sum.inr b) = decide (a = b) := by
  by_cases e : a = b
  · subst e; simp
  · have h : ¬ (Sum.inr a : Key) = Sum.inr b := fun q => e (Sum.inr.inj q)
    rw [decide_eq_false h, decide_eq_false e]
theorem key_lr (a : Int) (b : Str) : decide ((Sum.inl a : Key) = Sum.inr b) = false := decide_eq_false (fun q => nomatch q)
theorem key_rl (a : Str) (b : Int) : decide ((Sum.inr a : Key) = Sum.inl b) = false := decide_eq_false (fun q => nomatch q)

noncomputable def mixKind (prog : Program) (w : World) : PySem.KeyKind prog w Key where
  is := keyIs
  hash := keyH w
  inj := fun v a b ha hb => by
    rcases keyIs_shape ha with ⟨i, t, rfl, rfl⟩ | ⟨x, t, rfl, rfl⟩
    · rcases keyIs_shape hb with ⟨j, u, rfl, e⟩ | ⟨y, u, rfl, e⟩
      · injection e with e1 _; rw [e1]
      · exact nomatch e
    · rcases keyIs_shape hb with ⟨j, u, rfl, e⟩ | ⟨y, u, rfl, e⟩
      · exact nomatch e
      · injection e with e1 _; rw [e1]
  byValue := fun k v h => by
    rcases keyIs_shape h with ⟨i, t, rfl, rfl⟩ | ⟨x, t, rfl, rfl⟩ <;> rfl
  pyHash := fun hv h => by
    rcases keyIs_shape hv with ⟨i, t, rfl, rfl⟩ | ⟨x, t, rfl, rfl⟩
    · exact wpAny_pyHash_int h
    · exact wpAny_pyHash_str h
  eqBool := fun hu hv h => by
    rcases keyIs_shape hu with ⟨i, t, rfl, rfl⟩ | ⟨x, t, rfl, rfl⟩
    · rcases keyIs_shape hv with ⟨j, u, rfl, rfl⟩ | ⟨y, u, rfl, rfl⟩
      · rw [key_ll] at h; exact wpAny_eqBool_int h
      · rw [key_lr] at h; exact SeqAt.EqAt.int_str i t y u _ _ _ _ h
    · rcases keyIs_shape hv with ⟨j, u, rfl, rfl⟩ | ⟨y, u, rfl, rfl⟩
      · rw [key_rl] at h; exact SeqAt.EqAt.str_int x t j u _ _ _ _ h
      · rw [key_rr] at h; exact wpAny_eqBool_str h
  «strs» := fun k x t v h => by
    rcases keyIs_shape h with ⟨i, u, rfl, e⟩ | ⟨y, u, rfl, e⟩
    · exact nomatch e
    · injection e with e1 _
      subst e1
      cases v <;> rfl

theorem mixKind_int (prog : Program) (w : World) (i : Int) (t : Tok) : (mixKind prog w).is (.inl i) (.int i t) = true := keyIs_int i t
theorem mixKind_str (prog : Program) (w : World) (x : Str) (t : Tok) : (mixKind prog w).is (.inr x) (.str x t) = true := keyIs_str x t
end L2

namespace L2
open PySem PySem.Spec PyProof.Rows


inductive V where
  | non | bl (b : Bool) | int (i : Int) | str (x : Str) | byt (b : Array UInt8) | flt (b : UInt64) | ref (a : Addr) | ty (n : String)
  deriving DecidableEq

noncomputable def RelV : V → Value → Prop
  | .non, u => u = Value.none
  | .bl b, u => u = Value.bool b
  | .int i, u => ∃ t, u = Value.int i t
  | .str x, u => ∃ t, u = Value.str x t
  | .byt b, u => ∃ t, u = Value.bytes b t
  | .flt b, u => ∃ t, u = Value.float b t
  | .ref a, u => u = Value.ref a
  | .ty n, u => u = Value.type n

noncomputable abbrev Vals : List V → List Value → Prop := Paired RelV
theorem Vals.length {xs : List V} {us : List Value} (r : Vals xs us) : xs.length = us.length := Paired.length r
theorem Vals.get : ∀ {xs : List V} {us : List Value} {i : Nat} {x : V}, Vals xs us → xs[i]? = some x → ∃ u, us[i]? = some u ∧ RelV x u
  | _, _, _, _, .nil, e => by simp at e
  | _, _, 0, _, .cons r _, e => by simp at e; subst e; exact ⟨_, rfl, r⟩
  | _, _, i + 1, x, .cons _ t, e => by
    obtain ⟨u, h1, h2⟩ := Vals.get (i := i) (x := x) t (by simpa using e)
    exact ⟨u, by simpa using h1, h2⟩
theorem Vals.set {x : V} {u : Value} (r : RelV x u) : ∀ {xs : List V} {us : List Value} (i : Nat), Vals xs us → Vals (xs.set i x) (us.set i u)
  | _, _, _, .nil => .nil
  | _, _, 0, .cons _ t => .cons r t
  | _, _, i + 1, .cons q t => .cons q (Vals.set r i t)
theorem Vals.append {xs ys : List V} {us ws : List Value} (h : Vals xs us) (s : Vals ys ws) : Vals (xs ++ ys) (us ++ ws) := by
  induction h with
  | nil => exact s
  | cons r t ih => exact .cons r ih
theorem Vals.take : ∀ {xs : List V} {us : List Value} (n : Nat), Vals xs us → Vals (xs.take n) (us.take n)
  | _, _, 0, _ => .nil
  | _, _, _ + 1, .nil => .nil
  | _, _, n + 1, .cons r t => .cons r (Vals.take n t)
theorem Vals.drop : ∀ {xs : List V} {us : List Value} (n : Nat), Vals xs us → Vals (xs.drop n) (us.drop n)
  | _, _, 0, r => r
  | _, _, _ + 1, .nil => .nil
  | _, _, n + 1, .cons _ t => Vals.drop n t
theorem Vals.none_of : ∀ {xs : List V} {us : List Value} {i : Nat}, Vals xs us → xs[i]? = none → us[i]? = none := fun {xs us i} r e => by
  have h1 := r.length
  have h2 : xs.length ≤ i := List.getElem?_eq_none_iff.mp e
  exact List.getElem?_eq_none_iff.mpr (by omega)

noncomputable def RelO : Option V → Option Value → Prop
  | some v, some u => RelV v u
  | none, none => True
  | _, _ => False
noncomputable def KV {κ : Type} : List (κ × V) → List (κ × Value) → Prop := Paired fun (p : κ × V) (q : κ × Value) => p.1 = q.1 ∧ RelV p.2 q.2


noncomputable def kV : Key → V
  | .inl i => .int i
  | .inr x => .str x


inductive HO where
  
  | lst (xs : List V)
  
  | tup (xs : List V)
  
  | dK (kvs : List (Key × V)) | dT (kvs : List (List Key × V))
  
  | set (S : Int → Bool) (n : Nat)
  
  | ins (C dx : Addr) (fs : List (Str × V))
  
  | own (x : Addr)
  
  | xd (fs : List (Str × V))
  
  | met (f x : Addr)
  
  | rng (lo hi : Int)
  
  | frz (o : Obj) (u : HO)
  
  | tbl (ps : Array Value)
  
  | ext (φ : Heap → Prop)

noncomputable abbrev Hp := Addr → Option HO
noncomputable def upd (H : Hp) (a : Addr) (o : HO) : Hp := fun b => if b = a then some o else H b
theorem upd_same {H : Hp} {a : Addr} {o : HO} : upd H a o a = some o := by unfold upd; rw [if_pos rfl]
theorem upd_ne {H : Hp} {a b : Addr} {o : HO} (h : b ≠ a) : upd H a o b = H b := by unfold upd; rw [if_neg h]
theorem ne_of {H : Hp} {a b : Addr} {o u : HO} (h : H a = some o) (h' : H b = some u) (d : o ≠ u) : a ≠ b := by
  intro e; subst e; rw [h] at h'; exact d (Option.some.inj h')
theorem ne_of_none {H : Hp} {a b : Addr} {o : HO} (h : H a = some o) (h' : H b = none) : a ≠ b := by
  intro e; subst e; rw [h] at h'; cases h'

section
variable (P : Program) (w : World)
noncomputable def ObjOk (H : Hp) (h : Heap) (a : Addr) : HO → Prop
  | .lst xs => xs.length ≤ sizeLine ∧ ∃ (its : List Value) (n : Nat), Vals xs its ∧ h.get? a = some { cls := .type "list", data := .seq its.toArray n }
  | .tup xs => xs.length ≤ sizeLine ∧ ∃ its : List Value, Vals xs its ∧ IsTup h a its.toArray
  | .dK kvs => kvs.length ≤ sizeLine ∧ (a == sysModules) = false ∧ ∃ vs, KV kvs vs ∧ h.DictOf (mixKind P w) a vs
  | .dT kvs => kvs.length ≤ sizeLine ∧ (a == sysModules) = false ∧ ∃ xs : List (List Key × Addr × Value),
      Paired (fun (p : List Key × V) (q : List Key × Addr × Value) => p.1 = q.1 ∧ H q.2.1 = some (.tup (p.1.map kV)) ∧ RelV p.2 q.2.2) kvs xs ∧
      ∃ o es ep, h.get? a = some o ∧ o.ExactDict ∧ o.data = .dict es ep ∧ es.toList = xs.map (entryOfKey (tupleKind (mixKind P w))) ∧ (xs.map (·.1)).Nodup
  | .set S n => h.SetOf (intKind P w) a S n
  | .ins C dx fs => H dx = some (.own a) ∧ fs.length ≤ 1000 ∧ dx ≠ a ∧ h.get? a = some (PySem.W.instObj C dx) ∧
      ∃ mA, h.Ns1 dx mA ∧ (∀ f, RelO (fs.lookup f) (mA f)) ∧ PySem.Within mA (fs.map (·.1))
  | .own _ => ∃ o, h.get? a = some o
  | .xd fs => ∃ mA, h.Ns1 a mA ∧ ∀ f, RelO (fs.lookup f) (mA f)
  | .rng lo hi => ∃ t u v, h.get? a = some { cls := .type "range", data := .fields #[.int lo t, .int hi u, .int 1 v] }
  | .frz o u => h.get? a = some o ∧ ObjOk H h a u
  | .tbl ps => h.get? a = some { cls := .none, data := .fields ps }
  | .met f x => h.get? a = some (PySem.W.methodObj (.ref f) (.ref x))
  | .ext φ => φ h ∧ (∃ o, h.get? a = some o) ∧ ∀ h1 h2 : Heap, φ h1 → (∀ o, h1.get? a = some o → h2.get? a = some o) → φ h2

noncomputable def HOk (H : Hp) (h : Heap) : Prop := ∀ a o, H a = some o → ObjOk P w H h a o
end

section
variable {P : Program} {w : World} {H H' : Hp} {h h' : Heap} {a : Addr} {o : HO}
theorem ObjOk.lt (x : ObjOk P w H h a o) : a < h.objs.size := by
  cases o with
  | lst xs => obtain ⟨_, _, _, _, e⟩ := x; exact Heap.lt_size e
  | tup xs => obtain ⟨_, _, _, p⟩ := x; exact p.lt
  | dK kvs => obtain ⟨_, _, _, _, o, _, _, e, _⟩ := x; exact Heap.lt_size e
  | dT kvs => obtain ⟨_, _, _, _, o, _, _, e, _⟩ := x; exact Heap.lt_size e
  | set S n => obtain ⟨o, _, _, _, e, _⟩ := x; exact Heap.lt_size e
  | ins C dx fs => obtain ⟨_, _, _, e, _⟩ := x; exact Heap.lt_size e
  | own y => obtain ⟨_, e⟩ := x; exact Heap.lt_size e
  | xd fs => obtain ⟨_, ⟨_, _, _, e, _⟩, _⟩ := x; exact Heap.lt_size e
  | rng lo hi => obtain ⟨_, _, _, e⟩ := x; exact Heap.lt_size e
  | frz ob u => obtain ⟨e, _⟩ := x; exact Heap.lt_size e
  | tbl ps => exact Heap.lt_size (show h.get? a = some _ from x)
  | met f y => exact Heap.lt_size (show h.get? a = some _ from x)
  | ext φ => obtain ⟨_, ⟨_, e⟩, _⟩ := x; exact Heap.lt_size e
theorem Paired.mapP {α β : Type} {F G : α → β → Prop} {l₁ : List α} {l₂ : List β} (h : Paired F l₁ l₂) (f : ∀ a b, F a b → G a b) : Paired G l₁ l₂ := by
  induction h with
  | nil => exact .nil
  | cons r t ih => exact .cons (f _ _ r) ih
theorem ObjOk.stay (x : ObjOk P w H h a o) (k : ∀ b u, (b = a ∨ H b = some (.own a)) → h.get? b = some u → h'.get? b = some u)
    (ho : ∀ b, H b = some (.own a) → H' b = some (.own a)) (ht : ∀ b xs, H b = some (.tup xs) → H' b = some (.tup xs)) : ObjOk P w H' h' a o := by
  induction o with
  | lst xs => obtain ⟨z, its, n, r, e⟩ := x; exact ⟨z, its, n, r, k _ _ (.inl rfl) e⟩
  | tup xs => obtain ⟨z, its, r, ob, e, c⟩ := x; exact ⟨z, its, r, ob, k _ _ (.inl rfl) e, c⟩
  | dK kvs => obtain ⟨z, y, vs, r, ob, es, ep, e, c⟩ := x; exact ⟨z, y, vs, r, ob, es, ep, k _ _ (.inl rfl) e, c⟩
  | dT kvs =>
    obtain ⟨z, y, xs, r, ob, es, ep, e, c⟩ := x
    exact ⟨z, y, xs, Paired.mapP r fun p q z => ⟨z.1, ht _ _ z.2.1, z.2.2⟩, ob, es, ep, k _ _ (.inl rfl) e, c⟩
  | set S n => obtain ⟨ob, es, ep, t, e, c⟩ := x; exact ⟨ob, es, ep, t, k _ _ (.inl rfl) e, c⟩
  | ins C dx fs =>
    obtain ⟨d, z, ne, e, mA, ⟨od, es, ep, e2, c⟩, r⟩ := x
    exact ⟨ho _ d, z, ne, k _ _ (.inl rfl) e, mA, ⟨od, es, ep, k _ _ (.inr d) e2, c⟩, r⟩
  | own y => obtain ⟨ob, e⟩ := x; exact ⟨ob, k _ _ (.inl rfl) e⟩
  | xd fs => obtain ⟨mA, ⟨od, es, ep, e, c⟩, r⟩ := x; exact ⟨mA, ⟨od, es, ep, k _ _ (.inl rfl) e, c⟩, r⟩
  | rng lo hi => obtain ⟨t, u, v, e⟩ := x; exact ⟨t, u, v, k _ _ (.inl rfl) e⟩
  | frz ob u ih => obtain ⟨e, q⟩ := x; exact ⟨k _ _ (.inl rfl) e, ih q⟩
  | tbl ps =>
    have e : h.get? a = some { cls := .none, data := .fields ps } := x
    show h'.get? a = some { cls := .none, data := .fields ps }
    exact k a _ (.inl rfl) e
  | met f y =>
    have e : h.get? a = some (PySem.W.methodObj (.ref f) (.ref y)) := x
    show h'.get? a = some (PySem.W.methodObj (.ref f) (.ref y))
    exact k a _ (.inl rfl) e
  | ext φ => obtain ⟨p, ⟨o, e⟩, st⟩ := x; exact ⟨st _ _ p fun o q => k _ _ (.inl rfl) q, ⟨o, k _ _ (.inl rfl) e⟩, st⟩
theorem HOk.lt (x : HOk P w H h) (e : H a = some o) : a < h.objs.size := (x a o e).lt
theorem HOk.fresh (x : HOk P w H h) (e : h.objs.size ≤ a) : H a = none := by
  cases q : H a with
  | none => rfl
  | some u => exact absurd (Nat.lt_of_lt_of_le (x.lt q) e) (Nat.lt_irrefl _)

theorem HOk.kept (x : HOk P w H h) (k : ∀ b u, h.get? b = some u → h'.get? b = some u) : HOk P w H h' := fun a o e =>
  (x a o e).stay (fun b u _ q => k b u q) (fun _ q => q) fun _ _ q => q

theorem HOk.laid (x : HOk P w H h) (k : ∀ b u, h.get? b = some u → h'.get? b = some u) (hp : h.objs.size ≤ a) (new : ObjOk P w (upd H a o) h' a o) : HOk P w (upd H a o) h' := fun b u e => by
  have hn := x.fresh hp
  by_cases hb : b = a
  · subst hb; rw [upd_same] at e; cases e; exact new
  · rw [upd_ne hb] at e
    exact (x b u e).stay (fun c v _ q => k c v q) (fun c q => by rw [upd_ne (ne_of_none q hn)]; exact q) fun c xs q => by rw [upd_ne (ne_of_none q hn)]; exact q
end


noncomputable def Rd (H : Hp) (a : Addr) (u : HO) : Prop := H a = some u ∨ ∃ o, H a = some (.frz o u)
theorem Rd.of {H : Hp} {a : Addr} {u : HO} (h : H a = some u) : Rd H a u := .inl h
theorem Rd.ok {P : Program} {w : World} {H : Hp} {h : Heap} {a : Addr} {u : HO} (r : Rd H a u) (x : HOk P w H h) : ObjOk P w H h a u := by
  rcases r with r | ⟨o, r⟩
  · exact x a u r
  · obtain ⟨_, q⟩ := x a _ r
    exact q

noncomputable def Mut : Option HO → Prop
  | some (.lst _) => True
  | some (.dK _) => True
  | some (.dT _) => True
  | some (.set _ _) => True
  | some (.ins _ _ _) => True
  | some (.ext _) => True
  | _ => False
section
variable {P : Program} {w : World} {H : Hp} {h h' : Heap} {x e : Addr} {o' : HO}

theorem HOk.write (ok : HOk P w H h) (mu : Mut (H x)) (he : e = x ∨ H e = some (.own x)) (k : ∀ b u, b ≠ e → h.get? b = some u → h'.get? b = some u) (heo : ∃ u, h'.get? e = some u)
    (new : ObjOk P w (upd H x o') h' x o') : HOk P w (upd H x o') h' := fun b u q => by
  have nown : ∀ c y, H c = some (.own y) → c ≠ x := fun c y r z => by subst z; rw [r] at mu; exact mu
  have ntup : ∀ c xs, H c = some (.tup xs) → c ≠ x := fun c xs r z => by subst z; rw [r] at mu; exact mu
  by_cases hb : b = x
  · subst hb; rw [upd_same] at q; cases q; exact new
  · rw [upd_ne hb] at q
    by_cases hbe : b = e
    · have q' : H b = some (.own x) := by
        rcases he with z | z
        · exact absurd (hbe.trans z) hb
        · rw [hbe]; exact z
      rw [q] at q'; cases q'
      obtain ⟨v, hv⟩ := heo
      exact ⟨v, by rw [hbe]; exact hv⟩
    · refine (ok b u q).stay (fun c v hc r => k c v ?_ r) (fun c r => by rw [upd_ne (nown c b r)]; exact r) fun c xs r => by rw [upd_ne (ntup c xs r)]; exact r
      rcases hc with rfl | hc
      · exact hbe
      · rintro rfl
        rcases he with z | z
        · exact nown c b hc z
        · rw [hc] at z; cases z; exact hb rfl
end


structure Un (fs ex : List Addr) (H H' : Hp) (h h' : Heap) : Prop where
  keep : ∀ b o, h.get? b = some o → H b = none → b ∉ fs → b ∉ ex → h'.get? b = some o
  slot : ∀ b o, h.get? b = some o → H b = none → b ∈ fs → b ∉ ex → ∃ sl, h'.get? b = some { o with slots := sl }
  free : ∀ b o, h.get? b = some o → H b = none → b ∉ ex → H' b = none
  there : ∀ b o, h.get? b = some o → b ∉ ex → ∃ o', h'.get? b = some o'
  tups : ∀ b xs, H b = some (.tup xs) → H' b = some (.tup xs)
  frzs : ∀ b o u, H b = some (.frz o u) → H' b = some (.frz o u)
  tbls : ∀ b ps, H b = some (.tbl ps) → ∃ more, H' b = some (.tbl (ps ++ more))
section
variable {fs fs' ex ex' : List Addr} {H H1 H2 : Hp} {h h1 h2 h' : Heap} {a x e : Addr} {o : HO}
theorem Un.any (u : Un fs ex H H1 h h1) {b : Addr} {ob : Obj} (q : h.get? b = some ob) (n : H b = none) (hx : b ∉ ex) : ∃ sl, h1.get? b = some { ob with slots := sl } := by
  by_cases hb : b ∈ fs
  · exact u.slot b ob q n hb hx
  · exact ⟨ob.slots, u.keep b ob q n hb hx⟩
theorem Un.trans (a : Un fs ex H H1 h h1) (b : Un fs ex H1 H2 h1 h2) : Un fs ex H H2 h h2 where
  keep := fun c ob q n hc hx => b.keep c ob (a.keep c ob q n hc hx) (a.free c ob q n hx) hc hx
  slot := fun c ob q n hc hx => by
    obtain ⟨sl, e1⟩ := a.slot c ob q n hc hx
    obtain ⟨sl', e2⟩ := b.slot c _ e1 (a.free c ob q n hx) hc hx
    exact ⟨sl', e2⟩
  free := fun c ob q n hx => by
    obtain ⟨o', e1⟩ := a.there c ob q hx
    exact b.free c o' e1 (a.free c ob q n hx) hx
  there := fun c ob q hx => by
    obtain ⟨o', e1⟩ := a.there c ob q hx
    exact b.there c o' e1 hx
  tups := fun c xs q => b.tups c xs (a.tups c xs q)
  frzs := fun c ob xs q => b.frzs c ob xs (a.frzs c ob xs q)
  tbls := fun c ps q => by
    obtain ⟨m1, e1⟩ := a.tbls c ps q
    obtain ⟨m2, e2⟩ := b.tbls c _ e1
    exact ⟨m1 ++ m2, by rw [e2, Array.append_assoc]⟩
theorem Un.kept (k : ∀ b u, h.get? b = some u → h'.get? b = some u) : Un fs ex H H h h' :=
  ⟨fun b ob q _ _ _ => k b ob q, fun b ob q _ _ _ => ⟨ob.slots, k b ob q⟩, fun _ _ _ n _ => n, fun b ob q _ => ⟨ob, k b ob q⟩, fun _ _ q => q, fun _ _ _ q => q, fun _ ps q => ⟨#[], by rw [q]; simp⟩⟩
theorem Un.refl : Un fs ex H H h h := Un.kept fun _ _ q => q
theorem Un.laid (k : ∀ b u, h.get? b = some u → h'.get? b = some u) (hp : h.objs.size ≤ a) (hn : H a = none) : Un fs ex H (upd H a o) h h' where
  keep := fun b u q _ _ _ => k b u q
  slot := fun b u q _ _ _ => ⟨u.slots, k b u q⟩
  free := fun b u q n _ => by rw [upd_ne (Nat.ne_of_lt (Nat.lt_of_lt_of_le (Heap.lt_size q) hp))]; exact n
  there := fun b u q _ => ⟨u, k b u q⟩
  tups := fun b xs q => by rw [upd_ne (ne_of_none q hn)]; exact q
  frzs := fun b u xs q => by rw [upd_ne (ne_of_none q hn)]; exact q
  tbls := fun b ps q => ⟨#[], by rw [upd_ne (ne_of_none q hn), q]; simp⟩
theorem Un.write (mu : Mut (H x)) (he : e = x ∨ H e = some (.own x)) (k : ∀ b u, b ≠ e → h.get? b = some u → h'.get? b = some u) (heo : ∃ u, h'.get? e = some u) : Un fs ex H (upd H x o) h h' := by
  have hx : ∀ b, H b = none → b ≠ x := fun b n z => by subst z; rw [n] at mu; exact mu
  have hb : ∀ b, H b = none → b ≠ e := fun b n z => by
    subst z
    rcases he with r | r
    · exact hx b n r
    · rw [n] at r; cases r
  have hm : ∀ b u, H b = some u → ¬ Mut (some u) → b ≠ x := fun b u q nm z => by subst z; rw [q] at mu; exact nm mu
  refine ⟨fun b u q n _ _ => k b u (hb b n) q, fun b u q n _ _ => ⟨u.slots, k b u (hb b n) q⟩, fun b u q n _ => by rw [upd_ne (hx b n)]; exact n, fun b u q _ => ?_,
    fun b xs q => by rw [upd_ne (hm b _ q fun z => z)]; exact q, fun b u xs q => by rw [upd_ne (hm b _ q fun z => z)]; exact q, fun b ps q => ⟨#[], by rw [upd_ne (hm b _ q fun z => z), q]; simp⟩⟩
  by_cases hbe : b = e
  · subst hbe; exact heo
  · exact ⟨u, k b u hbe q⟩
theorem Un.mono (u : Un fs ex H H1 h h1) (hs : ∀ b ∈ fs, b ∈ fs') (hx : ∀ b ∈ ex, b ∈ ex') : Un fs' ex' H H1 h h1 :=
  ⟨fun b ob q n hb he => u.keep b ob q n (fun z => hb (hs b z)) fun z => he (hx b z), fun _ _ q n _ he => u.any q n fun z => he (hx _ z), fun b ob q n he => u.free b ob q n fun z => he (hx b z), fun b ob q he => u.there b ob q fun z => he (hx b z), u.tups, u.frzs, u.tbls⟩
end


noncomputable def trk (h : Heap) (H : Hp) : List Addr := (List.range h.objs.size).filter fun a => (H a).isSome
noncomputable def hidT (h : Heap) (H : Hp) : Heap := PySem.W.hideAll h (trk h H)
theorem hidT_size (h : Heap) (H : Hp) : (hidT h H).objs.size = h.objs.size := PySem.W.hideAll_size _ _
theorem hidT_get {h : Heap} {H : Hp} {b : Addr} {o : Obj} (e : h.get? b = some o) (n : H b = none) : (hidT h H).get? b = some o :=
  PySem.W.hideAll_get _ e fun hm => by
    have q : (H b).isSome = true := (List.mem_filter.mp hm).2
    rw [n] at q; simp at q
theorem of_hidT {h : Heap} {H : Hp} {b : Addr} {o : Obj} (e : (hidT h H).get? b = some o) : h.get? b = some o ∧ H b = none := by
  have e' : h.get? b = some o := PySem.W.of_hideAll (trk h H) e
  refine ⟨e', ?_⟩
  cases q : H b with
  | none => rfl
  | some x =>
    have hm : b ∈ trk h H := List.mem_filter.mpr ⟨List.mem_range.mpr (Heap.lt_size e'), by simp [q]⟩
    have z : (hidT h H).get? b = none := PySem.W.hideAll_none (trk h H) hm
    rw [z] at e; cases e


noncomputable def allNews (g h : Heap) (L : Addr) : List (Addr × Obj) := (List.range h.objs.size).filterMap fun a => if a = L ∨ (g.get? a).isSome = true then none else (h.get? a).map fun o => (a, o)
noncomputable def rest (g h : Heap) (L d : Addr) : List (Addr × Obj) := (allNews g h L).filter fun p => decide (p.1 ≠ d)
end L2

namespace L2
open PySem PySem.Spec PyProof.Rows


structure Mod (K : PySem.W.Frag) (mg : Str → Option Value) (base : Heap) : Prop where
  kin : K.In base
  glob : base.Ns mainGlobals mg
  blt : ∃ mb, base.Ns builtinsNs mb ∧ ∀ x : Str, x ≠ "__name__" → mb x = bootBuiltins x
  nolimit : base.NoLimit


structure Cx where
  prog : Program
  w : World
  K : PySem.W.Frag
  mg : Str → Option Value
  base : Heap
  A : Around
  N : List Str
  s₀ : Shared
  H₀ : Hp
  env : Env
  outer : List Env
  stack : List Env
  ex : List Addr
  fn : Str → Bool
  calm : Bool
  pn : List (Addr × Obj)
  xe : Value → Shared → Prop

noncomputable def frs (l : List Env) : List Addr := l.filterMap (·.frame)
noncomputable abbrev Cx.fs (X : Cx) : List Addr := frs X.outer

noncomputable def Vis (sc : Scope) (x : Str) : Prop := sc.names.lookup x = some .local ∨ sc.names.lookup x = some .cell ∨ sc.names.lookup x = some .free
noncomputable def Loc (sc : Scope) (x : Str) : Prop := sc.names.lookup x = some .local ∨ sc.names.lookup x = some .cell
noncomputable def Look (env : Env) (h : Heap) (m : Str → Option Value) (x : Str) (u : Value) : Prop :=
  (env.kindOf x = some .local ∧ m x = some u) ∨ ((env.kindOf x = some .cell ∨ env.kindOf x = some .free) ∧ ∃ c, env.cells.lookup x = some c ∧ h.IsCell c (some u))

structure Cx.Ok (X : Cx) : Prop where
  mod : Mod X.K X.mg X.base
  kind : X.env.scope.kind = .function
  glob : X.env.globals = mainGlobals
  blt : X.env.builtins = builtinsNs
  above : X.s₀.heap.objs.size ≤ X.env.locals
  inj : ∀ x y c, X.env.cells.lookup x = some c → X.env.cells.lookup y = some c → x = y
  has : ∀ x, (X.env.kindOf x = some .cell ∨ X.env.kindOf x = some .free) → ∃ c, X.env.cells.lookup x = some c
  cab : ∀ x c, X.fn x = true → X.env.cells.lookup x = some c → X.s₀.heap.objs.size ≤ c
  hd : X.calm = true → X.A.handled = none
  frames : X.A.frames = some X.stack
  stk : X.stack = X.outer ∨ (X.stack = X.env :: X.outer ∧ X.env.frame = some X.env.locals)
  exf : ∀ b ∈ X.ex, b ≠ X.env.locals ∧ ∀ x c, X.env.cells.lookup x = some c → c ≠ b
  bs : ∀ b o, X.base.get? b = some o → X.s₀.heap.get? b = some o ∧ X.H₀ b = none
  bsz : X.base.objs.size ≤ X.s₀.heap.objs.size
  noex : ∀ b o, X.base.get? b = some o → b ∉ X.ex
  exfs : ∀ b ∈ X.ex, b ∉ X.fs
  funs : X.s₀.heap.FunFrames X.base X.outer
  frf : ∀ b ∈ X.fs, X.H₀ b = none

structure Inv (X : Cx) (pins : List (Addr × Obj)) (σ : List (Option V)) (H : Hp) (s : Shared) : Prop where
  ok : X.Ok
  os : s.os = X.s₀.os
  bare : AllBare s.gens
  base : Un X.fs X.ex X.H₀ H X.s₀.heap s.heap
  loc : ∃ m, s.heap.Ns X.env.locals m ∧ ∀ (i : Nat) (x : Str) (v : V), X.N[i]? = some x → σ[i]? = some (some v) → Vis X.env.scope x → ∃ u, RelV v u ∧ Look X.env s.heap m x u
  cell : ∀ x c, X.env.cells.lookup x = some c → ∃ v, s.heap.IsCell c v
  free : H X.env.locals = none
  freeC : ∀ x c, X.env.cells.lookup x = some c → H c = none
  pin : ∀ p ∈ X.pn ++ pins, s.heap.get? p.1 = some p.2 ∧ H p.1 = none ∧ p.1 ≠ X.env.locals ∧ p.1 ∉ X.fs ∧ ∀ v, p.2.data ≠ .cell v
  hok : HOk X.prog X.w H s.heap
  len : σ.length = X.N.length

section
variable {X : Cx} {pins : List (Addr × Obj)} {σ : List (Option V)} {H H' : Hp} {s : Shared} {h' : Heap}

theorem Cx.Ok.nofr (ok : X.Ok) {b : Addr} {o : Obj} (e : X.base.get? b = some o) : b ∉ X.fs := fun hb => by
  have := (ok.funs.mem hb).1
  rw [e] at this; cases this
theorem Inv.bs (I : Inv X pins σ H s) : ∀ b o, X.base.get? b = some o → s.heap.get? b = some o ∧ H b = none := fun b o e =>
  ⟨I.base.keep b o (I.ok.bs b o e).1 (I.ok.bs b o e).2 (I.ok.nofr e) (I.ok.noex b o e), I.base.free b o (I.ok.bs b o e).1 (I.ok.bs b o e).2 (I.ok.noex b o e)⟩
theorem Inv.bk (I : Inv X pins σ H s) : ∀ b o, X.base.get? b = some o → s.heap.get? b = some o := fun b o e => (I.bs b o e).1
theorem Inv.mod (I : Inv X pins σ H s) : Mod X.K X.mg X.base := I.ok.mod
theorem Inv.kIn (I : Inv X pins σ H s) : X.K.In s.heap := I.ok.mod.kin.keeps I.bk
theorem Inv.nolimit (I : Inv X pins σ H s) : s.heap.NoLimit := I.ok.mod.nolimit.keeps I.bk

theorem Inv.fr (I : Inv X pins σ H s) : ∃ m, Fr X.base X.env.locals s.heap m :=
  let ⟨m, hn, _⟩ := I.loc
  ⟨m, hn, I.bk, Nat.le_trans I.ok.bsz I.ok.above⟩
theorem Inv.lt (I : Inv X pins σ H s) : X.env.locals < s.heap.objs.size := let ⟨_, hn, _⟩ := I.loc; hn.lt
theorem Inv.sz (I : Inv X pins σ H s) : X.s₀.heap.objs.size ≤ s.heap.objs.size := Nat.le_trans I.ok.above (Nat.le_of_lt I.lt)
theorem Inv.nofs (I : Inv X pins σ H s) {a : Addr} (h : s.heap.objs.size ≤ a) : a ∉ X.fs := fun hb => by
  obtain ⟨_, o, ho, _⟩ := I.ok.funs.mem hb
  exact absurd (Nat.lt_of_lt_of_le (Heap.lt_size ho) (Nat.le_trans I.sz h)) (Nat.lt_irrefl _)
theorem Inv.cne (I : Inv X pins σ H s) : ∀ x c, X.env.cells.lookup x = some c → c ≠ X.env.locals := fun x c e z => by
  obtain ⟨v, o, ho, hd⟩ := I.cell x c e
  obtain ⟨m, ⟨o', es, ep, ho', hd', _⟩, _⟩ := I.loc
  rw [z, ho'] at ho; cases ho; rw [hd'] at hd; cases hd
theorem Inv.funs (I : Inv X pins σ H s) : s.heap.FunFrames X.base X.outer := by
  have all : ∀ (l : List Env), (∀ b ∈ frs l, b ∈ X.fs) → X.s₀.heap.FunFrames X.base l → s.heap.FunFrames X.base l := by
    intro l
    induction l with
    | nil => intro _ _; trivial
    | cons env r ih =>
      intro hs hl
      obtain ⟨hk, ⟨L, o, hf, hn, ho, hd⟩, hr⟩ := hl
      have hL : L ∈ X.fs := hs L (by unfold frs; rw [List.filterMap_cons, hf]; exact List.mem_cons_self)
      obtain ⟨sl, e⟩ := I.base.slot L o ho (I.ok.frf L hL) hL fun z => I.ok.exfs L z hL
      exact ⟨hk, ⟨L, _, hf, hn, e, hd⟩, ih (fun b hb => hs b (by unfold frs; rw [List.filterMap_cons, hf]; exact List.mem_cons_of_mem _ hb)) hr⟩
  exact all X.outer (fun _ hb => hb) I.ok.funs


theorem Inv.stack (I : Inv X pins σ H s) : s.heap.FunFrames X.base X.stack := by
  rcases I.ok.stk with e | ⟨e, hf⟩
  · rw [e]; exact I.funs
  · rw [e]
    obtain ⟨m, hn, _⟩ := I.loc
    refine .cons (by rw [I.ok.kind]; decide) hf hn ?_ I.funs
    exact Heap.get?_none_of_le (Nat.le_trans I.ok.bsz I.ok.above)
theorem Inv.stkSub (I : Inv X pins σ H s) : ∀ b ∈ frs X.stack, b ∈ X.env.locals :: X.fs := fun b hb => by
  rcases I.ok.stk with e | ⟨e, hf⟩
  · rw [e] at hb; exact List.mem_cons_of_mem _ hb
  · rw [e] at hb
    unfold frs at hb
    rw [List.filterMap_cons, hf] at hb
    exact hb
theorem Inv.stkFree (I : Inv X pins σ H s) : ∀ b ∈ frs X.stack, H b = none := fun b hb => by
  rcases List.mem_cons.mp (I.stkSub b hb) with e | hb
  · rw [e]; exact I.free
  · obtain ⟨_, o, ho, _⟩ := I.ok.funs.mem hb
    exact I.base.free b o ho (I.ok.frf b hb) fun z => I.ok.exfs b z hb


theorem Inv.step {g' : Array GenState} {t' : Nat} {d' : Drawn} {ch : List Addr} (I : Inv X pins σ H s)
    (hch : ∀ b ∈ ch, (b ∈ X.ex ∨ X.s₀.heap.objs.size ≤ b) ∧ b ≠ X.env.locals ∧ (∀ x c, X.env.cells.lookup x = some c → c ≠ b) ∧ ∀ p ∈ X.pn ++ pins, p.1 ≠ b)
    (keep : ∀ b o, b ≠ X.env.locals → b ∉ X.fs → b ∉ ch → s.heap.get? b = some o → H b = none → h'.get? b = some o)
    (slot : ∀ b o, b ≠ X.env.locals → b ∈ X.fs → b ∉ ch → s.heap.get? b = some o → H b = none → ∃ sl, h'.get? b = some { o with slots := sl }) (free : ∀ b o, b ∉ ch → s.heap.get? b = some o → H b = none → H' b = none)
    (there : ∀ b o, b ∉ ch → s.heap.get? b = some o → ∃ o', h'.get? b = some o')
    (tups : ∀ b xs, H b = some (.tup xs) → H' b = some (.tup xs)) (frzs : ∀ b o u, H b = some (.frz o u) → H' b = some (.frz o u)) (tbls : ∀ b ps, H b = some (.tbl ps) → ∃ more, H' b = some (.tbl (ps ++ more)))
    (ns : ∀ m, s.heap.Ns X.env.locals m → h'.Ns X.env.locals m) (hok : HOk X.prog X.w H' h') (hg : AllBare g') :
    Inv X pins σ H' { s with heap := h', gens := g', drawn := d', toks := t' } := by
  have neL : ∀ b o, X.s₀.heap.get? b = some o → b ≠ X.env.locals := fun b o e => Nat.ne_of_lt (Nat.lt_of_lt_of_le (Heap.lt_size e) I.ok.above)
  have neC : ∀ b o, X.s₀.heap.get? b = some o → b ∉ X.ex → b ∉ ch := fun b o e hx hb => by
    rcases (hch b hb).1 with z | z
    · exact hx z
    · exact absurd (Nat.lt_of_lt_of_le (Heap.lt_size e) z) (Nat.lt_irrefl _)
  have cellK : ∀ x c, X.env.cells.lookup x = some c → ∀ v, s.heap.IsCell c v → h'.IsCell c v := fun x c e v ⟨o, ho, hd⟩ => by
    have nch : c ∉ ch := fun z => (hch c z).2.2.1 x c e rfl
    by_cases hc : c ∈ X.fs
    · obtain ⟨sl, q⟩ := slot c o (I.cne x c e) hc nch ho (I.freeC x c e)
      exact ⟨_, q, hd⟩
    · exact ⟨o, keep c o (I.cne x c e) hc nch ho (I.freeC x c e), hd⟩
  refine ⟨I.ok, I.os, hg, ⟨fun b o e n hb hx => ?_, fun b o e n hb hx => ?_, fun b o e n hx => ?_, fun b o e hx => ?_, fun b xs e => tups b xs (I.base.tups b xs e), fun b o xs e => frzs b o xs (I.base.frzs b o xs e), fun b ps e => ?_⟩, ?_, fun x c e => ?_, ?_, fun x c e => ?_, fun p hp => ?_, hok, I.len⟩
  · exact keep b o (neL b o e) hb (neC b o e hx) (I.base.keep b o e n hb hx) (I.base.free b o e n hx)
  · obtain ⟨sl, e1⟩ := I.base.slot b o e n hb hx
    obtain ⟨sl', e2⟩ := slot b _ (neL b o e) hb (neC b o e hx) e1 (I.base.free b o e n hx)
    exact ⟨sl', e2⟩
  · obtain ⟨o', e1⟩ := I.base.there b o e hx
    exact free b o' (neC b o e hx) e1 (I.base.free b o e n hx)
  · obtain ⟨o', e1⟩ := I.base.there b o e hx
    exact there b o' (neC b o e hx) e1
  · obtain ⟨m1, e1⟩ := I.base.tbls b ps e
    obtain ⟨m2, e2⟩ := tbls b _ e1
    exact ⟨m1 ++ m2, by rw [e2, Array.append_assoc]⟩
  · obtain ⟨m, hn, hl⟩ := I.loc
    refine ⟨m, ns m hn, fun i x v e1 e2 e3 => ?_⟩
    obtain ⟨u, r, l⟩ := hl i x v e1 e2 e3
    refine ⟨u, r, ?_⟩
    rcases l with l | ⟨k, c, e, z⟩
    · exact .inl l
    · exact .inr ⟨k, c, e, cellK x c e _ z⟩
  · obtain ⟨v, z⟩ := I.cell x c e
    exact ⟨v, cellK x c e v z⟩
  · obtain ⟨m, ⟨o, _, _, ho, _⟩, _⟩ := I.loc
    exact free _ o (fun z => (hch _ z).2.1 rfl) ho I.free
  · obtain ⟨v, o, ho, hd⟩ := I.cell x c e
    exact free c o (fun z => (hch c z).2.2.1 x c e rfl) ho (I.freeC x c e)
  · obtain ⟨e, n, ne, nf, d⟩ := I.pin p hp
    have nch : p.1 ∉ ch := fun z => (hch p.1 z).2.2.2 p hp rfl
    exact ⟨keep p.1 p.2 ne nf nch e n, free p.1 p.2 nch e n, ne, nf, d⟩

theorem Inv.un {t' : Nat} (I : Inv X pins σ H s) (u : Un X.fs [] H H' s.heap h') (hok : HOk X.prog X.w H' h') : Inv X pins σ H' { s with heap := h', toks := t' } := by
  obtain ⟨m, ⟨o, es, ep, ho, r⟩, _⟩ := id I.loc
  obtain ⟨sl, hL⟩ := u.any ho I.free (by simp)
  exact I.step (g' := s.gens) (d' := s.drawn) (ch := []) (fun _ z => nomatch z) (fun b o _ hb _ e n => u.keep b o e n hb (by simp)) (fun b o _ hb _ e n => u.slot b o e n hb (by simp)) (fun b o _ e n => u.free b o e n (by simp)) (fun b o _ e => u.there b o e (by simp)) u.tups u.frzs u.tbls (fun m' hm => by
    obtain ⟨o', es', ep', ho', r'⟩ := hm
    rw [ho] at ho'; cases ho'
    exact ⟨_, es', ep', hL, r'⟩) hok I.bare

theorem Inv.call {g' : Array GenState} {t' : Nat} {d' : Drawn} {ch : List Addr} (I : Inv X pins σ H s) (u : Un (frs X.stack) ch H H' s.heap h') (hok : HOk X.prog X.w H' h') (hg : AllBare g')
    (hch : ∀ b ∈ ch, (b ∈ X.ex ∨ X.s₀.heap.objs.size ≤ b) ∧ b ≠ X.env.locals ∧ (∀ x c, X.env.cells.lookup x = some c → c ≠ b) ∧ ∀ p ∈ X.pn ++ pins, p.1 ≠ b) :
    Inv X pins σ H' { s with heap := h', gens := g', drawn := d', toks := t' } := by
  obtain ⟨m, ⟨o, es, ep, ho, r⟩, _⟩ := id I.loc
  obtain ⟨sl, hL⟩ := u.any ho I.free fun z => (hch _ z).2.1 rfl
  exact I.step (ch := ch) hch (fun b o hL hb hc e n => u.keep b o e n (fun z => (List.mem_cons.mp (I.stkSub b z)).elim hL hb) hc) (fun b o _ _ hc e n => u.any e n hc) (fun b o hc e n => u.free b o e n hc) (fun b o hc e => u.there b o e hc) u.tups u.frzs u.tbls (fun m' hm => by
    obtain ⟨o', es', ep', ho', r'⟩ := hm
    rw [ho] at ho'; cases ho'
    exact ⟨_, es', ep', hL, r'⟩) hok hg

theorem Inv.turned {t' : Nat} {it : Addr} (I : Inv X pins σ H s) (k : ∀ b o, b ≠ it → s.heap.get? b = some o → h'.get? b = some o) (hn : H it = none) (hL : it ≠ X.env.locals)
    (h1 : it ∈ X.ex ∨ X.s₀.heap.objs.size ≤ it) (h2 : ∀ x c, X.env.cells.lookup x = some c → c ≠ it) (h3 : ∀ p ∈ X.pn ++ pins, p.1 ≠ it) : Inv X pins σ H { s with heap := h', toks := t' } := by
  have nit : ∀ b u, H b = some u → b ≠ it := fun b u e z => by rw [z, hn] at e; cases e
  refine I.step (g' := s.gens) (d' := s.drawn) (ch := [it]) (fun b hb => ?_) (fun b o _ _ hc e _ => k b o (fun z => hc (by simp [z])) e) (fun b o _ _ hc e _ => ⟨o.slots, k b o (fun z => hc (by simp [z])) e⟩) (fun _ _ _ _ n => n)
    (fun b o hc e => ⟨o, k b o (fun z => hc (by simp [z])) e⟩) (fun _ _ e => e) (fun _ _ _ e => e) (fun b ps e => ⟨#[], by rw [e]; simp⟩) (fun m hm => ?_) (fun b u e => ?_) I.bare
  · have e : b = it := by simpa using hb
    subst e
    exact ⟨h1, hL, h2, h3⟩
  · obtain ⟨o, es, ep, ho, r⟩ := hm
    exact ⟨o, es, ep, k _ o (Ne.symm hL) ho, r⟩
  · refine (I.hok b u e).stay (fun c v hc q => k c v ?_ q) (fun _ q => q) fun _ _ q => q
    rcases hc with z | z
    · rw [z]; exact nit b u e
    · exact nit c _ z
theorem Inv.tok (I : Inv X pins σ H s) (t : Nat) : Inv X pins σ H { s with toks := t } := I.un (h' := s.heap) (t' := t) Un.refl I.hok

theorem Inv.kept {t' : Nat} (I : Inv X pins σ H s) (k : ∀ b u, s.heap.get? b = some u → h'.get? b = some u) : Inv X pins σ H { s with heap := h', toks := t' } := I.un (Un.kept k) (I.hok.kept k)

theorem Inv.laid {a : Addr} {o : HO} {t' : Nat} (I : Inv X pins σ H s) (k : ∀ b u, s.heap.get? b = some u → h'.get? b = some u) (hp : s.heap.objs.size ≤ a) (new : ObjOk X.prog X.w (upd H a o) h' a o) :
    Inv X pins σ (upd H a o) { s with heap := h', toks := t' } := I.un (Un.laid k hp (I.hok.fresh hp)) (I.hok.laid k hp new)

theorem Inv.write {x e : Addr} {o : HO} {t' : Nat} (I : Inv X pins σ H s) (mu : Mut (H x)) (he : e = x ∨ H e = some (.own x)) (k : ∀ b u, b ≠ e → s.heap.get? b = some u → h'.get? b = some u) (heo : ∃ u, h'.get? e = some u)
    (new : ObjOk X.prog X.w (upd H x o) h' x o) : Inv X pins σ (upd H x o) { s with heap := h', toks := t' } := I.un (Un.write mu he k heo) (I.hok.write mu he k heo new)

theorem Inv.weak {σ' : List (Option V)} (I : Inv X pins σ H s) (hl : σ'.length = σ.length) (w : ∀ (i : Nat) v, σ'[i]? = some (some v) → σ[i]? = some (some v)) : Inv X pins σ' H s :=
  ⟨I.ok, I.os, I.bare, I.base, let ⟨m, hn, hl'⟩ := I.loc; ⟨m, hn, fun i x v e1 e2 e3 => hl' i x v e1 (w i v e2) e3⟩, I.cell, I.free, I.freeC, I.pin, I.hok, hl.trans I.len⟩
theorem Inv.pins_of {pins' : List (Addr × Obj)} (I : Inv X pins σ H s) (h : ∀ p ∈ pins', s.heap.get? p.1 = some p.2 ∧ H p.1 = none ∧ p.1 ≠ X.env.locals ∧ p.1 ∉ X.fs ∧ ∀ v, p.2.data ≠ .cell v) : Inv X pins' σ H s :=
  ⟨I.ok, I.os, I.bare, I.base, I.loc, I.cell, I.free, I.freeC, fun p hp => (List.mem_append.mp hp).elim (fun z => I.pin p (List.mem_append_left _ z)) (h p), I.hok, I.len⟩

theorem nodup_ix {N : List Str} (hN : N.Nodup) {i j : Nat} {x : Str} (a : N[i]? = some x) (b : N[j]? = some x) : i = j := by
  obtain ⟨h1, e1⟩ := List.getElem?_eq_some_iff.mp a
  obtain ⟨h2, e2⟩ := List.getElem?_eq_some_iff.mp b
  exact (List.getElem_inj hN).mp (e1.trans e2.symm)


theorem store_ok2 {M : Model} {A : Around} {E : Value → Shared → Prop} {i : Nat} {x : Str} {v : V} {u : Value} {Q : Unit → Shared → Prop} (I : Inv X pins σ H s) (hN : X.N.Nodup) (hi : X.N[i]? = some x) (hx : Loc X.env.scope x) (r : RelV v u)
    (h : ∀ s', Inv X pins (σ.set i (some v)) H s' → (∃ a, Heap.SameBut a s.heap s'.heap ∧ (a = X.env.locals ∨ X.env.cells.lookup x = some a)) → Q () s') (hf : X.fn x = true ∨ X.env.scope.names.lookup x = some .local := by first | exact .inl rfl | exact .inr rfl | assumption) : wpAny M A (storeName X.env x u) Q E s := by
  obtain ⟨m, hn, hl⟩ := id I.loc
  have hcls : (X.env.scope.kind == .class || (X.env.scope.kind == .module && X.env.locals != X.env.globals)) = false := by rw [I.ok.kind]; rfl
  have hiσ : i < σ.length := by rw [I.len]; exact (List.getElem?_eq_some_iff.mp hi).1
  have cne := I.cne
  have tracked : ∀ {a : Addr} {h' : Heap}, (∃ o, s.heap.get? a = some o ∧ H a = none) → Heap.SameBut a s.heap h' → HOk X.prog X.w H h' := fun {a h'} ha hs b ob e => by
    obtain ⟨_, _, hfree⟩ := ha
    refine (I.hok b ob e).stay (fun c w' hc q => (hs.2 c ?_).trans q) (fun _ q => q) fun _ _ q => q
    rintro rfl
    rcases hc with rfl | hc
    · rw [hfree] at e; cases e
    · rw [hfree] at hc; cases hc
  rcases hx with hk | hk
  · refine wpAny_storeName_local hk hn (fun h' hn' hs => ?_) hcls
    obtain ⟨oL, _, _, hoL, _⟩ := id hn
    refine h _ ⟨I.ok, I.os, I.bare, ⟨fun b o e n hb hx => ?_, fun b o e n hb hx => ?_, I.base.free, fun b o e hx => ?_, I.base.tups, I.base.frzs, I.base.tbls⟩, ⟨_, hn', fun j y v' e1 e2 e3 => ?_⟩, fun y c e => ?_, I.free, I.freeC, fun p hp => ?_, tracked ⟨oL, hoL, I.free⟩ hs, by simpa using I.len⟩ ⟨_, hs, .inl rfl⟩
    · exact (hs.2 b (Nat.ne_of_lt (Nat.lt_of_lt_of_le (Heap.lt_size e) I.ok.above))).trans (I.base.keep b o e n hb hx)
    · obtain ⟨sl, e1⟩ := I.base.slot b o e n hb hx
      exact ⟨sl, (hs.2 b (Nat.ne_of_lt (Nat.lt_of_lt_of_le (Heap.lt_size e) I.ok.above))).trans e1⟩
    · obtain ⟨o', e1⟩ := I.base.there b o e hx
      exact ⟨o', (hs.2 b (Nat.ne_of_lt (Nat.lt_of_lt_of_le (Heap.lt_size e) I.ok.above))).trans e1⟩
    · by_cases hj : j = i
      · subst hj
        rw [hi] at e1; cases e1
        rw [List.getElem?_set_self hiσ] at e2
        cases e2
        exact ⟨u, r, .inl ⟨hk, by simp⟩⟩
      · rw [List.getElem?_set_ne (Ne.symm hj)] at e2
        obtain ⟨u', r', q⟩ := hl j y v' e1 e2 e3
        refine ⟨u', r', ?_⟩
        rcases q with ⟨k, e⟩ | ⟨k, c, e, z⟩
        · refine .inl ⟨k, ?_⟩
          have : y ≠ x := fun e => hj (nodup_ix hN e1 (e ▸ hi))
          simp [this, e]
        · exact .inr ⟨k, c, e, z.sameBut hs (cne y c e)⟩
    · obtain ⟨w', z⟩ := I.cell y c e
      exact ⟨w', z.sameBut hs (cne y c e)⟩
    · obtain ⟨e, n, ne, nf, d⟩ := I.pin p hp
      exact ⟨(hs.2 p.1 ne).trans e, n, ne, nf, d⟩
  · have hfn : X.fn x = true := by
      rcases hf with z | z
      · exact z
      · rw [z] at hk; cases hk
    obtain ⟨c, hc⟩ := I.ok.has x (.inl hk)
    obtain ⟨w', z⟩ := I.cell x c hc
    refine wpAny_storeName_cell I.ok.kind hk hc z (fun h' hc' hs => ?_)
    obtain ⟨oc, hoc, hocd⟩ := id z
    refine h { s with heap := h' } ⟨I.ok, I.os, I.bare, ⟨fun b o e n hb hx => ?_, fun b o e n hb hx => ?_, I.base.free, fun b o e hx => ?_, I.base.tups, I.base.frzs, I.base.tbls⟩, ⟨m, hn.sameBut hs (Ne.symm (cne x c hc)), fun j y v' e1 e2 e3 => ?_⟩, fun y c' e => ?_, I.free, I.freeC, fun p hp => ?_, tracked ⟨oc, hoc, I.freeC x c hc⟩ hs, by simpa using I.len⟩ ⟨c, hs, .inr hc⟩
    · exact (hs.2 b (Nat.ne_of_lt (Nat.lt_of_lt_of_le (Heap.lt_size e) (I.ok.cab x c hfn hc)))).trans (I.base.keep b o e n hb hx)
    · obtain ⟨sl, e1⟩ := I.base.slot b o e n hb hx
      exact ⟨sl, (hs.2 b (Nat.ne_of_lt (Nat.lt_of_lt_of_le (Heap.lt_size e) (I.ok.cab x c hfn hc)))).trans e1⟩
    · obtain ⟨o', e1⟩ := I.base.there b o e hx
      exact ⟨o', (hs.2 b (Nat.ne_of_lt (Nat.lt_of_lt_of_le (Heap.lt_size e) (I.ok.cab x c hfn hc)))).trans e1⟩
    · by_cases hj : j = i
      · subst hj
        rw [hi] at e1; cases e1
        rw [List.getElem?_set_self hiσ] at e2
        cases e2
        exact ⟨u, r, .inr ⟨.inl hk, c, hc, hc'⟩⟩
      · rw [List.getElem?_set_ne (Ne.symm hj)] at e2
        obtain ⟨u', r', q⟩ := hl j y v' e1 e2 e3
        refine ⟨u', r', ?_⟩
        rcases q with q | ⟨k, c', e, z'⟩
        · exact .inl q
        · refine .inr ⟨k, c', e, z'.sameBut hs ?_⟩
          rintro rfl
          exact hj (nodup_ix hN e1 (I.ok.inj _ _ _ e hc ▸ hi))
    · by_cases hcc : c' = c
      · subst hcc; exact ⟨_, hc'⟩
      · obtain ⟨w2, z2⟩ := I.cell y c' e
        exact ⟨w2, z2.sameBut hs hcc⟩
    · obtain ⟨e, n, ne, nf, d⟩ := I.pin p hp
      refine ⟨(hs.2 p.1 ?_).trans e, n, ne, nf, d⟩
      intro q
      rw [q, hoc] at e
      have q' : oc = p.2 := Option.some.inj e
      exact d w' (by rw [← q']; exact hocd)
theorem store_ok {M : Model} {A : Around} {E : Value → Shared → Prop} {i : Nat} {x : Str} {v : V} {u : Value} {Q : Unit → Shared → Prop} (I : Inv X pins σ H s) (hN : X.N.Nodup) (hi : X.N[i]? = some x) (hx : Loc X.env.scope x) (r : RelV v u)
    (h : ∀ s', Inv X pins (σ.set i (some v)) H s' → Q () s') (hf : X.fn x = true ∨ X.env.scope.names.lookup x = some .local := by first | exact .inl rfl | exact .inr rfl | assumption) : wpAny M A (storeName X.env x u) Q E s :=
  store_ok2 I hN hi hx r (fun s' I' _ => h s' I') hf

theorem Inv.call' {s' : Shared} {ch : List Addr} (I : Inv X pins σ H s) (ho : s'.os = s.os) (u : Un (frs X.stack) ch H H' s.heap s'.heap) (hok : HOk X.prog X.w H' s'.heap) (hg : AllBare s'.gens)
    (hch : ∀ b ∈ ch, (b ∈ X.ex ∨ X.s₀.heap.objs.size ≤ b) ∧ b ≠ X.env.locals ∧ (∀ x c, X.env.cells.lookup x = some c → c ≠ b) ∧ ∀ p ∈ X.pn ++ pins, p.1 ≠ b) : Inv X pins σ H' s' := by
  obtain ⟨h', g', d', t', o'⟩ := s'
  have e : o' = s.os := ho
  subst e
  exact I.call (g' := g') (t' := t') (d' := d') u hok hg hch
end



noncomputable abbrev XK := Value → Option Addr → Hp → Prop
noncomputable abbrev St := List (Option V)
noncomputable abbrev VK := V → Hp → Prop

noncomputable abbrev TE := St → Hp → VK → Prop
noncomputable abbrev TT := St → Hp → (Bool → Hp → Prop) → Prop
noncomputable abbrev TA := St → Hp → (List V → Hp → Prop) → Prop

structure Ends where
  nx : St → Hp → Prop
  rt : VK
  bk : St → Hp → Prop := fun _ _ => False
  ct : St → Hp → Prop := fun _ _ => False
noncomputable abbrev TS := Ends → St → Hp → Prop

noncomputable def EP (X : Cx) (pins : List (Addr × Obj)) (σ : St) (Q : VK) (u : Value) (s' : Shared) : Prop := ∃ v H', Inv X pins σ H' s' ∧ RelV v u ∧ Q v H'
noncomputable def TP (X : Cx) (pins : List (Addr × Obj)) (σ : St) (Q : Bool → Hp → Prop) (b : Bool) (s' : Shared) : Prop := ∃ H', Inv X pins σ H' s' ∧ Q b H'
noncomputable def AP (X : Cx) (pins : List (Addr × Obj)) (σ : St) (Q : List V → Hp → Prop) (us : List Value) (s' : Shared) : Prop := ∃ vs H', Inv X pins σ H' s' ∧ Vals vs us ∧ Q vs H'
noncomputable def SP (X : Cx) (pins : List (Addr × Obj)) (D : Ends) (f : Flow) (s' : Shared) : Prop :=
  match f with
  | .next => ∃ σ' H', Inv X pins σ' H' s' ∧ D.nx σ' H'
  | .brk => ∃ σ' H', Inv X pins σ' H' s' ∧ D.bk σ' H'
  | .cont => ∃ σ' H', Inv X pins σ' H' s' ∧ D.ct σ' H'
  | .ret u => ∃ v σ' H', Inv X pins σ' H' s' ∧ RelV v u ∧ D.rt v H'

noncomputable def PE (X : Cx) (e : Expr) (t : TE) : Prop :=
  ∀ (pins : List (Addr × Obj)) (s : Shared) (σ : St) (H : Hp) (Q : VK), Inv X pins σ H s → t σ H Q → wpAny (model X.prog X.w) X.A (eval e X.env) (EP X pins σ Q) X.xe s
noncomputable def PT (X : Cx) (e : Expr) (t : TT) : Prop :=
  ∀ (pins : List (Addr × Obj)) (s : Shared) (σ : St) (H : Hp) (Q : Bool → Hp → Prop), Inv X pins σ H s → t σ H Q → wpAny (model X.prog X.w) X.A (isTrue e X.env (eval e X.env)) (TP X pins σ Q) X.xe s

noncomputable def PW (X : Cx) (e : Expr) (t : TT) : Prop :=
  ∀ (whole : Sem Value) (pins : List (Addr × Obj)) (s : Shared) (σ : St) (H : Hp) (Q : Bool → Hp → Prop), Inv X pins σ H s → t σ H Q → wpAny (model X.prog X.w) X.A (isTrue e X.env whole) (TP X pins σ Q) X.xe s
theorem PW.pt {X : Cx} {e : Expr} {t : TT} (h : PW X e t) : PT X e t := h _

noncomputable def PA (X : Cx) (es : List Expr) (t : TA) : Prop :=
  ∀ (pos : Pos) (pins : List (Addr × Obj)) (s : Shared) (σ : St) (H : Hp) (Q : List V → Hp → Prop), Inv X pins σ H s → t σ H Q → wpAny (model X.prog X.w) X.A (spliced (backTo pos (starEach es X.env))) (AP X pins σ Q) X.xe s
noncomputable def PS (X : Cx) (st : Stmt) (t : TS) : Prop :=
  ∀ (pins : List (Addr × Obj)) (s : Shared) (σ : St) (H : Hp) (D : Ends), Inv X pins σ H s → t D σ H → wpAny (model X.prog X.w) X.A (exec st X.env) (SP X pins D) X.xe s
noncomputable def PSs (X : Cx) (st : List Stmt) (t : TS) : Prop :=
  ∀ (pins : List (Addr × Obj)) (s : Shared) (σ : St) (H : Hp) (D : Ends), Inv X pins σ H s → t D σ H → wpAny (model X.prog X.w) X.A (execs st X.env) (SP X pins D) X.xe s

theorem thn {α : Type} {t : Sem α} {Q Q' : α → Shared → Prop} {M : Model} {A : Around} {E : Value → Shared → Prop} {s : Shared} (h : wpAny M A t Q E s) (hQ : ∀ a s, Q a s → Q' a s) : wpAny M A t Q' E s := wpAny_mono h hQ fun _ _ x => x
end L2

namespace L2
open PySem PySem.Spec PyProof.Rows
section
variable {X : Cx}


noncomputable def tVar (i : Nat) : TE := fun σ H Q => ∃ v, σ[i]? = some (some v) ∧ Q v H
noncomputable def tC (v : V) : TE := fun _ H Q => Q v H
theorem pe_var {i : Nat} {x : Str} {pos : Pos} (hN : X.N[i]? = some x) (hv : Vis X.env.scope x) (hd : (x == ("__debug__" : Str)) = false := by decide) (hcd : (x == ("__classdict__" : Str)) = false := by decide) : PE X (.Name x pos) (tVar i) := by
  intro pins s σ H Q I h
  obtain ⟨v, e, h⟩ := h
  obtain ⟨m, hn, hl⟩ := I.loc
  obtain ⟨u, r, l⟩ := hl i x v hN e hv
  have fin : EP X pins σ Q u s := ⟨v, H, I, r, h⟩
  rcases l with ⟨hk, hm⟩ | ⟨hk, c, hc, hcell⟩
  · exact wpAny_Name (wpAny_loadName_local I.ok.kind hk hn hm fin) hd
  · rcases hk with hk | hk
    · exact wpAny_Name (wpAny_loadName_cell I.ok.kind hk hc hcell fin) hd
    · exact wpAny_Name (wpAny_loadName_free I.ok.kind hk hc hcell fin hcd) hd
theorem pe_int {i j pos} : PE X (.Constant (.int i) j pos) (tC (.int i)) := fun _ _ _ H _ I h => wpAny_Constant_int ⟨.int i, H, I.tok _, ⟨_, rfl⟩, h⟩
theorem pe_bl {b j pos} : PE X (.Constant (.bool b) j pos) (tC (.bl b)) := fun _ _ _ H _ I h => Constant_bool ⟨.bl b, H, I, rfl, h⟩
theorem pe_str {x j pos} : PE X (.Constant (.str x) j pos) (tC (.str x)) := fun _ _ _ H _ I h => Calls.Constant_str ⟨.str x, H, I.tok _, ⟨_, rfl⟩, h⟩


noncomputable def Gl (X : Cx) (x : Str) : Prop := X.env.kindOf x = some .globalImplicit
theorem ld_glob {E : Value → Shared → Prop} {pins : List (Addr × Obj)} {s : Shared} {σ : St} {H : Hp} {x : Str} {u : Value} {pos : Pos} {Q : Value → Shared → Prop} (I : Inv X pins σ H s) (hg : Gl X x) (hm : X.mg x = some u) (h : Q u s)
    (hd : (x == ("__debug__" : Str)) = false := by decide) : wpAny (model X.prog X.w) X.A (eval (.Name x pos) X.env) Q E s :=
  Calls.Name_function_global I.ok.kind hg (Calls.loadGlobal_global (by rw [I.ok.glob]; exact I.mod.glob.keeps I.bk) hm h) hd
theorem ld_blt {E : Value → Shared → Prop} {pins : List (Addr × Obj)} {s : Shared} {σ : St} {H : Hp} {x : Str} {u : Value} {pos : Pos} {Q : Value → Shared → Prop} (I : Inv X pins σ H s) (hg : Gl X x) (hm : X.mg x = none) (hv : bootBuiltins x = some u) (h : Q u s)
    (hn : x ≠ "__name__" := by decide) (hd : (x == ("__debug__" : Str)) = false := by decide) : wpAny (model X.prog X.w) X.A (eval (.Name x pos) X.env) Q E s := by
  obtain ⟨mb, h1, h2⟩ := I.mod.blt
  exact Calls.Name_function_global I.ok.kind hg (Calls.loadGlobal_builtin (by rw [I.ok.glob]; exact I.mod.glob.keeps I.bk) hm (by rw [I.ok.blt]; exact h1.keeps I.bk) ((h2 x hn).trans hv) h) hd

theorem pe_glob {x : Str} {v : V} {u : Value} {pos : Pos} (hg : Gl X x) (hm : X.mg x = some u) (r : RelV v u) (hd : (x == ("__debug__" : Str)) = false := by decide) : PE X (.Name x pos) (tC v) :=
  fun _ _ _ H _ I h => ld_glob I hg hm ⟨v, H, I, r, h⟩ hd
variable {a b : Expr} {ta tb : TE} {pos : Pos}
noncomputable def tB (t : TE) : TT := fun σ H Q => t σ H fun x H1 => ∃ c, x = .bl c ∧ Q c H1
theorem pt_val {e : Expr} {t : TE} (h : PE X e t) (he : ∀ whole, isTrue e X.env whole = (do let v ← whole; standAt e.pos; holding [v] (truthy v)) := by intro _; rfl) : PT X e (tB t) := by
  intro pins s σ H Q I hw
  refine isTrue_plain (thn (h pins s σ H _ I hw) fun v s1 hh9 => ?_) (he _)
  obtain ⟨x, H1, I1, r1, q1⟩ := hh9
  obtain ⟨d, rfl, q⟩ := q1
  cases r1
  exact wpAny_truthy_bool ⟨H1, I1, q⟩


variable {tA tB' : TT} {rest : List Expr}
noncomputable def tAnd (t u : TT) : TT := fun σ H Q => t σ H fun c H1 => if c = true then u σ H1 Q else Q false H1
noncomputable def tOr (t u : TT) : TT := fun σ H Q => t σ H fun c H1 => if c = true then Q true H1 else u σ H1 Q
noncomputable def tNot (t : TT) : TT := fun σ H Q => t σ H fun c H1 => Q (!c) H1
theorem pw_and1 (ha : PT X a tA) : PW X (.BoolOp .And [a] pos) tA := by
  intro wh pins s σ H Q I h
  refine isTrue_and (thn (ha pins s σ H Q I h) fun c s1 e => ?_)
  cases c with
  | true => exact isTrue_and_nil e
  | false => exact e
theorem pw_or1 (ha : PT X a tA) : PW X (.BoolOp .Or [a] pos) tA := by
  intro wh pins s σ H Q I h
  refine isTrue_or (thn (ha pins s σ H Q I h) fun c s1 e => ?_)
  cases c with
  | false => exact isTrue_or_nil e
  | true => exact e
theorem pw_and (ha : PT X a tA) (hb : PW X (.BoolOp .And (b :: rest) pos) tB') : PW X (.BoolOp .And (a :: b :: rest) pos) (tAnd tA tB') := by
  intro wh pins s σ H Q I h
  refine isTrue_and (thn (ha pins s σ H _ I h) fun c s1 hh9 => ?_)
  obtain ⟨H1, I1, q1⟩ := hh9
  cases c with
  | true => exact hb wh pins s1 σ H1 Q I1 q1
  | false => exact ⟨H1, I1, q1⟩
theorem pw_or (ha : PT X a tA) (hb : PW X (.BoolOp .Or (b :: rest) pos) tB') : PW X (.BoolOp .Or (a :: b :: rest) pos) (tOr tA tB') := by
  intro wh pins s σ H Q I h
  refine isTrue_or (thn (ha pins s σ H _ I h) fun c s1 hh9 => ?_)
  obtain ⟨H1, I1, q1⟩ := hh9
  cases c with
  | true => exact ⟨H1, I1, q1⟩
  | false => exact hb wh pins s1 σ H1 Q I1 q1
theorem pt_not (ha : PT X a tA) : PT X (.UnaryOp .Not a pos) (tNot tA) := by
  intro pins s σ H Q I h
  exact isTrue_not (ha pins s σ H (fun c H1 => Q (!c) H1) I h)

noncomputable def tAndV (ta tb : TE) : TE := fun σ H Q => ta σ H fun x H1 => ∃ c, x = .bl c ∧ if c = true then tb σ H1 Q else Q (.bl false) H1
noncomputable def tOrV (ta tb : TE) : TE := fun σ H Q => ta σ H fun x H1 => ∃ c, x = .bl c ∧ if c = true then Q (.bl true) H1 else tb σ H1 Q
noncomputable def tNotV (ta : TE) : TE := fun σ H Q => ta σ H fun x H1 => ∃ c, x = .bl c ∧ Q (.bl (!c)) H1
theorem pe_one {op} {t : TE} (h : PE X a t) : PE X (.BoolOp op [a] pos) t := fun pins s σ H Q I hw => BoolOp_one (h pins s σ H Q I hw)
theorem pe_and (ha : PE X a ta) (hb : PE X (.BoolOp .And (b :: rest) pos) tb) : PE X (.BoolOp .And (a :: b :: rest) pos) (tAndV ta tb) := by
  intro pins s σ H Q I h
  refine BoolOp_and (thn (ha pins s σ H _ I h) fun v s1 hh9 => ?_)
  obtain ⟨x, H1, I1, r1, q1⟩ := hh9
  obtain ⟨c, rfl, q1⟩ := q1
  cases r1
  refine wpAny_truthy_bool ?_
  cases c with
  | true => exact hb pins s1 σ H1 Q I1 q1
  | false => exact ⟨.bl false, H1, I1, rfl, q1⟩
theorem pe_or (ha : PE X a ta) (hb : PE X (.BoolOp .Or (b :: rest) pos) tb) : PE X (.BoolOp .Or (a :: b :: rest) pos) (tOrV ta tb) := by
  intro pins s σ H Q I h
  refine BoolOp_or (thn (ha pins s σ H _ I h) fun v s1 hh9 => ?_)
  obtain ⟨x, H1, I1, r1, q1⟩ := hh9
  obtain ⟨c, rfl, q1⟩ := q1
  cases r1
  refine wpAny_truthy_bool ?_
  cases c with
  | false => exact hb pins s1 σ H1 Q I1 q1
  | true => exact ⟨.bl true, H1, I1, rfl, q1⟩
theorem pe_not (ha : PE X a ta) : PE X (.UnaryOp .Not a pos) (tNotV ta) := by
  intro pins s σ H Q I h
  refine UnaryOp_ (thn (ha pins s σ H _ I h) fun v s1 hh9 => ?_)
  obtain ⟨x, H1, I1, r1, q1⟩ := hh9
  obtain ⟨c, rfl, q1⟩ := q1
  cases r1
  exact not_of (wpAny_truthy_bool ⟨.bl (!c), H1, I1, rfl, q1⟩)

noncomputable def tIf (t : TT) (ta tb : TE) : TE := fun σ H Q => t σ H fun c H1 => if c = true then ta σ H1 Q else tb σ H1 Q
end
end L2

namespace L2
open PySem PySem.Spec PyProof.Rows


noncomputable def SqL (K : PySem.W.Frag) (H : Hp) (a : Addr) (xs : List V) : Prop :=
  Rd H a (.lst xs) ∨
    ∃ (o : Obj) (its : Array Value) (n : Nat), K.lookup a = some o ∧ o.cls = .type "list" ∧ o.dict = none ∧ o.data = .seq its n ∧ its.size ≤ sizeLine ∧ Vals xs its.toList
noncomputable def SqT (K : PySem.W.Frag) (H : Hp) (a : Addr) (xs : List V) : Prop :=
  Rd H a (.tup xs) ∨
    ∃ (o : Obj) (its : Array Value) (n : Nat), K.lookup a = some o ∧ o.cls = .type "tuple" ∧ o.data = .seq its n ∧ its.size ≤ sizeLine ∧ Vals xs its.toList
noncomputable def absV : Value → Option V
  | .none => some .non
  | .bool b => some (.bl b)
  | .int i _ => some (.int i)
  | .str x _ => some (.str x)
  | .bytes b _ => some (.byt b)
  | .float b _ => some (.flt b)
  | .ref a => some (.ref a)
  | .type n => some (.ty n)
  | _ => none
theorem RelV.abs {x : V} {u : Value} (r : RelV x u) : absV u = some x := by
  cases x with
  | non => cases r; rfl
  | bl _ => cases r; rfl
  | int _ => obtain ⟨t, rfl⟩ := r; rfl
  | str _ => obtain ⟨t, rfl⟩ := r; rfl
  | byt _ => obtain ⟨t, rfl⟩ := r; rfl
  | flt _ => obtain ⟨t, rfl⟩ := r; rfl
  | ref _ => cases r; rfl
  | ty _ => cases r; rfl
theorem RelV.inj {x y : V} {u : Value} (r : RelV x u) (q : RelV y u) : x = y := Option.some.inj (r.abs.symm.trans q.abs)
theorem Vals.inj {xs ys : List V} {us : List Value} (h : Vals xs us) (h' : Vals ys us) : xs = ys := by
  induction h generalizing ys with
  | nil => cases h'; rfl
  | cons r t ih =>
    cases h' with
    | cons r' t' => rw [r.inj r', ih t']
section
variable {X : Cx} {pins : List (Addr × Obj)} {σ : St} {H : Hp} {s : Shared} {a : Addr} {xs ys : List V}
theorem SqL.of {K : PySem.W.Frag} (h : H a = some (.lst xs)) : SqL K H a xs := .inl (.inl h)
theorem SqT.of {K : PySem.W.Frag} (h : H a = some (.tup xs)) : SqT K H a xs := .inl (.inl h)
theorem Inv.list (I : Inv X pins σ H s) (h : SqL X.K H a xs) : ∃ its : List Value, Vals xs its ∧ PlainL s.heap a its.toArray ∧ xs.length ≤ sizeLine := by
  rcases h with h | ⟨o, its, n, hk, hc, hd, hs, hz, r⟩
  · obtain ⟨z, its, n, r, e⟩ := h.ok I.hok
    exact ⟨its, r, ⟨_, n, e, rfl, rfl, rfl⟩, z⟩
  · refine ⟨its.toList, r, ⟨o, n, I.kIn a o hk, hc, hd, by simpa using hs⟩, ?_⟩
    have e := r.length
    simp only [Array.length_toList] at e
    omega
theorem Inv.tuple (I : Inv X pins σ H s) (h : SqT X.K H a xs) : ∃ its : List Value, Vals xs its ∧ IsTup s.heap a its.toArray ∧ xs.length ≤ sizeLine := by
  rcases h with h | ⟨o, its, n, hk, hc, hs, hz, r⟩
  · obtain ⟨z, its, r, p⟩ := h.ok I.hok
    exact ⟨its, r, p, z⟩
  · refine ⟨its.toList, r, ⟨o, I.kIn a o hk, hc, n, by simpa using hs⟩, ?_⟩
    have e := r.length
    simp only [Array.length_toList] at e
    omega
theorem Inv.list_inj (I : Inv X pins σ H s) (h : SqL X.K H a xs) (h' : SqL X.K H a ys) : xs = ys := by
  obtain ⟨its, r, ⟨o, n, e, _, _, d⟩, _⟩ := I.list h
  obtain ⟨its', r', ⟨o', n', e', _, _, d'⟩, _⟩ := I.list h'
  rw [e] at e'; cases e'
  rw [d] at d'
  injection d' with d1 _
  have : its = its' := by simpa using congrArg Array.toList d1
  subst this
  exact r.inj r'
end


noncomputable abbrev Cx.wish (X : Cx) (E : Value → Shared → Prop) : Cx := { X with xe := E }

noncomputable abbrev Cx.nox (X : Cx) : Cx := X.wish fun _ _ => False
theorem Cx.Ok.wish {X : Cx} (ok : X.Ok) (E : Value → Shared → Prop) : (X.wish E).Ok :=
  ⟨ok.mod, ok.kind, ok.glob, ok.blt, ok.above, ok.inj, ok.has, ok.cab, ok.hd, ok.frames, ok.stk, ok.exf, ok.bs, ok.bsz, ok.noex, ok.exfs, ok.funs, ok.frf⟩
theorem Cx.Ok.unwish {X : Cx} {E : Value → Shared → Prop} (ok : (X.wish E).Ok) : X.Ok :=
  ⟨ok.mod, ok.kind, ok.glob, ok.blt, ok.above, ok.inj, ok.has, ok.cab, ok.hd, ok.frames, ok.stk, ok.exf, ok.bs, ok.bsz, ok.noex, ok.exfs, ok.funs, ok.frf⟩
section
variable {X : Cx} {pins : List (Addr × Obj)} {σ : St} {H : Hp} {s : Shared} {E : Value → Shared → Prop}
theorem Inv.wish (I : Inv X pins σ H s) (E : Value → Shared → Prop) : Inv (X.wish E) pins σ H s := ⟨I.ok.wish E, I.os, I.bare, I.base, I.loc, I.cell, I.free, I.freeC, I.pin, I.hok, I.len⟩
theorem Inv.unwish (I : Inv (X.wish E) pins σ H s) : Inv X pins σ H s := ⟨I.ok.unwish, I.os, I.bare, I.base, I.loc, I.cell, I.free, I.freeC, I.pin, I.hok, I.len⟩
theorem SP.unwish {D : Ends} {f : Flow} {s' : Shared} (h : SP (X.wish E) pins D f s') : SP X pins D f s' := by
  cases f with
  | next => obtain ⟨σ', H', I, q⟩ := h; exact ⟨σ', H', I.unwish, q⟩
  | brk => obtain ⟨σ', H', I, q⟩ := h; exact ⟨σ', H', I.unwish, q⟩
  | cont => obtain ⟨σ', H', I, q⟩ := h; exact ⟨σ', H', I.unwish, q⟩
  | ret u => obtain ⟨v, σ', H', I, r, q⟩ := h; exact ⟨v, σ', H', I.unwish, r, q⟩
theorem PE.nox {e : Expr} {t : TE} (h : PE X.nox e t) : PE X e t := fun pins s σ H Q I hw =>
  wpAny_mono (h pins s σ H Q (I.wish _) hw) (fun _ _ hh9 => by obtain ⟨v, H', I', r, q⟩ := hh9; exact ⟨v, H', I'.unwish, r, q⟩) fun _ _ z => False.elim z
theorem PT.nox {e : Expr} {t : TT} (h : PT X.nox e t) : PT X e t := fun pins s σ H Q I hw =>
  wpAny_mono (h pins s σ H Q (I.wish _) hw) (fun _ _ hh9 => by obtain ⟨H', I', q⟩ := hh9; exact ⟨H', I'.unwish, q⟩) fun _ _ z => False.elim z
theorem PSs.nox {st : List Stmt} {t : TS} (h : PSs X.nox st t) : PSs X st t := fun pins s σ H D I hw =>
  wpAny_mono (h pins s σ H D (I.wish _) hw) (fun _ _ q => q.unwish) fun _ _ z => False.elim z
end


section
variable {X : Cx} {st : Stmt} {rest : List Stmt} {t u : TS} {e : Expr} {te : TE} {pos : Pos}
noncomputable def tNext : TS := fun D σ H => D.nx σ H
noncomputable def tSeq (t u : TS) : TS := fun D σ H => t { D with nx := u D } σ H
theorem pss_nil : PSs X [] tNext := fun _ _ σ H _ I h => wpAny_execs_nil ⟨σ, H, I, h⟩
theorem pss_cons (h1 : PS X st t) (h2 : PSs X rest u) : PSs X (st :: rest) (tSeq t u) := by
  intro pins s σ H D I h
  refine wpAny_execs_cons (thn (h1 pins s σ H { D with nx := u D } I h) fun f s1 q => ?_)
  cases f with
  | next =>
    obtain ⟨σ', H', I', q⟩ := q
    exact h2 pins s1 σ' H' D I' q
  | ret v => exact q
  | brk => exact q
  | cont => exact q
theorem pss_one (h1 : PS X st t) : PSs X [st] t := by
  intro pins s σ H D I h
  refine wpAny_execs_cons (thn (h1 pins s σ H D I h) fun f s1 q => ?_)
  cases f with
  | next => exact wpAny_execs_nil q
  | ret v => exact q
  | brk => exact q
  | cont => exact q
noncomputable def tBreak : TS := fun D σ H => D.bk σ H
noncomputable def tCont : TS := fun D σ H => D.ct σ H
theorem Inv.quiet {pins : List (Addr × Obj)} {σ : St} {H : Hp} {s : Shared} (I : Inv X pins σ H s) : interactive X.env = false := by simp [interactive, I.ok.kind]

noncomputable def tDrop (te : TE) : TS := fun D σ H => te σ H fun _ H1 => D.nx σ H1
theorem ps_expr (he : PE X e te) (hs : swapsWith e none pos.line X.env = pure false := by rfl) : PS X (.Expr e pos) (tDrop te) := by
  intro pins s σ H D I h
  exact wpAny_Expr_any (thn (he pins s σ H _ I h) fun v s1 hh9 => by obtain ⟨x, H1, I1, r1, q1⟩ := hh9; exact ⟨σ, H1, I1, q1⟩) I.quiet hs
noncomputable def tRet (te : TE) : TS := fun D σ H => te σ H D.rt
theorem ps_ret (he : PE X e te) : PS X (.Return (some e) pos) (tRet te) := by
  intro pins s σ H D I h
  exact wpAny_Return_some (thn (he pins s σ H _ I h) fun v s1 hh9 => by obtain ⟨x, H1, I1, r1, q1⟩ := hh9; exact ⟨x, σ, H1, I1, r1, q1⟩)
noncomputable def tRetN : TS := fun D _ H => D.rt .non H
noncomputable def tIfS (c : TT) (t u : TS) : TS := fun D σ H => c σ H fun b H1 => if b = true then t D σ H1 else u D σ H1
theorem ps_if {c : Expr} {a b : List Stmt} {tc : TT} (hc : PT X c tc) (ha : PSs X a t) (hb : PSs X b u) : PS X (.If c a b pos) (tIfS tc t u) := by
  intro pins s σ H D I h
  refine wpAny_If (thn (hc pins s σ H _ I h) fun d s1 hh9 => ?_)
  obtain ⟨H1, I1, q1⟩ := hh9
  cases d with
  | true => exact ha pins s1 σ H1 D I1 q1
  | false => exact hb pins s1 σ H1 D I1 q1

noncomputable def tNever : TS := fun _ _ _ => False
theorem ps_never : PS X st tNever := fun _ _ _ _ _ _ h => h.elim
end


noncomputable abbrev TG := V → St → Hp → (St → Hp → Prop) → Prop
noncomputable abbrev TGs := List V → St → Hp → (St → Hp → Prop) → Prop
noncomputable def PG (X : Cx) (target : Expr) (t : TG) : Prop :=
  ∀ (pins : List (Addr × Obj)) (s : Shared) (σ : St) (H : Hp) (v : V) (u : Value) (Q : St → Hp → Prop), Inv X pins σ H s → RelV v u → t v σ H Q →
    wpAny (model X.prog X.w) X.A (assign target X.env u) (fun _ s' => ∃ σ' H', Inv X pins σ' H' s' ∧ Q σ' H') X.xe s

noncomputable def PGs (X : Cx) (ts : List Expr) (t : TGs) : Prop :=
  ∀ (pins : List (Addr × Obj)) (s : Shared) (σ : St) (H : Hp) (vs : List V) (us : List Value) (Q : St → Hp → Prop), Inv X pins σ H s → Vals vs us → t vs σ H Q →
    wpAny (model X.prog X.w) X.A (assignInOrder ((assignEach ts X.env).map (·.2)) us) (fun _ s' => ∃ σ' H', Inv X pins σ' H' s' ∧ Q σ' H') X.xe s

noncomputable abbrev TSet := V → V → V → Hp → (Hp → Prop) → Prop
noncomputable def PSet (X : Cx) (t : TSet) : Prop :=
  ∀ (pins : List (Addr × Obj)) (s : Shared) (σ : St) (H : Hp) (o i v : V) (ov iv u : Value) (Q : Hp → Prop), Inv X pins σ H s → RelV o ov → RelV i iv → RelV v u → t o i v H Q →
    wpAny (model X.prog X.w) X.A (setItem ov iv u) (fun _ s' => ∃ H', Inv X pins σ H' s' ∧ Q H') X.xe s

section
variable {X : Cx} {pos : Pos}
noncomputable def gName (i : Nat) : TG := fun v σ H Q => Q (σ.set i (some v)) H
theorem pg_name {i : Nat} {x : Str} (hN : X.N.Nodup) (hi : X.N[i]? = some x) (hx : Loc X.env.scope x) (hf : X.fn x = true ∨ X.env.scope.names.lookup x = some .local := by first | exact .inl rfl | exact .inr rfl | assumption) : PG X (.Name x pos) (gName i) := by
  intro pins s σ H v u Q I r h
  exact wpAny_assign_Name (store_ok I hN hi hx r (fun s' I' => ⟨_, H, I', h⟩) hf)
noncomputable def gNil : TGs := fun vs σ H Q => vs = [] ∧ Q σ H
noncomputable def gCons (t : TG) (u : TGs) : TGs := fun vs σ H Q => ∃ v r, vs = v :: r ∧ t v σ H fun σ' H' => u r σ' H' Q
theorem pgs_nil : PGs X [] gNil := by
  intro pins s σ H vs us Q I r h
  obtain ⟨e, h⟩ := h
  subst e
  cases r
  exact assignInOrder_nil ⟨σ, H, I, h⟩
theorem pgs_cons {e : Expr} {es : List Expr} {t : TG} {u : TGs} (h1 : PG X e t) (h2 : PGs X es u)
    (hs : (assignEach (e :: es) X.env).map (·.2) = assign e X.env :: (assignEach es X.env).map (·.2) := by rfl) : PGs X (e :: es) (gCons t u) := by
  intro pins s σ H vs us Q I r h
  obtain ⟨v, vr, e1, h⟩ := h
  subst e1
  cases r with
  | cons r rr =>
    rw [hs]
    refine assignInOrder_cons (thn (h1 pins s σ H _ _ _ I r h) fun _ s1 hh9 => ?_)
    obtain ⟨σ1, H1, I1, q1⟩ := hh9
    exact h2 pins s1 σ1 H1 _ _ Q I1 rr q1

noncomputable def gTup (K : PySem.W.Frag) (n : Nat) (t : TGs) : TG := fun v σ H Q => ∃ a xs, v = .ref a ∧ SqT K H a xs ∧ xs.length = n ∧ t xs σ H Q
theorem pg_tup {es : List Expr} {k : Nat} {t : TGs} {n : Nat} (hc : X.calm = true) (h : PGs X es t)
    (hn : (assignEach es X.env).length = n := by rfl) (hst : (assignEach es X.env).findIdx? (·.1) = none := by rfl) : PG X (.Tuple es k pos) (gTup X.K n t) := by
  intro pins s σ H v u Q I r hw
  obtain ⟨a, xs, e1, hq, hl, hw⟩ := hw
  subst e1
  cases r
  obtain ⟨its, rv, ht, hz⟩ := I.tuple hq
  refine assign_Tuple_tuple (I.ok.hd hc) ht (by simp [hn, ← hl, rv.length]) hst fun h' hx => ?_
  have I1 : Inv X pins σ H { s with heap := h' } := I.kept (t' := s.toks) fun b o e => hx b o (Nat.ne_of_lt (Heap.lt_size e)) e
  exact h pins _ σ H xs _ Q I1 (by simpa using rv) hw

noncomputable def gSub (to ti : TE) (t : TSet) : TG := fun v σ H Q => to σ H fun o H1 => ti σ H1 fun i H2 => t o i v H2 fun H3 => Q σ H3
theorem pg_sub {o i : Expr} {to ti : TE} {t : TSet} (ho : PE X o to) (hi : PE X i ti) (hs : PSet X t)
    (ha : ∀ v, assign (.Subscript o i pos) X.env v = (do
      let ov ← holding [v] (eval o X.env)
      let iv ← holding [v, ov] (eval i X.env)
      standAt pos
      holding [v, ov, iv] (setItem ov iv v)
      release [v, ov, iv] []) := by intro _; rfl) : PG X (.Subscript o i pos) (gSub to ti t) := by
  intro pins s σ H v u Q I r h
  rw [ha]
  refine wpAny_bind (wpAny_holding (thn (ho pins s σ H _ I h) fun ov s1 hh9 => ?_))
  obtain ⟨x, H1, I1, r1, q1⟩ := hh9
  refine wpAny_bind (wpAny_holding (thn (hi pins s1 σ H1 _ I1 q1) fun iv s2 hh9 => ?_))
  obtain ⟨y, H2, I2, r2, q2⟩ := hh9
  refine wpAny_bind (wpAny_standAt (wpAny_bind (wpAny_holding (thn (hs pins s2 σ H2 x y v ov iv u _ I2 r1 r2 r q2) fun _ s3 hh9 => ?_))))
  obtain ⟨H3, I3, q3⟩ := hh9
  exact wpAny_release ⟨σ, H3, I3, q3⟩

noncomputable def tAsg (te : TE) (g : TG) : TS := fun D σ H => te σ H fun x H1 => g x σ H1 D.nx
theorem ps_asg {tg e : Expr} {te : TE} {g : TG} (he : PE X e te) (hg : PG X tg g) (hs : swapsWithSole [tg] e pos.line X.env = pure false := by rfl) (hw : swappedStores [tg] e X.env = pure none := by rfl)
    (h1 : (assignEach [tg] X.env).map (·.2) = [assign tg X.env] := by rfl) : PS X (.Assign [tg] e pos) (tAsg te g) := by
  intro pins s σ H D I h
  refine wpAny_Assign_stores (thn (he pins s σ H _ I h) fun v s1 hh9 => ?_) hs hw
  obtain ⟨x, H1, I1, r1, q1⟩ := hh9
  rw [h1]
  exact thn (hg pins s1 σ H1 x v _ I1 r1 q1) fun _ s2 q => q

theorem ps_set {i : Nat} {x : Str} {e : Expr} {te : TE} {pos' : Pos} (hN : X.N.Nodup) (hi : X.N[i]? = some x) (hx : Loc X.env.scope x) (he : PE X e te) (hs : swapsWith e (some (.Name x pos')) pos.line X.env = pure false := by rfl) (hf : X.fn x = true ∨ X.env.scope.names.lookup x = some .local := by first | exact .inl rfl | exact .inr rfl | assumption) :
    PS X (.Assign [.Name x pos'] e pos) (tAsg te (gName i)) := by
  intro pins s σ H D I h
  refine wpAny_Assign_Name (thn (he pins s σ H _ I h) fun v s1 hh9 => ?_) hs
  obtain ⟨y, H1, I1, r1, q1⟩ := hh9
  exact store_ok I1 hN hi hx r1 (fun s2 I2 => ⟨_, H1, I2, q1⟩) hf

end


section
variable {X : Cx} {pos : Pos}

noncomputable def tWhile (c : TT) (tb : TS) : TS := fun D σ H => ∃ W : Nat → St → Hp → Prop, (∃ m, W m σ H) ∧ ∀ m σ H, W m σ H →
  c σ H fun b H1 => if b = true then ∃ N : St → Hp → Prop, (∀ σ' H', N σ' H' → ∃ m', m' < m ∧ W m' σ' H') ∧ tb { D with nx := N, ct := N, bk := D.nx } σ H1 else D.nx σ H1
end



structure It where
  go : Nat → Hp → Prop
  yld : Nat → Hp → V → Hp → Prop
  stop : Nat → Hp → Prop

noncomputable def FpOk (X : Cx) (pins : List (Addr × Obj)) (H : Hp) (b : Addr) : Prop :=
  H b = none ∧ b ≠ X.env.locals ∧ b ∉ X.fs ∧ (b ∈ X.ex ∨ X.s₀.heap.objs.size ≤ b) ∧ (∀ x c, X.env.cells.lookup x = some c → c ≠ b) ∧ ∀ p ∈ X.pn ++ pins, p.1 ≠ b
theorem Inv.fpOk {X : Cx} {pins : List (Addr × Obj)} {σ : St} {H H' : Hp} {s : Shared} {b : Addr} (I : Inv X pins σ H s) (hb : s.heap.objs.size ≤ b) (hn : H' b = none) : FpOk X pins H' b := by
  refine ⟨hn, Nat.ne_of_gt (Nat.lt_of_lt_of_le I.lt hb), I.nofs hb, .inr (Nat.le_trans I.sz hb), fun x c e z => ?_, fun p hp z => ?_⟩
  · obtain ⟨v, q⟩ := I.cell x c e
    exact absurd (Nat.lt_of_lt_of_le q.lt (by rw [z]; exact hb)) (Nat.lt_irrefl _)
  · exact absurd (Nat.lt_of_lt_of_le (Heap.lt_size (I.pin p hp).1) (by rw [z]; exact hb)) (Nat.lt_irrefl _)
structure Turn (P : Program) (w : World) (K : PySem.W.Frag) (tg : Expr) (J : It) (fp : List Addr) (it : Addr) (tn : Nat → Heap → Prop) : Prop where
  mem : it ∈ fp
  obj : ∀ i h, tn i h → ∀ b ∈ fp, ∃ o, h.get? b = some o ∧ ∀ v, o.data ≠ .cell v
  keep : ∀ i h h', tn i h → (∀ b ∈ fp, ∀ o, h.get? b = some o → h'.get? b = some o) → tn i h'
  item : ∀ (X : Cx), X.prog = P → X.w = w → X.K = K → X.calm = true → ∀ (i : Nat) (pins : List (Addr × Obj)) (s : Shared) (σ : St) (H : Hp) (E : Value → Shared → Prop), Inv X pins σ H s → (∀ b ∈ fp, FpOk X pins H b) → tn i s.heap → J.go i H →
    wpAny (model P w) X.A (pyNext (.ref it)) (fun r s1 => ∃ u, r = some u ∧
      wpAny (model P w) X.A (letOwnedTupleGo tg (.ref it) u) (fun _ s2 => ∃ x H', Inv X pins σ H' s2 ∧ RelV x u ∧ J.yld i H x H' ∧ tn (i + 1) s2.heap ∧ ∀ b ∈ fp, H' b = none) E s1) E s
  done : ∀ (X : Cx), X.prog = P → X.w = w → X.K = K → X.calm = true → ∀ (i : Nat) (pins : List (Addr × Obj)) (s : Shared) (σ : St) (H : Hp) (E : Value → Shared → Prop), Inv X pins σ H s → (∀ b ∈ fp, FpOk X pins H b) → tn i s.heap → J.stop i H →
    wpAny (model P w) X.A (pyNext (.ref it)) (fun r s1 => r = none ∧ Inv X pins σ H s1) E s
  self : ∀ (A : Around) (i : Nat) (s : Shared) (Q : Value → Shared → Prop) (E : Value → Shared → Prop), tn i s.heap → Q (.ref it) s → wpAny (model P w) A (pyIter (.ref it)) Q E s
noncomputable abbrev TI := St → Hp → (It → Hp → Prop) → Prop

noncomputable def PIE (X : Cx) (pins : List (Addr × Obj)) (σ : St) (tg : Expr) (R : It → Hp → Prop) (itv : Value) (s2 : Shared) : Prop :=
  ∃ (it : Addr) (fp : List Addr) (tn : Nat → Heap → Prop) (J : It) (H' : Hp), itv = .ref it ∧ Inv X pins σ H' s2 ∧ Turn X.prog X.w X.K tg J fp it tn ∧ tn 0 s2.heap ∧ (∀ b ∈ fp, FpOk X pins H' b) ∧ R J H'
noncomputable def PI (X : Cx) (tg iter : Expr) (wi : TI) : Prop :=
  ∀ (pins : List (Addr × Obj)) (s : Shared) (σ : St) (H : Hp) (R : It → Hp → Prop), Inv X pins σ H s → wi σ H R →
    wpAny (model X.prog X.w) X.A (eval iter X.env) (fun v s1 => wpAny (model X.prog X.w) X.A (pyIter v) (PIE X pins σ tg R) X.xe s1) X.xe s


theorem go_of {M : Model} {A : Around} {E : Value → Shared → Prop} {s : Shared} {tg : Expr} {it : Addr} {u : Value} {o : Obj} {n : String} {vs : Array Value} {Q : Unit → Shared → Prop} (ho : s.heap.get? it = some o) (hc : o.cls = .type n) (hd : o.data = .fields vs)
    (hn : ["enumerate", "zip", "dict_itemiterator", "dict_reverseitemiterator", "odict_iterator", "itertools.zip_longest", "itertools.pairwise"].contains n = false) (hQ : Q () s) : wpAny M A (letOwnedTupleGo tg (.ref it) u) Q E s := by
  unfold letOwnedTupleGo
  cases tg <;> first
    | exact wpAny_pure hQ
    | (cases u <;> first
        | exact wpAny_pure hQ
        | (refine wpAny_bind (wpAny_load ho ?_)
           rw [hc, hd]
           show wpAny M A (if (["enumerate", "zip", "dict_itemiterator", "dict_reverseitemiterator", "odict_iterator", "itertools.zip_longest", "itertools.pairwise"].contains n && vs[0]? == some (rawInt _)) = true then _ else _) Q E s
           rw [if_neg (by intro h; rw [hn, Bool.false_and] at h; cases h)]
           exact wpAny_pure hQ))


noncomputable def Itl (K : PySem.W.Frag) (a : Addr) : It :=
  ⟨fun i H => ∃ xs x, SqL K H a xs ∧ xs[i]? = some x, fun i H x H' => H' = H ∧ ∀ xs, SqL K H a xs → xs[i]? = some x, fun i H => ∃ xs, SqL K H a xs ∧ xs.length ≤ i⟩
noncomputable def Itt (K : PySem.W.Frag) (a : Addr) : It :=
  ⟨fun i H => ∃ xs x, SqT K H a xs ∧ xs[i]? = some x, fun i H x H' => H' = H ∧ ∀ xs, SqT K H a xs → xs[i]? = some x, fun i H => ∃ xs, SqT K H a xs ∧ xs.length ≤ i⟩

noncomputable def Itr (lo : Int) (n : Nat) : It := ⟨fun i _ => i < n, fun i H x H' => H' = H ∧ x = .int (lo + i), fun i _ => n ≤ i⟩
theorem turn_list {P : Program} {w : World} {K : PySem.W.Frag} {tg : Expr} (a it : Addr) : Turn P w K tg (Itl K a) [it] it (fun i h => h.IsListIter it a i) where
  mem := by simp
  obj := fun i h st b hb => by
    have e : b = it := by simpa using hb
    subst e
    obtain ⟨o, e, c, d⟩ := st
    exact ⟨o, e, fun v z => by rw [d] at z; cases z⟩
  keep := fun i h h' st k => st.at fun o e => k it (by simp) o e
  item := by
    intro X hP hw hK hc i pins s σ H E I hf st hg
    subst hP hw hK
    obtain ⟨xs, x, hq, hx⟩ := hg
    obtain ⟨its, rv, p, hz⟩ := I.list hq
    obtain ⟨u, hu, ru⟩ := rv.get hx
    obtain ⟨f0, f1, f2, f3, f4, f5⟩ := hf it (by simp)
    refine wpAny_pyNext_list_item st p.isList (x := u) (by simpa using hu) fun h' st' sb => ?_
    have I1 : Inv X pins σ H { s with heap := h' } := I.turned (t' := s.toks) (fun b o hb e => (sb.2 b hb).trans e) f0 f1 f3 f4 f5
    obtain ⟨o, e, c, d⟩ := id st'
    exact ⟨u, rfl, go_of (s := { s with heap := h' }) e c d (by decide) ⟨x, H, I1, ru, ⟨rfl, fun ys hy => by rw [I.list_inj hy hq]; exact hx⟩, st', fun b hb => (hf b hb).1⟩⟩
  done := by
    intro X hP hw hK hc i pins s σ H E I hf st hg
    subst hP hw hK
    obtain ⟨xs, hq, hx⟩ := hg
    obtain ⟨its, rv, p, hz⟩ := I.list hq
    obtain ⟨f0, f1, f2, f3, f4, f5⟩ := hf it (by simp)
    have hl := rv.length
    exact wpAny_pyNext_list_end (I.ok.hd hc) st p.isList (by simp; omega) fun h' eb => ⟨rfl, I.turned (t' := s.toks) (fun b o hb e => eb b o hb e) f0 f1 f3 f4 f5⟩
  self := fun _ _ _ _ _ st h => wpAny_pyIter_listiter st h
theorem turn_range {P : Program} {w : World} {K : PySem.W.Frag} {tg : Expr} (it : Addr) (lo : Int) (n : Nat) : Turn P w K tg (Itr lo n) [it] it (fun i h => IsRangeIter h it (lo + (i : Nat) * 1) ((n : Int) - (i : Nat)) 1) where
  mem := by simp
  obj := fun i h st b hb => by
    have e : b = it := by simpa using hb
    subst e
    exact ⟨_, st, fun v z => by
      have z' : Data.fields _ = Data.cell v := z
      cases z'⟩
  keep := fun i h h' st k => k it (by simp) _ st
  item := by
    intro X hP hw hK hc i pins s σ H E I hf st hg
    subst hP hw hK
    obtain ⟨f0, f1, f2, f3, f4, f5⟩ := hf it (by simp)
    have W := Walks.range (prog := X.prog) (w := X.w) (I.ok.hd hc) it lo 1 n
    refine W.item i s _ _ hg st fun v h' tk hv st' kk => ?_
    obtain ⟨t, rfl⟩ := hv
    have I1 : Inv X pins σ H { s with heap := h', toks := tk } := I.turned (fun b o hb e => kk b o (by simpa using hb) e) f0 f1 f3 f4 f5
    refine ⟨_, rfl, go_of (s := { s with heap := h', toks := tk }) (n := "range_iterator") st' rfl rfl (by decide) ⟨.int (lo + i), H, I1, ⟨t, ?_⟩, ⟨rfl, rfl⟩, st', fun b hb => (hf b hb).1⟩⟩
    rw [Int.mul_one]
  done := by
    intro X hP hw hK hc i pins s σ H E I hf st hg
    subst hP hw hK
    obtain ⟨f0, f1, f2, f3, f4, f5⟩ := hf it (by simp)
    exact wpAny_pyNext_range_end (I.ok.hd hc) st (by have : n ≤ i := hg; omega) fun h' eb => ⟨rfl, I.turned (t' := s.toks) (fun b o hb e => eb b o hb e) f0 f1 f3 f4 f5⟩
  self := fun _ _ _ _ _ st h => wpAny_pyIter_rangeiter st h
end L2

namespace L2
open PySem PySem.Spec PyProof.Rows
section
variable {X : Cx} {tg : Expr}
noncomputable def iList (K : PySem.W.Frag) (tl : TE) : TI := fun σ H R => tl σ H fun x H1 => ∃ a, x = .ref a ∧ (∃ xs, SqL K H1 a xs) ∧ R (Itl K a) H1
noncomputable def iTup (K : PySem.W.Frag) (tl : TE) : TI := fun σ H R => tl σ H fun x H1 => ∃ a, x = .ref a ∧ (∃ xs, SqT K H1 a xs) ∧ R (Itt K a) H1
theorem pi_list {l : Expr} {tl : TE} (hl : PE X l tl) : PI X tg l (iList X.K tl) := by
  intro pins s σ H R I h
  refine thn (hl pins s σ H _ I h) fun v s1 hh9 => ?_
  obtain ⟨x, H1, I1, r1, q1⟩ := hh9
  obtain ⟨a, e, ⟨xs, hq⟩, q⟩ := q1
  subst e
  cases r1
  obtain ⟨its, rv, p, hz⟩ := I1.list hq
  refine wpAny_pyIter_list p.isList ?_
  refine ⟨s1.heap.objs.size, [s1.heap.objs.size], _, _, H1, rfl, I1.kept (t' := s1.toks) fun b o e => Heap.get?_push_of_some _ e, turn_list a _, ⟨_, Heap.get?_push_size _ rfl, rfl, rfl⟩, fun b hb => ?_, q⟩
  have e : b = s1.heap.objs.size := by simpa using hb
  subst e
  exact I1.fpOk (Nat.le_refl _) (I1.hok.fresh (Nat.le_refl _))
theorem range_it {pins : List (Addr × Obj)} {σ : St} {H : Hp} {s : Shared} {R : It → Hp → Prop} {E : Value → Shared → Prop} {lo hi : Int} {t u v : Tok} {tk : Nat} (I : Inv X pins σ H s) (h1 : -(2 ^ 62) ≤ lo) (h2 : lo < 2 ^ 62) (h3 : -(2 ^ 62) ≤ hi) (h4 : hi < 2 ^ 62)
    (q : R (Itr lo (hi - lo).toNat) H) : wpAny (model X.prog X.w) X.A (pyIter (.ref s.heap.objs.size)) (PIE X pins σ tg R) E { s with heap := s.heap.push { cls := .type "range", data := .fields #[.int lo t, .int hi u, .int 1 v] }, toks := tk } := by
  refine wpAny_pyIter_range (IsRange.new ..) (small_one h1 h2 h3 h4) ?_
  have I1 : Inv X pins σ H { s with heap := s.heap.push { cls := .type "range", data := .fields #[.int lo t, .int hi u, .int 1 v] }, toks := tk } := I.kept fun b o e => Heap.get?_push_of_some _ e
  refine ⟨(s.heap.push { cls := .type "range", data := .fields #[.int lo t, .int hi u, .int 1 v] }).objs.size, [(s.heap.push { cls := .type "range", data := .fields #[.int lo t, .int hi u, .int 1 v] }).objs.size], _, _, H, rfl,
    I1.kept (t' := tk) fun b o e => Heap.get?_push_of_some _ e, turn_range _ lo (hi - lo).toNat, ?_, fun b hb => ?_, q⟩
  · have e1 : lo + ((0 : Nat) : Int) * 1 = lo := by simp
    have e2 : (((hi - lo).toNat : Nat) : Int) - ((0 : Nat) : Int) = Builtin.Range.rangeSize lo hi 1 := by rw [rangeSize_one]; split <;> omega
    show IsRangeIter _ _ (lo + ((0 : Nat) : Int) * 1) ((((hi - lo).toNat : Nat) : Int) - ((0 : Nat) : Int)) 1
    rw [e1, e2]
    exact Heap.get?_push_size _ rfl
  · have e : b = (s.heap.push { cls := .type "range", data := .fields #[.int lo t, .int hi u, .int 1 v] }).objs.size := by simpa using hb
    subst e
    exact I1.fpOk (Nat.le_refl _) (I1.hok.fresh (Nat.le_refl _))
noncomputable def iRng1 (ta : TA) : TI := fun σ H R => ta σ H fun vs H1 => ∃ j : Int, vs = [.int j] ∧ -(2 ^ 62) ≤ j ∧ j < 2 ^ 62 ∧ R (Itr 0 j.toNat) H1
noncomputable def iRng2 (ta : TA) : TI := fun σ H R => ta σ H fun vs H1 => ∃ i j : Int, vs = [.int i, .int j] ∧ (-(2 ^ 62) ≤ i ∧ i < 2 ^ 62 ∧ -(2 ^ 62) ≤ j ∧ j < 2 ^ 62) ∧ R (Itr i (j - i).toNat) H1
theorem pi_range1 {a : Expr} {ta : TA} {p pos : Pos} (hg : Gl X "range") (hm : X.mg "range" = none) (ha : PA X [a] ta) (hs : starEach [a] X.env = [(false, eval a X.env)] := by rfl) : PI X tg (.Call (.Name "range" p) [a] [] pos) (iRng1 ta) := by
  intro pins s σ H R I h
  refine Call_ (ld_blt I hg hm boot_range (PyProof.Rows.callWith_type1 (thn (ha pos pins s σ H _ I h) fun us s1 hh9 => ?_) hs rfl))
  obtain ⟨vs, H1, I1, r1, q1⟩ := hh9
  obtain ⟨j, e, q1, q2, q⟩ := q1
  subst e
  cases r1 with
  | cons r rr =>
    cases rr
    obtain ⟨t, rfl⟩ := r
    exact call_range_1 (range_it I1 (by omega) (by omega) q1 q2 (by simpa using q))
theorem pi_range2 {a b : Expr} {ta : TA} {p pos : Pos} (hg : Gl X "range") (hm : X.mg "range" = none) (ha : PA X [a, b] ta) (hs : starEach [a, b] X.env = [(false, eval a X.env), (false, eval b X.env)] := by rfl) (hs2 : starEach [b] X.env = [(false, eval b X.env)] := by rfl) :
    PI X tg (.Call (.Name "range" p) [a, b] [] pos) (iRng2 ta) := by
  intro pins s σ H R I h
  refine Call_ (ld_blt I hg hm boot_range (PyProof.Rows.callWith_type1 (thn (ha pos pins s σ H _ I h) fun us s1 hh9 => ?_) (by rw [hs, hs2]) (by rw [hs2]; rfl)))
  obtain ⟨vs, H1, I1, r1, q1⟩ := hh9
  obtain ⟨i, j, e, ⟨q1, q2, q3, q4⟩, q⟩ := q1
  subst e
  cases r1 with
  | cons r rr =>
    cases rr with
    | cons r' rr =>
      cases rr
      obtain ⟨t, rfl⟩ := r
      obtain ⟨t', rfl⟩ := r'
      exact call_range_2 (range_it I1 q1 q2 q3 q4 q)



noncomputable def tFor (wi : TI) (g : TG) (tb : TS) : TS := fun D σ H => wi σ H fun J H1 => ∃ W : Nat → Nat → St → Hp → Prop, (∃ m, W 0 m σ H1) ∧ ∀ i m σ H, W i m σ H →
  (J.stop i H ∧ D.nx σ H) ∨ (J.go i H ∧ ∃ N : St → Hp → Prop, (∀ σ' H', N σ' H' → ∃ m', m' < m ∧ W (i + 1) m' σ' H') ∧ ∀ x H', J.yld i H x H' → g x σ H' fun σ2 H2 => tb { D with nx := N, ct := N, bk := D.nx } σ2 H2)

noncomputable def pinsAt (fp : List Addr) (h : Heap) : List (Addr × Obj) := fp.filterMap fun b => (h.get? b).map fun o => (b, o)
theorem mem_pinsAt {fp : List Addr} {h : Heap} {b : Addr} {o : Obj} (hb : b ∈ fp) (e : h.get? b = some o) : (b, o) ∈ pinsAt fp h := List.mem_filterMap.mpr ⟨b, hb, by rw [e]; rfl⟩
theorem of_pinsAt {fp : List Addr} {h : Heap} {p : Addr × Obj} (hp : p ∈ pinsAt fp h) : p.1 ∈ fp ∧ h.get? p.1 = some p.2 := by
  obtain ⟨b, hb, e⟩ := List.mem_filterMap.mp hp
  cases q : h.get? b with
  | none => rw [q] at e; cases e
  | some o =>
    rw [q] at e
    have e' : (b, o) = p := Option.some.inj e
    subst e'
    exact ⟨hb, q⟩
theorem Inv.pinned {pins : List (Addr × Obj)} {σ : St} {H : Hp} {s : Shared} {fp : List Addr} (I : Inv X pins σ H s) (hf : ∀ b ∈ fp, FpOk X pins H b) (ho : ∀ b ∈ fp, ∃ o, s.heap.get? b = some o ∧ ∀ v, o.data ≠ .cell v) : Inv X (pins ++ pinsAt fp s.heap) σ H s :=
  I.pins_of fun p hp => (List.mem_append.mp hp).elim (fun z => I.pin p (List.mem_append_right _ z)) fun z => by
    obtain ⟨hb, e⟩ := of_pinsAt z
    obtain ⟨f0, f1, f2, _⟩ := hf p.1 hb
    obtain ⟨o, e', d⟩ := ho p.1 hb
    rw [e] at e'; cases e'
    exact ⟨e, f0, f1, f2, d⟩
theorem Inv.unpinned {pins pl : List (Addr × Obj)} {σ : St} {H : Hp} {s : Shared} (I : Inv X (pins ++ pl) σ H s) : Inv X pins σ H s := I.pins_of fun p hp => I.pin p (List.mem_append_right _ (List.mem_append_left _ hp))
theorem ps_for {iter : Expr} {body : List Stmt} {wi : TI} {g : TG} {tb : TS} {pos : Pos} (hp : PassesOwn (model X.prog X.w) X.A X.env X.xe) (hc : X.calm = true) (hi : PI X tg iter wi) (hg : PG X tg g) (hb : PSs X body tb)
    (hs : ∀ x, foldedSetIterable iter X.env x = pure x := by intro _; rfl) : PS X (.For tg iter body [] pos) (tFor wi g tb) := by
  intro pins s σ H D I h
  refine wpAny_For (thn (hi pins s σ H _ I h) fun v s1 h1 => thn h1 fun itv s2 h2 => ?_) hs
  obtain ⟨it, fp, tn, J, H2, e, I2, T, st2, f2, W, ⟨m0, w0⟩, turn⟩ := h2
  subst e
  -- what stays true of the iterator's objects through the loop
  have stat : ∀ {H' : Hp}, (∀ b ∈ fp, H' b = none) → ∀ b ∈ fp, FpOk X pins H' b := fun hn b hb => ⟨hn b hb, (f2 b hb).2⟩
  refine codeAny_forLoop_any (fun n s' => ∃ i σ' H', Inv X pins σ' H' s' ∧ tn i s'.heap ∧ (∀ b ∈ fp, H' b = none) ∧ W i n σ' H') ?_ m0 ⟨0, σ, H2, I2, st2, fun b hb => (f2 b hb).1, w0⟩
  rintro n s3 ⟨i, σ3, H3, I3, st3, fr3, w3⟩
  rcases turn i n σ3 H3 w3 with ⟨stop, qn⟩ | ⟨go, N, hN, step⟩
  · refine wpAny_passesOwn hp (thn (T.done X rfl rfl rfl hc i pins s3 σ3 H3 X.xe I3 (stat fr3) st3 stop) fun r s4 ⟨hr, I4⟩ => ?_)
    subst hr
    exact wpAny_execs_nil ⟨σ3, H3, I4, qn⟩
  · refine wpAny_passesOwn hp (thn (T.item X rfl rfl rfl hc i pins s3 σ3 H3 X.xe I3 (stat fr3) st3 go) fun r s4 ⟨u, hr, h4⟩ => ?_)
    subst hr
    refine wpAny_passesOwn hp (thn h4 fun _ s5 hh9 => ?_)
    obtain ⟨x, H5, I5, r5, y5, st5, fr5⟩ := hh9
    have I5' := I5.pinned (stat fr5) (T.obj _ _ st5)
    refine wpAny_passesOwn hp (thn (hg _ s5 σ3 H5 x u _ I5' r5 (step x H5 y5)) fun _ s6 hh9 => ?_)
    obtain ⟨σ6, H6, I6, q6⟩ := hh9
    refine wpAny_passesOwn hp (thn (hb _ s6 σ6 H6 _ I6 q6) fun f s7 q7 => ?_)
    have again : ∀ {σ7 : St} {H7 : Hp}, Inv X (pins ++ pinsAt fp s5.heap) σ7 H7 s7 → N σ7 H7 → ∃ m, m < n ∧ ∃ i σ' H', Inv X pins σ' H' s7 ∧ tn i s7.heap ∧ (∀ b ∈ fp, H' b = none) ∧ W i m σ' H' := fun {σ7 H7} I7 n7 => by
      obtain ⟨m', hm, w7⟩ := hN σ7 H7 n7
      refine ⟨m', hm, i + 1, σ7, H7, I7.unpinned, T.keep _ _ _ st5 fun b hb o e => (I7.pin (b, o) (List.mem_append_right _ (List.mem_append_right _ (mem_pinsAt hb e)))).1, fun b hb => ?_, w7⟩
      obtain ⟨o, e, d⟩ := T.obj _ _ st5 b hb
      exact (I7.pin (b, o) (List.mem_append_right _ (List.mem_append_right _ (mem_pinsAt hb e)))).2.1
    cases f with
    | next => obtain ⟨σ7, H7, I7, n7⟩ := q7; exact again I7 n7
    | cont => obtain ⟨σ7, H7, I7, n7⟩ := q7; exact again I7 n7
    | brk => obtain ⟨σ7, H7, I7, q7⟩ := q7; exact ⟨σ7, H7, I7.unpinned, q7⟩
    | ret v => obtain ⟨x7, σ7, H7, I7, r7, q7⟩ := q7; exact ⟨x7, σ7, H7, I7.unpinned, r7, q7⟩
end



theorem for_list {K : PySem.W.Frag} {a : Addr} {xs : List V} {g : TG} {tb : TS} {D : Ends} {σ : St} {H : Hp} (Pv : Nat → St → Hp → Prop) (h0 : Pv 0 σ H) (hl : ∀ i σ H, i ≤ xs.length → Pv i σ H → SqL K H a xs)
    (hs : ∀ i x σ H, xs[i]? = some x → Pv i σ H → g x σ H fun σ2 H2 => tb { D with nx := Pv (i + 1), ct := Pv (i + 1), bk := D.nx } σ2 H2) (hd : ∀ σ H, Pv xs.length σ H → D.nx σ H) :
    ∃ W : Nat → Nat → St → Hp → Prop, (∃ m, W 0 m σ H) ∧ ∀ i m σ H, W i m σ H →
      ((Itl K a).stop i H ∧ D.nx σ H) ∨ ((Itl K a).go i H ∧ ∃ N : St → Hp → Prop, (∀ σ' H', N σ' H' → ∃ m', m' < m ∧ W (i + 1) m' σ' H') ∧ ∀ x H', (Itl K a).yld i H x H' → g x σ H' fun σ2 H2 => tb { D with nx := N, ct := N, bk := D.nx } σ2 H2) := by
  refine ⟨fun i m σ H => m = xs.length - i ∧ i ≤ xs.length ∧ Pv i σ H, ⟨xs.length, by simp, Nat.zero_le _, h0⟩, ?_⟩
  rintro i m σ H ⟨rfl, hi, p⟩
  have q := hl i σ H hi p
  by_cases hlt : i < xs.length
  · refine .inr ⟨⟨xs, xs[i], q, by simp [hlt]⟩, Pv (i + 1), fun σ' H' p' => ⟨xs.length - (i + 1), by omega, rfl, hlt, p'⟩, fun x H' y => ?_⟩
    obtain ⟨e, y⟩ := y
    subst e
    exact hs i x σ _ (y xs q) p
  · have e : i = xs.length := by omega
    subst e
    exact .inl ⟨⟨xs, q, Nat.le_refl _⟩, hd σ H p⟩
theorem for_range {lo : Int} {n : Nat} {g : TG} {tb : TS} {D : Ends} {σ : St} {H : Hp} (Pv : Nat → St → Hp → Prop) (h0 : Pv 0 σ H)
    (hs : ∀ i σ H, i < n → Pv i σ H → g (.int (lo + i)) σ H fun σ2 H2 => tb { D with nx := Pv (i + 1), ct := Pv (i + 1), bk := D.nx } σ2 H2) (hd : ∀ σ H, Pv n σ H → D.nx σ H) :
    ∃ W : Nat → Nat → St → Hp → Prop, (∃ m, W 0 m σ H) ∧ ∀ i m σ H, W i m σ H →
      ((Itr lo n).stop i H ∧ D.nx σ H) ∨ ((Itr lo n).go i H ∧ ∃ N : St → Hp → Prop, (∀ σ' H', N σ' H' → ∃ m', m' < m ∧ W (i + 1) m' σ' H') ∧ ∀ x H', (Itr lo n).yld i H x H' → g x σ H' fun σ2 H2 => tb { D with nx := N, ct := N, bk := D.nx } σ2 H2) := by
  refine ⟨fun i m σ H => m = n - i ∧ i ≤ n ∧ Pv i σ H, ⟨n, by simp, Nat.zero_le _, h0⟩, ?_⟩
  rintro i m σ H ⟨rfl, hi, p⟩
  by_cases hlt : i < n
  · refine .inr ⟨hlt, Pv (i + 1), fun σ' H' p' => ⟨n - (i + 1), by omega, rfl, hlt, p'⟩, fun x H' y => ?_⟩
    obtain ⟨e, y⟩ := y
    subst e y
    exact hs i σ _ hlt p
  · have e : i = n := by omega
    subst e
    exact .inl ⟨Nat.le_refl _, hd σ H p⟩

end L2

namespace L2
open PySem PySem.Spec PyProof.Rows

noncomputable abbrev R2 := V → V → Hp → VK → Prop

noncomputable def OpR (X : Cx) (f : Value → Value → Sem Value) (r : R2) : Prop :=
  ∀ (pins : List (Addr × Obj)) (s : Shared) (σ : St) (H : Hp) (x y : V) (v u : Value) (Q : VK), Inv X pins σ H s → RelV x v → RelV y u → r x y H Q →
    wpAny (model X.prog X.w) X.A (f v u) (EP X pins σ Q) X.xe s

noncomputable def UnR (X : Cx) (f : Value → Sem Value) (r : V → Hp → VK → Prop) : Prop :=
  ∀ (pins : List (Addr × Obj)) (s : Shared) (σ : St) (H : Hp) (x : V) (v : Value) (Q : VK), Inv X pins σ H s → RelV x v → r x H Q →
    wpAny (model X.prog X.w) X.A (f v) (EP X pins σ Q) X.xe s

noncomputable def CallR (X : Cx) (f : Value) (r : List V → Hp → VK → Prop) : Prop :=
  ∀ (pins : List (Addr × Obj)) (s : Shared) (σ : St) (H : Hp) (xs : List V) (us : List Value) (Q : VK), Inv X pins σ H s → Vals xs us → r xs H Q →
    wpAny (model X.prog X.w) X.A (call f us) (EP X pins σ Q) X.xe s

noncomputable def tOp (r : R2) (ta tb : TE) : TE := fun σ H Q => ta σ H fun x H1 => tb σ H1 fun y H2 => r x y H2 Q
noncomputable def tUn (r : V → Hp → VK → Prop) (ta : TE) : TE := fun σ H Q => ta σ H fun x H1 => r x H1 Q

noncomputable def rI (C : Int → Int → Prop) (g : Int → Int → V) : R2 := fun x y H Q => ∃ i j, x = .int i ∧ y = .int j ∧ C i j ∧ Q (g i j) H
noncomputable def rI0 (g : Int → Int → V) : R2 := fun x y H Q => ∃ i j, x = .int i ∧ y = .int j ∧ Q (g i j) H
noncomputable def rU (g : Int → V) : V → Hp → VK → Prop := fun x H Q => ∃ i, x = .int i ∧ Q (g i) H

section
variable {X : Cx} {a b c : Expr} {ta tb tc : TE} {pos : Pos}

theorem binT (ha : PE X a ta) (hb : PE X b tb) {pins : List (Addr × Obj)} {s : Shared} {σ : St} {H : Hp} {R : V → V → Hp → Prop} (I : Inv X pins σ H s)
    (h : ta σ H fun x H1 => tb σ H1 fun y H2 => R x y H2) {Q : Value → Shared → Prop} {f : Value → Value → Sem Value}
    (hf : ∀ v u s2 x y H2, Inv X pins σ H2 s2 → RelV x v → RelV y u → R x y H2 → wpAny (model X.prog X.w) X.A (f v u) Q X.xe s2) :
    wpAny (model X.prog X.w) X.A (eval a X.env) (fun v s₁ => wpAny (model X.prog X.w) X.A (eval b X.env) (fun u s₂ => wpAny (model X.prog X.w) X.A (f v u) Q X.xe s₂) X.xe s₁) X.xe s := by
  refine thn (ha pins s σ H _ I h) fun v s1 hh9 => ?_
  obtain ⟨x, H1, I1, r1, q1⟩ := hh9
  refine thn (hb pins s1 σ H1 _ I1 q1) fun u s2 hh9 => ?_
  obtain ⟨y, H2, I2, r2, q2⟩ := hh9
  exact hf v u s2 x y H2 I2 r1 r2 q2

theorem pe_op {op : Operator} {r : R2} (ho : OpR X (binaryOp op) r) (ha : PE X a ta) (hb : PE X b tb) : PE X (.BinOp a op b pos) (tOp r ta tb) := by
  intro pins s σ H Q I h
  exact wpAny_BinOp (binT ha hb I h fun v u s2 x y H2 I2 rx ry q => ho pins s2 σ H2 x y v u Q I2 rx ry q)
theorem pe_un {op : UnaryOp} {r : V → Hp → VK → Prop} (ho : UnR X (unaryOp op) r) (ha : PE X a ta) : PE X (.UnaryOp op a pos) (tUn r ta) := by
  intro pins s σ H Q I h
  exact UnaryOp_ (thn (ha pins s σ H _ I h) fun v s1 hh9 => by obtain ⟨x, H1, I1, r1, q1⟩ := hh9; exact ho pins s1 σ H1 x v Q I1 r1 q1)

theorem opI {f : Value → Value → Sem Value} {C : Int → Int → Prop} {g : Int → Int → Int}
    (rule : ∀ (i j : Int) (t u : Tok) (s : Shared) (Q : Value → Shared → Prop) (E : Value → Shared → Prop), C i j → Q (.int (g i j) s.toks) { s with toks := s.toks + 1 } → wpAny (model X.prog X.w) X.A (f (.int i t) (.int j u)) Q E s) :
    OpR X f (rI C fun i j => .int (g i j)) := by
  intro pins s σ H x y v u Q I rx ry h
  obtain ⟨i, j, rfl, rfl, hc, q⟩ := h
  obtain ⟨t, rfl⟩ := rx
  obtain ⟨t', rfl⟩ := ry
  exact rule i j t t' s _ _ hc ⟨.int (g i j), H, I.tok _, ⟨_, rfl⟩, q⟩
theorem opI0 {f : Value → Value → Sem Value} {g : Int → Int → Int}
    (rule : ∀ (i j : Int) (t u : Tok) (s : Shared) (Q : Value → Shared → Prop) (E : Value → Shared → Prop), Q (.int (g i j) s.toks) { s with toks := s.toks + 1 } → wpAny (model X.prog X.w) X.A (f (.int i t) (.int j u)) Q E s) :
    OpR X f (rI0 fun i j => .int (g i j)) := by
  intro pins s σ H x y v u Q I rx ry h
  obtain ⟨i, j, rfl, rfl, q⟩ := h
  obtain ⟨t, rfl⟩ := rx
  obtain ⟨t', rfl⟩ := ry
  exact rule i j t t' s _ _ ⟨.int (g i j), H, I.tok _, ⟨_, rfl⟩, q⟩
theorem opB0 {f : Value → Value → Sem Value} {g : Int → Int → Bool}
    (rule : ∀ (i j : Int) (t u : Tok) (s : Shared) (Q : Value → Shared → Prop) (E : Value → Shared → Prop), Q (.bool (g i j)) s → wpAny (model X.prog X.w) X.A (f (.int i t) (.int j u)) Q E s) :
    OpR X f (rI0 fun i j => .bl (g i j)) := by
  intro pins s σ H x y v u Q I rx ry h
  obtain ⟨i, j, rfl, rfl, q⟩ := h
  obtain ⟨t, rfl⟩ := rx
  obtain ⟨t', rfl⟩ := ry
  exact rule i j t t' s _ _ ⟨.bl (g i j), H, I, rfl, q⟩

noncomputable def CDiv (i j : Int) : Prop := 0 < j ∧ j < 1073741824
noncomputable def CPow (i j : Int) : Prop := 0 ≤ j ∧ j ≤ 1000000 ∧ i.natAbs < 2 ^ 64
noncomputable def CMul (i j : Int) : Prop := (-(2 ^ 64) < i ∧ i < 2 ^ 64) ∨ (-(2 ^ 64) < j ∧ j < 2 ^ 64)
theorem CMul.ok {i j : Int} (h : CMul i j) : IntMulOk i j := by
  rcases h with ⟨h1, h2⟩ | ⟨h1, h2⟩
  · exact .of_left (intBits_le_64 h1 h2)
  · exact .of_right (intBits_le_64 h1 h2)
theorem op_add : OpR X (binaryOp .Add) (rI0 fun i j => .int (i + j)) := opI0 fun _ _ _ _ _ _ _ q => add_int q
theorem op_sub : OpR X (binaryOp .Sub) (rI0 fun i j => .int (i - j)) := opI0 fun _ _ _ _ _ _ _ q => sub_int q
theorem op_mul : OpR X (binaryOp .Mult) (rI CMul fun i j => .int (i * j)) := opI fun _ _ _ _ _ _ _ hc q => mul_int q hc.ok

theorem op_fdiv : OpR X (binaryOp .FloorDiv) (rI CDiv fun i j => .int (i / j)) := opI fun i j _ _ _ _ _ hc q => by
  have h1 : (0 : Int) < j := hc.1
  have h2 : j < 1073741824 := hc.2
  exact floordiv_int (by omega) (by rw [Int.fdiv_eq_ediv_of_nonneg i (by omega)]; exact q) (.inl (PyProof.noPylong_small (by omega)))
theorem op_mod : OpR X (binaryOp .Mod) (rI (fun _ j => 0 < j) fun i j => .int (i % j)) := opI fun i j _ _ _ _ _ hc q => by
  have h1 : (0 : Int) < j := hc
  exact mod_int' (by omega) (by rw [Int.fmod_eq_emod_of_nonneg i (by omega)]; exact q)
theorem unI {f : Value → Sem Value} {g : Int → Int}
    (rule : ∀ (i : Int) (t : Tok) (s : Shared) (Q : Value → Shared → Prop) (E : Value → Shared → Prop), Q (.int (g i) s.toks) { s with toks := s.toks + 1 } → wpAny (model X.prog X.w) X.A (f (.int i t)) Q E s) :
    UnR X f (rU fun i => .int (g i)) := by
  intro pins s σ H x v Q I rx h
  obtain ⟨i, rfl, q⟩ := h
  obtain ⟨t, rfl⟩ := rx
  exact rule i t s _ _ ⟨.int (g i), H, I.tok _, ⟨_, rfl⟩, q⟩
theorem un_neg : UnR X (unaryOp .USub) (rU fun i => .int (-i)) := unI fun _ _ _ _ _ q => neg_int q
end



noncomputable def scal : V → V → Bool
  | .non, .non => true | .non, .int _ => true | .int _, .non => true | .non, .bl _ => true | .bl _, .non => true | .non, .str _ => true | .str _, .non => true
  | .int _, .int _ => true | .bl _, .bl _ => true | .str _, .str _ => true | .byt _, .byt _ => true
  | .int _, .str _ => true | .str _, .int _ => true | .bl _, .str _ => true | .str _, .bl _ => true
  | _, _ => false
noncomputable def rEq : R2 := fun x y H Q => scal x y = true ∧ Q (.bl (decide (x = y))) H
noncomputable def rNe : R2 := fun x y H Q => scal x y = true ∧ Q (.bl (!decide (x = y))) H

theorem dec_int {i j : Int} : decide (V.int i = V.int j) = (i == j) := by
  rw [Bool.eq_iff_iff]
  simp
theorem dec_bl {i j : Bool} : decide (V.bl i = V.bl j) = (i == j) := by
  rw [Bool.eq_iff_iff]
  simp
theorem dec_str {i j : Str} : decide (V.str i = V.str j) = (i == j) := by
  rw [Bool.eq_iff_iff]
  simp
theorem dec_byt {i j : Array UInt8} : decide (V.byt i = V.byt j) = (i.toList == j.toList) := by
  rw [Bool.eq_iff_iff]
  cases i
  cases j
  simp

section
variable {X : Cx} {a b c : Expr} {ta tb tc : TE} {pos : Pos}
theorem fin_bl {pins : List (Addr × Obj)} {σ : St} {H : Hp} {s : Shared} {Q : VK} {k k' : Bool} (I : Inv X pins σ H s) (q : Q (.bl k) H) (e : k = k') : EP X pins σ Q (.bool k') s := by
  subst e
  exact ⟨.bl k, H, I, rfl, q⟩
theorem op_eq : OpR X (compareOp .Eq) rEq := by
  intro pins s σ H x y v u Q I rx ry h
  obtain ⟨hs, q⟩ := h
  cases x with
  | non =>
    cases rx
    cases y with
    | non => cases ry; exact PySem.EqNone.eq_none_none (fin_bl I q (by simp))
    | bl j => cases ry; exact PySem.EqNone.eq_none_bool (fin_bl I q (by simp))
    | int j => obtain ⟨t', rfl⟩ := ry; exact PySem.EqNone.eq_none_int (fin_bl I q (by simp))
    | str j => obtain ⟨t', rfl⟩ := ry; exact PySem.EqNone.eq_none_str (fin_bl I q (by simp))
    | _ => exact absurd (show false = true from hs) Bool.false_ne_true
  | bl i =>
    cases rx
    cases y with
    | non => cases ry; exact PySem.EqNone.eq_bool_none (fin_bl I q (by simp))
    | bl j => cases ry; exact eq_bool (fin_bl I q dec_bl)
    | str j => obtain ⟨t', rfl⟩ := ry; exact PySem.EqMixed.eq_bool_str (fin_bl I q (by simp))
    | _ => exact absurd (show false = true from hs) Bool.false_ne_true
  | int i =>
    obtain ⟨t, rfl⟩ := rx
    cases y with
    | non => cases ry; exact PySem.EqNone.eq_int_none (fin_bl I q (by simp))
    | int j => obtain ⟨t', rfl⟩ := ry; exact eq_int (fin_bl I q dec_int)
    | str j => obtain ⟨t', rfl⟩ := ry; exact PySem.EqMixed.eq_int_str (fin_bl I q (by simp))
    | _ => exact absurd (show false = true from hs) Bool.false_ne_true
  | str i =>
    obtain ⟨t, rfl⟩ := rx
    cases y with
    | non => cases ry; exact PySem.EqNone.eq_str_none (fin_bl I q (by simp))
    | bl j => cases ry; exact PySem.EqMixed.eq_str_bool (fin_bl I q (by simp))
    | int j => obtain ⟨t', rfl⟩ := ry; exact PySem.EqMixed.eq_str_int (fin_bl I q (by simp))
    | str j => obtain ⟨t', rfl⟩ := ry; exact eq_str (fin_bl I q dec_str)
    | _ => exact absurd (show false = true from hs) Bool.false_ne_true
  | byt i =>
    obtain ⟨t, rfl⟩ := rx
    cases y with
    | byt j => obtain ⟨t', rfl⟩ := ry; exact PySem.W.eq_bytes (fin_bl I q dec_byt)
    | _ => exact absurd (show false = true from hs) Bool.false_ne_true
  | _ => cases y <;> exact absurd (show false = true from hs) Bool.false_ne_true
theorem op_ne : OpR X (compareOp .NotEq) rNe := by
  intro pins s σ H x y v u Q I rx ry h
  obtain ⟨hs, q⟩ := h
  cases x with
  | non =>
    cases rx
    cases y with
    | non => cases ry; exact PySem.EqNone.ne_none_none (fin_bl I q (by simp))
    | bl j => cases ry; exact PySem.EqNone.ne_none_bool (fin_bl I q (by simp))
    | int j => obtain ⟨t', rfl⟩ := ry; exact PySem.EqNone.ne_none_int (fin_bl I q (by simp))
    | str j => obtain ⟨t', rfl⟩ := ry; exact PySem.EqNone.ne_none_str (fin_bl I q (by simp))
    | _ => exact absurd (show false = true from hs) Bool.false_ne_true
  | bl i =>
    cases rx
    cases y with
    | non => cases ry; exact PySem.EqNone.ne_bool_none (fin_bl I q (by simp))
    | bl j => cases ry; exact ne_bool (fin_bl I q (congrArg not dec_bl))
    | str j => obtain ⟨t', rfl⟩ := ry; exact PySem.EqMixed.ne_bool_str (fin_bl I q (by simp))
    | _ => exact absurd (show false = true from hs) Bool.false_ne_true
  | int i =>
    obtain ⟨t, rfl⟩ := rx
    cases y with
    | non => cases ry; exact PySem.EqNone.ne_int_none (fin_bl I q (by simp))
    | int j => obtain ⟨t', rfl⟩ := ry; exact ne_int (fin_bl I q (congrArg not dec_int))
    | str j => obtain ⟨t', rfl⟩ := ry; exact PySem.EqMixed.ne_int_str (fin_bl I q (by simp))
    | _ => exact absurd (show false = true from hs) Bool.false_ne_true
  | str i =>
    obtain ⟨t, rfl⟩ := rx
    cases y with
    | non => cases ry; exact PySem.EqNone.ne_str_none (fin_bl I q (by simp))
    | bl j => cases ry; exact PySem.EqMixed.ne_str_bool (fin_bl I q (by simp))
    | int j => obtain ⟨t', rfl⟩ := ry; exact PySem.EqMixed.ne_str_int (fin_bl I q (by simp))
    | str j => obtain ⟨t', rfl⟩ := ry; exact ne_str (fin_bl I q (congrArg not dec_str))
    | _ => exact absurd (show false = true from hs) Bool.false_ne_true
  | byt i =>
    obtain ⟨t, rfl⟩ := rx
    cases y with
    | byt j => obtain ⟨t', rfl⟩ := ry; exact PySem.W.ne_bytes (fin_bl I q (congrArg not dec_byt))
    | _ => exact absurd (show false = true from hs) Bool.false_ne_true
  | _ => cases y <;> exact absurd (show false = true from hs) Bool.false_ne_true

theorem op_lt : OpR X (compareOp .Lt) (rI0 fun i j => .bl (decide (i < j))) := opB0 fun _ _ _ _ _ _ _ q => lt_int q
theorem op_le : OpR X (compareOp .LtE) (rI0 fun i j => .bl (decide (i ≤ j))) := opB0 fun _ _ _ _ _ _ _ q => le_int q
theorem op_gt : OpR X (compareOp .Gt) (rI0 fun i j => .bl (decide (j < i))) := opB0 fun _ _ _ _ _ _ _ q => gt_int q
theorem op_in_str : OpR X (compareOp .In) (fun x y H Q => ∃ i j, x = .str i ∧ y = .str j ∧ Q (.bl (!(Builtin.Str.occurrences j i 0 j.length 1).isEmpty)) H) := by
  intro pins s σ H x y v u Q I rx ry h
  obtain ⟨i, j, rfl, rfl, q⟩ := h
  obtain ⟨t, rfl⟩ := rx
  obtain ⟨t', rfl⟩ := ry
  exact in_str (fin_bl I q rfl)


theorem op_notin_str : OpR X (compareOp .NotIn) (fun x y H Q => ∃ i j, x = .str i ∧ y = .str j ∧ Q (.bl (!(!(Builtin.Str.occurrences j i 0 j.length 1).isEmpty))) H) := by
  intro pins s σ H x y v u Q I rx ry h
  obtain ⟨i, j, rfl, rfl, q⟩ := h
  obtain ⟨t, rfl⟩ := rx
  obtain ⟨t', rfl⟩ := ry
  exact notIn_str (fin_bl I q rfl)

theorem nomark (b : Expr) {op : CmpOp} (h : op ≠ .In := by decide) (h2 : op ≠ .NotIn := by decide) : behindInMarks op b = false := by
  have e1 : (op == CmpOp.In) = false := by cases op <;> first | rfl | exact absurd rfl h
  have e2 : (op == CmpOp.NotIn) = false := by cases op <;> first | rfl | exact absurd rfl h2
  cases b <;> simp [behindInMarks, e1, e2]

theorem pe_cmpR {op : CmpOp} {r : R2} (ho : OpR X (compareOp op) r) (ha : PE X a ta) (hb : PE X b tb) (hm : behindInMarks op b = false) : PE X (.Compare a [op] [b] pos) (tOp r ta tb) := by
  intro pins s σ H Q I h
  exact wpAny_Compare1 (binT ha hb I h fun v u s2 x y H2 I2 rx ry q => ho pins s2 σ H2 x y v u Q I2 rx ry q) hm

noncomputable def tTest (t : TE) : TT := fun σ H Q => t σ H fun x H' => ∃ k, x = .bl k ∧ Q k H'
theorem pt_cmpR {op : CmpOp} {r : R2} (ho : OpR X (compareOp op) r) (ha : PE X a ta) (hb : PE X b tb) (hm : behindInMarks op b = false) : PT X (.Compare a [op] [b] pos) (tTest (tOp r ta tb)) := by
  intro pins s σ H Q I h
  refine wpAny_isTrue_Compare1 (thn (ha pins s σ H _ I h) fun v s1 ⟨x, H1, I1, r1, q1⟩ => thn (hb pins s1 σ H1 _ I1 q1) fun u s2 ⟨y, H2, I2, r2, q2⟩ =>
    thn (ho pins s2 σ H2 x y v u _ I2 r1 r2 q2) fun c s3 ⟨z, H3, I3, r3, k, e, q3⟩ => ?_) hm
  subst e
  cases r3
  exact wpAny_truthy_bool ⟨H3, I3, q3⟩

noncomputable def tChain (r r' : R2) (ta tb tc : TE) : TE := fun σ H Q => ta σ H fun x H1 => tb σ H1 fun y H2 => r x y H2 fun z H3 => ∃ k, z = .bl k ∧
  (if k = true then tc σ H3 fun w' H4 => r' y w' H4 Q else Q (.bl false) H3)
theorem pt_chain {op op' : CmpOp} {r r' : R2} (ho : OpR X (compareOp op) r) (ho' : OpR X (compareOp op') r') (ha : PE X a ta) (hb : PE X b tb) (hc : PE X c tc)
    (hm : lastMarks [op, op'] [b, c] = false := by with_unfolding_all rfl) : PT X (.Compare a [op, op'] [b, c] pos) (tTest (tChain r r' ta tb tc)) := by
  intro pins s σ H Q I h
  refine isTrue_chain (thn (ha pins s σ H _ I h) fun v s1 ⟨x, H1, I1, r1, q1⟩ => test_link (thn (hb pins s1 σ H1 _ I1 q1) fun u s2 ⟨y, H2, I2, r2, q2⟩ =>
    thn (ho pins s2 σ H2 x y v u _ I2 r1 r2 q2) fun d s3 ⟨z, H3, I3, r3, k, e, q3⟩ => ?_)) hm
  subst e
  cases r3
  refine wpAny_truthy_bool ?_
  cases k with
  | false =>
    obtain ⟨k', e', q'⟩ := q3
    cases e'
    exact ite_ff ⟨H3, I3, q'⟩
  | true =>
    refine ite_tt (test_last (thn (hc pins s3 σ H3 _ I3 q3) fun w' s4 ⟨z', H4, I4, r4, q4⟩ => thn (ho' pins s4 σ H4 y z' u w' _ I4 r2 r4 q4) fun d' s5 hh9 => ?_))
    obtain ⟨z2, H5, I5, r5, k2, e2, q5⟩ := hh9
    subst e2
    cases r5
    exact wpAny_truthy_bool ⟨H5, I5, q5⟩



theorem line63 : (sizeLine : Nat) < 2 ^ 63 := by rw [sizeLine_eq]; decide
theorem op_add_str : OpR X (binaryOp .Add) (fun x y H Q => ∃ i j, x = .str i ∧ y = .str j ∧ i.length + j.length ≤ sizeLine ∧ Q (.str (i ++ j)) H) := by
  intro pins s σ H x y v u Q I rx ry h
  obtain ⟨i, j, rfl, rfl, hz, q⟩ := h
  obtain ⟨t, rfl⟩ := rx
  obtain ⟨t', rfl⟩ := ry
  exact add_str (fun t' tk => ⟨.str (i ++ j), H, I.tok _, ⟨_, rfl⟩, q⟩) hz
theorem vals1 {x : V} {us : List Value} (r : Vals [x] us) : ∃ u, us = [u] ∧ RelV x u := by
  cases r with
  | cons r1 r2 => cases r2; exact ⟨_, rfl, r1⟩
theorem vals2 {x y : V} {us : List Value} (r : Vals [x, y] us) : ∃ u w', us = [u, w'] ∧ RelV x u ∧ RelV y w' := by
  cases r with
  | cons r1 r2 =>
    cases r2 with
    | cons r3 r4 => cases r4; exact ⟨_, _, rfl, r1, r3⟩
theorem call_str_int : CallR X (.type "str") (fun xs H Q => ∃ i, xs = [.int i] ∧ i.natAbs.log2 < 1920 ∧ Q (.str (toString i)) H) := by
  intro pins s σ H xs us Q I r h
  obtain ⟨i, rfl, hz, q⟩ := h
  obtain ⟨u, rfl, t, rfl⟩ := vals1 r
  exact PySem.P.str_of_int hz ⟨.str _, H, I.tok _, ⟨_, rfl⟩, q⟩
end
end L2

namespace L2
open PySem PySem.Spec PyProof.Rows


structure ObjM (h : Heap) (x dx C : Addr) (mA : Str → Option Value) : Prop where
  obj : h.get? x = some (PySem.W.instObj C dx)
  ns : h.Ns1 dx mA
  ne : dx ≠ x

theorem lookIn_ns {h : Heap} {dx : Addr} {mA : Str → Option Value} (n : h.Ns1 dx mA) : ∃ od, h.get? dx = some od ∧ ∀ name, PySem.W.lookIn name od = some (mA name) := by
  obtain ⟨o, es, ep, ho, hd, hk, _, hm⟩ := n
  refine ⟨o, ho, fun name => ?_⟩
  have e := hm name
  unfold nsFind findBy at e
  rw [← Array.find?_toList] at e
  unfold PySem.W.lookIn
  rw [hd]
  dsimp only
  split
  · rename_i y q
    rw [q] at e
    exact congrArg some e
  · rename_i q
    rw [q] at e
    have a : es.toList.any (·.refKey) = false := by
      rw [List.any_eq_false]
      intro y hy
      obtain ⟨z, t, hkey⟩ := hk y (Array.mem_toList_iff.mp hy)
      simp [DictEntry.refKey, hkey]
    have a' : ¬ es.toList.any (·.refKey) = true := by rw [a]; exact Bool.false_ne_true
    rw [if_neg a']
    exact congrArg some e

theorem ObjM.look {h : Heap} {x dx C : Addr} {mA : Str → Option Value} (I : ObjM h x dx C mA) : ∃ od, PySem.W.InstAt h x (PySem.W.instObj C dx) C (some od) ∧ ∀ name, PySem.W.lookIn name od = some (mA name) :=
  let ⟨od, ho, hl⟩ := lookIn_ns I.ns
  ⟨od, ⟨I.obj, rfl, rfl, ho⟩, hl⟩

section
variable {prog : Program} {w : World} {A : Around} {E : Value → Shared → Prop} {s : Shared} {K : PySem.W.Frag} {x dx C f : Addr} {mA : Str → Option Value} {name : Str} {v : Value}

theorem get_map {expr : Bool} {Q : Value → Shared → Prop} (X : K.In s.heap) (I : ObjM s.heap x dx C mA) (hg : PySem.W.plainGet K C name = true) (hh : PySem.W.hasDictIn K C = true)
    (ha : PySem.W.findIn K (.ref C) name = some none) (hv : mA name = some v) (hv' : PySem.W.handedIn v = true) (h : Q v { s with toks := s.toks + 1 }) :
    wpAny (model prog w) A (getAttr (.ref x) name expr) Q E s := by
  obtain ⟨od, J, hl⟩ := I.look
  exact PySem.W.get_value X J (PySem.W.plainGet_of hg).1 (PySem.W.findObj_own hh ha rfl (by rw [hl, hv])) hv' h

theorem get_meth {pl : Sem Bool} {Q : Value × List Value → Shared → Prop} (X : K.In s.heap) (I : ObjM s.heap x dx C mA) (hg : PySem.W.plainGet K C name = true)
    (hf : PySem.W.findIn K (.ref C) name = some (some (.ref f))) (ht : PySem.W.isFn K (.ref f) = true) (hv : mA name = none) (h : Q (.ref f, [.ref x]) s) :
    wpAny (model prog w) A (getMethod (.ref x) name pl) Q E s := by
  obtain ⟨od, J, hl⟩ := I.look
  exact PySem.W.method_fn X J (PySem.W.plainGet_of hg).1 (PySem.W.plainGet_of hg).2 hf (beq_iff_eq.mp ht) (by show (PySem.W.lookIn name od).map (·.isSome) = some false; rw [hl, hv]; rfl) h

theorem set_map {ns : List Str} {Q : Unit → Shared → Prop} (X : K.In s.heap) (I : ObjM s.heap x dx C mA)
    (hs : PySem.W.findIn K (.ref C) "__setattr__" = some (some (.builtin "object.__setattr__"))) (hp : PySem.W.plainOver K C = true) (ht : PySem.W.takerIn K C name = some none) (hh : PySem.W.hasDictIn K C = true)
    (hw : PySem.Within mA ns) (hsz : ns.length ≤ sizeLine)
    (h : ∀ h', ObjM h' x dx C (fun y => if y = name then some v else mA y) → Heap.SameBut dx s.heap h' → Q () { s with heap := h', toks := s.toks + 2 }) :
    wpAny (model prog w) A (setAttr (.ref x) name v) Q E s := by
  obtain ⟨od, J, hl⟩ := I.look
  refine PySem.W.set_plain X J hs (PySem.W.osa_open (s := { s with toks := s.toks + 1 }) (r := none) X J hp ht fun b => ?_)
  obtain ⟨cd, hc, hd'⟩ := PySem.W.any_some hh
  have hx : s.heap.get? x = some ⟨.ref C, some dx, .plain, #[]⟩ := I.obj
  refine wpAny_bind (wpAny_pure (wpAny_bind (wpAny_bind (wpAny_loadPart hx (wpAny_bind (PySem.W.Looks.here (s := { s with toks := s.toks + 1 }) (PySem.W.looks_clsIn X hc) ?_))))))
  rw [hd']
  refine wpAny_pure (a := some dx) (wpAny_bind (wpAny_pure (wpAny_bind ?_)))
  refine wpAny_nsSet1 (s := { s with toks := s.toks + 1 }) I.ns fun h' hn2 hs2 => ?_
  obtain ⟨oD, esD, epD, hoD, hdD, hcD⟩ := hn2.count (PySem.Within.cons name v hw)
  refine wpAny_bind (wpAny_lookBehind hoD (by rw [hdD]; exact pastItsLine_dict (Nat.le_trans hcD (by rw [List.length_cons]; omega))) ?_)
  exact wpAny_pure (h _ ⟨(hs2.2 _ (Ne.symm I.ne)).trans I.obj, hn2, I.ne⟩ hs2)


theorem make_map {R : Result → Shared → Prop} {vs : List Value} {kw : List (Str × Value)} (X : K.In s.heap) (hm : PySem.W.makesIn K C = true)
    (hi : PySem.W.findIn K (.ref C) "__init__" = some (some (.ref f))) (hf : PySem.W.typeIn K (.ref f) = some (.type "function"))
    (h : codeAny (model prog w) (A.under (.builtin "type.__call__" ⟨.ref C :: vs, kw⟩)) (.call (.ref f) ⟨.ref (s.heap.objs.size + 1) :: vs, kw⟩) (PySem.W.InitBack (s.heap.objs.size + 1) R)
      { s with heap := (s.heap.push PySem.W.emptyDict).push (PySem.W.instObj C s.heap.objs.size) }) :
    codeAny (model prog w) A (.call (.ref C) ⟨vs, kw⟩) R s := by
  obtain ⟨hh, g, d, t, os⟩ := s
  exact PySem.W.make_core (PySem.W.makes_of X hm) (PySem.W.looks_findIn X hi) (fun self => PySem.W.bind_fn X self hf) (.inl rfl) h

end


noncomputable def putF (f : Str) (v : V) : List (Str × V) → List (Str × V)
  | [] => [(f, v)]
  | (g, x) :: r => if g = f then (g, v) :: r else (g, x) :: putF f v r
theorem lookup_putF (f g : Str) (v : V) : ∀ fs : List (Str × V), (putF f v fs).lookup g = if g = f then some v else fs.lookup g
  | [] => by
    show List.lookup g [(f, v)] = _
    by_cases h : g = f
    · have hb : (g == f) = true := beq_iff_eq.mpr h
      simp only [List.lookup, hb, if_pos h]
    · have hb : (g == f) = false := beq_eq_false_iff_ne.mpr h
      simp only [List.lookup, hb, if_neg h]
  | (k, x) :: r => by
    have ih := lookup_putF f g v r
    rw [show putF f v ((k, x) :: r) = (if k = f then (k, v) :: r else (k, x) :: putF f v r) from rfl]
    by_cases hk : k = f
    · rw [if_pos hk]
      by_cases h : g = k
      · have hb : (g == k) = true := beq_iff_eq.mpr h
        simp only [List.lookup, hb, if_pos (h.trans hk)]
      · have hb : (g == k) = false := beq_eq_false_iff_ne.mpr h
        simp only [List.lookup, hb, if_neg (fun e : g = f => h (e.trans hk.symm))]
    · rw [if_neg hk]
      by_cases h : g = k
      · have hb : (g == k) = true := beq_iff_eq.mpr h
        simp only [List.lookup, hb, if_neg (fun e : g = f => hk (h.symm.trans e))]
      · have hb : (g == k) = false := beq_eq_false_iff_ne.mpr h
        simp only [List.lookup, hb]
        exact ih
theorem keys_putF (f : Str) (v : V) : ∀ fs : List (Str × V), f ∈ (putF f v fs).map (·.1) ∧ ∀ g, g ∈ fs.map (·.1) → g ∈ (putF f v fs).map (·.1)
  | [] => ⟨by simp [putF], fun g h => by simp at h⟩
  | (k, x) :: r => by
    obtain ⟨i1, i2⟩ := keys_putF f v r
    rw [show putF f v ((k, x) :: r) = (if k = f then (k, v) :: r else (k, x) :: putF f v r) from rfl]
    by_cases hk : k = f
    · rw [if_pos hk]
      subst hk
      exact ⟨by simp, fun g h => by simpa using h⟩
    · rw [if_neg hk]
      refine ⟨?_, fun g h => ?_⟩
      · rw [List.map_cons]
        exact List.mem_cons_of_mem _ i1
      · rw [List.map_cons] at h ⊢
        rcases List.mem_cons.mp h with e | e
        · exact List.mem_cons.mpr (.inl e)
        · exact List.mem_cons_of_mem _ (i2 g e)
theorem length_putF (f : Str) (v : V) : ∀ fs : List (Str × V), (putF f v fs).length ≤ fs.length + 1
  | [] => by simp [putF]
  | (k, x) :: r => by
    have ih := length_putF f v r
    rw [show putF f v ((k, x) :: r) = (if k = f then (k, v) :: r else (k, x) :: putF f v r) from rfl]
    by_cases hk : k = f
    · rw [if_pos hk, List.length_cons, List.length_cons]; omega
    · rw [if_neg hk, List.length_cons, List.length_cons]; omega

theorem RelO.some_of {v : V} {o : Option Value} (r : RelO (some v) o) : ∃ u, o = some u ∧ RelV v u := by
  cases o with
  | none => exact (show False from r).elim
  | some u => exact ⟨u, rfl, r⟩
theorem RelO.none_of {o : Option Value} (r : RelO none o) : o = none := by
  cases o with
  | none => rfl
  | some u => exact (show False from r).elim
theorem handed_of {v : V} {u : Value} (r : RelV v u) : PySem.W.handedIn u = true := by
  cases v with
  | non => cases (show u = Value.none from r); rfl
  | bl b => cases (show u = Value.bool b from r); rfl
  | int i => obtain ⟨t, e⟩ := (show ∃ t, u = Value.int i t from r); cases e; rfl
  | str x => obtain ⟨t, e⟩ := (show ∃ t, u = Value.str x t from r); cases e; rfl
  | byt b => obtain ⟨t, e⟩ := (show ∃ t, u = Value.bytes b t from r); cases e; rfl
  | flt b => obtain ⟨t, e⟩ := (show ∃ t, u = Value.float b t from r); cases e; rfl
  | ref a => cases (show u = Value.ref a from r); rfl
  | ty n => cases (show u = Value.type n from r); rfl

section
variable {P : Program} {w : World} {H H' : Hp} {h h' : Heap} {a C dx : Addr} {fs fs' : List (Str × V)}
theorem ins_get (hok : HOk P w H h) (e : H a = some (.ins C dx fs)) : ∃ mA, ObjM h a dx C mA ∧ (∀ f, RelO (fs.lookup f) (mA f)) ∧ PySem.Within mA (fs.map (·.1)) ∧ fs.length ≤ 1000 ∧ H dx = some (.own a) := by
  obtain ⟨d, z, ne, ob, mA, n, r, q⟩ := (show ObjOk P w H h a (.ins C dx fs) from hok a _ e)
  exact ⟨mA, ⟨ob, n, ne⟩, r, q, z, d⟩
end


structure Cls (K : PySem.W.Frag) (C : Addr) : Prop where
  pg : PySem.W.plainGet K C Str.empty = true
  hd : PySem.W.hasDictIn K C = true
  po : PySem.W.plainOver K C = true
  sa : PySem.W.findIn K (.ref C) "__setattr__" = some (some (.builtin "object.__setattr__"))
theorem Cls.get {K : PySem.W.Frag} {C : Addr} (c : Cls K C) (f : Str) : PySem.W.plainGet K C f = true := c.pg

noncomputable def NoAttr (K : PySem.W.Frag) (C : Addr) (f : Str) : Prop := PySem.W.findIn K (.ref C) f = some none
theorem NoAttr.taker {K : PySem.W.Frag} {C : Addr} {f : Str} (n : NoAttr K C f) : PySem.W.takerIn K C f = some none := by
  unfold PySem.W.takerIn
  rw [show PySem.W.findIn K (.ref C) f = some none from n]
  rfl

structure Con (K : PySem.W.Frag) (C : Addr) (f : Str) (v : V) (u : Value) : Prop where
  at_ : PySem.W.findIn K (.ref C) f = some (some u)
  rel : RelV v u
  get : PySem.W.specialIn K u "__get__" = some none
  cp : PySem.W.copiedNames.contains f = false

structure Meth (K : PySem.W.Frag) (C : Addr) (m : Str) (f : Addr) : Prop where
  at_ : PySem.W.findIn K (.ref C) m = some (some (.ref f))
  fn : PySem.W.isFn K (.ref f) = true
  kp : PySem.W.keepIn K (.ref f) = true

section
variable {X : Cx} {pins : List (Addr × Obj)} {σ : St} {H : Hp} {s : Shared} {a C dx : Addr} {fs : List (Str × V)} {f : Str} {v : V} {A : Around} {E : Value → Shared → Prop}

theorem getattr_ok {b : Bool} {Q : Value → Shared → Prop} (I : Inv X pins σ H s) (e : H a = some (.ins C dx fs)) (c : Cls X.K C) (n : NoAttr X.K C f) (l : fs.lookup f = some v)
    (h : ∀ u s', Inv X pins σ H s' → RelV v u → Q u s') : wpAny (model X.prog X.w) A (getAttr (.ref a) f b) Q E s := by
  obtain ⟨mA, O, r, _, _, _⟩ := ins_get I.hok e
  obtain ⟨u, hu, ru⟩ := RelO.some_of (v := v) (o := mA f) (by rw [← l]; exact r f)
  exact get_map I.kIn O (c.get f) c.hd n hu (handed_of ru) (h u _ (I.tok _) ru)

theorem getmeth_ok {m : Str} {g : Addr} {pl : Sem Bool} {Q : Value × List Value → Shared → Prop} (I : Inv X pins σ H s) (e : H a = some (.ins C dx fs)) (c : Cls X.K C) (k : Meth X.K C m g) (l : fs.lookup m = none)
    (h : Q (.ref g, [.ref a]) s) : wpAny (model X.prog X.w) A (getMethod (.ref a) m pl) Q E s := by
  obtain ⟨mA, O, r, _, _, _⟩ := ins_get I.hok e
  have hn : mA m = none := RelO.none_of (by rw [← l]; exact r m)
  exact get_meth I.kIn O (c.get m) k.at_ k.fn hn h

theorem setattr_ok {y : V} {u : Value} {Q : Unit → Shared → Prop} (I : Inv X pins σ H s) (e : H a = some (.ins C dx fs)) (c : Cls X.K C) (n : NoAttr X.K C f) (hl : fs.length < 1000) (ry : RelV y u)
    (h : ∀ s', Inv X pins σ (upd H a (.ins C dx (putF f y fs))) s' → Q () s') : wpAny (model X.prog X.w) A (setAttr (.ref a) f u) Q E s := by
  obtain ⟨mA, O, r, wi, _, ho⟩ := ins_get I.hok e
  have hz : (fs.map (·.1)).length ≤ sizeLine := by rw [List.length_map, sizeLine_eq]; omega
  refine set_map I.kIn O c.sa c.po n.taker c.hd wi hz fun h' O' sb => h _ ?_
  have hd : ∃ o, h'.get? dx = some o := let ⟨o, _, _, e', _⟩ := O'.ns; ⟨o, e'⟩
  refine I.write (x := a) (e := dx) (by rw [e]; exact True.intro) (.inr ho) (fun b q hb z => (sb.2 b hb).trans z) hd ?_
  refine ⟨by rw [upd_ne O.ne]; exact ho, ?_, O.ne, O'.obj, _, O'.ns, fun g => ?_, fun g hg => ?_⟩
  · have := length_putF f y fs; omega
  · show RelO ((putF f y fs).lookup g) (if g = f then some u else mA g)
    rw [lookup_putF]
    by_cases q : g = f
    · rw [if_pos q, if_pos q]; exact ry
    · rw [if_neg q, if_neg q]; exact r g
  · by_cases q : g = f
    · rw [q]; exact (keys_putF f y fs).1
    · refine (keys_putF f y fs).2 g (wi g fun z => hg ?_)
      show (if g = f then some u else mA g) = none
      rw [if_neg q]; exact z


theorem Inv.made (I : Inv X pins σ H s) : Inv X pins σ (upd (upd H s.heap.objs.size (.own (s.heap.objs.size + 1))) (s.heap.objs.size + 1) (.ins C s.heap.objs.size []))
    { s with heap := (s.heap.push PySem.W.emptyDict).push (PySem.W.instObj C s.heap.objs.size) } := by
  have e1 : (s.heap.push PySem.W.emptyDict).get? s.heap.objs.size = some PySem.W.emptyDict := Heap.get?_push_size s.heap rfl
  have e2 : ((s.heap.push PySem.W.emptyDict).push (PySem.W.instObj C s.heap.objs.size)).get? (s.heap.objs.size + 1) = some (PySem.W.instObj C s.heap.objs.size) := by
    have := Heap.get?_push_size (s.heap.push PySem.W.emptyDict) (o := PySem.W.instObj C s.heap.objs.size) rfl
    rwa [Heap.size_push] at this
  have e3 : (s.heap.push PySem.W.emptyDict).Ns s.heap.objs.size (fun _ => none) := ⟨PySem.W.emptyDict, #[], _, e1, rfl, (fun e he => absurd he (by simp)), fun _ => rfl⟩
  have I1 := I.laid (a := s.heap.objs.size) (o := .own (s.heap.objs.size + 1)) (h' := s.heap.push PySem.W.emptyDict) (t' := s.toks) (fun b u q => Heap.get?_push_of_some _ q) (Nat.le_refl _) ⟨_, e1⟩
  refine I1.laid (a := s.heap.objs.size + 1) (o := .ins C s.heap.objs.size []) (t' := s.toks) (fun b u q => Heap.get?_push_of_some _ q) (Nat.le_of_eq (Heap.size_push _ _)) ?_
  have ne : s.heap.objs.size ≠ s.heap.objs.size + 1 := Nat.ne_of_lt (Nat.lt_succ_self _)
  refine ⟨by rw [upd_ne ne, upd_same], Nat.zero_le _, ne, e2, fun _ => none, (Heap.Ns1.of_empty e3).at fun o q => Heap.get?_push_of_some _ q, fun _ => True.intro, fun y hy => absurd rfl hy⟩


theorem attr_of {prog : Program} {w : World} {env : Env} {e : Expr} {f : Str} {pos : Pos} {s : Shared} {Q : Value → Shared → Prop} (hb : attributeBase e f env (eval e env) = eval e env)
    (h : wpAny (model prog w) A (eval e env) (fun o s₁ => wpAny (model prog w) A (getAttr o f true) Q E s₁) E s) : wpAny (model prog w) A (eval (.Attribute e f pos) env) Q E s :=
  Attribute_any_ h (by rw [arm_eval_Attribute, hb])
end



noncomputable def tFld (K : PySem.W.Frag) (ta : TE) (f : Str) : TE := fun σ H Q => ta σ H fun x H1 => ∃ a C dx fs v, x = .ref a ∧ H1 a = some (.ins C dx fs) ∧ Cls K C ∧ NoAttr K C f ∧ fs.lookup f = some v ∧ Q v H1

noncomputable def sFld (K : PySem.W.Frag) (ta tv : TE) (f : Str) : TS := fun D σ H => tv σ H fun y H1 => ta σ H1 fun x H2 => ∃ a C dx fs, x = .ref a ∧ H2 a = some (.ins C dx fs) ∧ Cls K C ∧ NoAttr K C f ∧ fs.length < 1000 ∧
  D.nx σ (upd H2 a (.ins C dx (putF f y fs)))

section
variable {X : Cx} {o e value : Expr} {f : Str} {pos pos' tpos : Pos} {ta tv : TE}
theorem pe_fld (he : PE X e ta) (hb : attributeBase e f X.env (eval e X.env) = eval e X.env) : PE X (.Attribute e f pos) (tFld X.K ta f) := by
  intro pins s σ H Q I h
  refine attr_of hb (thn (he pins s σ H _ I h) fun u s1 hh9 => ?_)
  obtain ⟨x, H1, I1, rx, a, C, dx, fs, v, ex, ea, c, n, l, q⟩ := hh9
  subst ex
  obtain rfl : u = Value.ref a := rx
  exact getattr_ok I1 ea c n l fun u' s2 I2 ru => ⟨v, H1, I2, ru, q⟩
theorem ps_fld (ha : PE X o ta) (hv : PE X value tv) (hs : swapsWith value (some (.Attribute o f pos')) pos.line X.env = pure false) : PS X (.Assign [.Attribute o f pos'] value pos) (sFld X.K ta tv f) := by
  intro pins s σ H D I h
  refine plainObj_wpAny_Assign_Attribute (thn (hv pins s σ H _ I h) fun u s1 ⟨y, H1, I1, ry, q⟩ => thn (ha pins s1 σ H1 _ I1 q) fun ov s2 hh9 => ?_) hs
  obtain ⟨x, H2, I2, rx, a, C, dx, fs, ex, ea, c, n, l, q2⟩ := hh9
  subst ex
  obtain rfl : ov = Value.ref a := rx
  exact setattr_ok I2 ea c n l ry fun s3 I3 => ⟨σ, _, I3, q2⟩
end


section
variable {X : Cx} {pins : List (Addr × Obj)} {σ : St} {H : Hp} {s : Shared} {A : Around} {E : Value → Shared → Prop} {Q : Value → Shared → Prop} {c : Value} {b : Bool}

inductive TyOf (K : PySem.W.Frag) (H : Hp) : V → Value → Prop where
  | non : TyOf K H .non (.type "NoneType")
  | bl (x : Bool) : TyOf K H (.bl x) (.type "bool")
  | int (i : Int) : TyOf K H (.int i) (.type "int")
  | str (x : Str) : TyOf K H (.str x) (.type "str")
  | flt (x : UInt64) : TyOf K H (.flt x) (.type "float")
  | lst {a : Addr} {xs : List V} (e : H a = some (.lst xs)) : TyOf K H (.ref a) (.type "list")
  | frz {a : Addr} {o : Obj} {xs : List V} (e : H a = some (.frz o (.lst xs))) : TyOf K H (.ref a) (.type "list")
  | tup {a : Addr} {xs : List V} (e : H a = some (.tup xs)) : TyOf K H (.ref a) (.type "tuple")
  | dK {a : Addr} {kvs : List (Key × V)} (e : H a = some (.dK kvs)) : TyOf K H (.ref a) (.type "dict")
  | dT {a : Addr} {kvs : List (List Key × V)} (e : H a = some (.dT kvs)) : TyOf K H (.ref a) (.type "dict")
  | ins {a C dx : Addr} {fs : List (Str × V)} (e : H a = some (.ins C dx fs)) (cl : Cls K C) (ha : PySem.W.findIn K (.ref C) "__class__" = some (some (.builtin "object.__class__")))
      (hn : PySem.W.specialIn K (.builtin "object.__class__") "__get__" = some (some (.builtin "getset_descriptor.__get__"))) (htk : PySem.W.takesIn K (.builtin "object.__class__") = some true)
      (hm : PySem.W.mroIn K C (.type "object") = some true) : TyOf K H (.ref a) (.ref C)

end
end L2

namespace L2
open PySem PySem.Spec PyProof.Rows


structure Room (k : Nat) (A : Around) : Prop where
  hd : A.handled = none
  dp : A.depth + 3 * k + 5 < recursionLimit
  un : A.units + 16 * k + 200 < cLine
theorem Room.mono {j k : Nat} {A : Around} (r : Room k A) (h : j ≤ k) : Room j A := ⟨r.hd, by have := r.dp; omega, by have := r.un; omega⟩
theorem Room.deeper {k : Nat} {A : Around} (r : Room (k + 1) A) (env : Env) : Room k (A.deeper env) :=
  ⟨r.hd, by have := r.dp; show A.depth + 1 + 3 * k + 5 < _; omega, by have := r.un; show A.units + 3 + 16 * k + 200 < _; omega⟩
theorem Room.in1 {k : Nat} {A : Around} (r : Room (k + 1) A) : Room k A.in1 :=
  ⟨r.hd, by have := r.dp; show A.depth + 3 * k + 5 < _; omega, by have := r.un; show A.units + 1 + 16 * k + 200 < _; omega⟩
theorem make_depth {A : Around} {C : Addr} {us : List Value} {kw : List (Str × Value)} : (A.under (.builtin "type.__call__" ⟨.ref C :: us, kw⟩)).depth = A.depth + 1 := by
  first | rfl | simp [Around.under, Code.weight, Code.isCreation, Code.isGuard, Code.isCaller, Code.frames, Code.isFrame, guardIds]
theorem make_units {A : Around} {C : Addr} {us : List Value} {kw : List (Str × Value)} : (A.under (.builtin "type.__call__" ⟨.ref C :: us, kw⟩)).units = A.units + 1 := by
  first | rfl | simp [Around.under, Code.cUnits, Code.frames, Code.isFrame]
theorem Room.make {k : Nat} {A : Around} (r : Room (k + 1) A) (C : Addr) (us : List Value) (kw : List (Str × Value)) : Room k (A.under (.builtin "type.__call__" ⟨.ref C :: us, kw⟩)) :=
  ⟨r.hd, by have := r.dp; rw [make_depth]; omega, by have := r.un; rw [make_units]; omega⟩
theorem Room.depth {k : Nat} {A : Around} (r : Room k A) : A.depth < recursionLimit := by have := r.dp; omega
theorem Room.units {k : Nat} {A : Around} (r : Room k A) : A.units + 64 < cLine := by have := r.un; omega
theorem Room.units0 {k : Nat} {A : Around} (r : Room k A) : A.units < cLine := by have := r.un; omega


noncomputable def tNil : TA := fun _ H Q => Q [] H
noncomputable def tCons (ta : TE) (tr : TA) : TA := fun σ H Q => ta σ H fun x H1 => tr σ H1 fun xs H2 => Q (x :: xs) H2
section
variable {X : Cx} {e : Expr} {es : List Expr} {te : TE} {t : TA} {pos : Pos}
theorem pa_nil : PA X [] tNil := fun _ _ _ _ H Q I h => Calls.spliced_nil ⟨[], H, I, .nil, h⟩
theorem pa_cons (ha : PE X e te) (hr : PA X es t) (hs : starEach (e :: es) X.env = (false, eval e X.env) :: starEach es X.env := by rfl) : PA X (e :: es) (tCons te t) := by
  intro pos pins s σ H Q I h
  rw [hs]
  show wpAny _ _ (spliced ((false, eval e X.env) :: backTo pos (starEach es X.env))) _ _ s
  refine Calls.spliced_cons (thn (ha pins s σ H _ I h) fun u s1 hh9 => ?_)
  obtain ⟨x, H1, I1, r1, q1⟩ := hh9
  exact thn (hr pos pins s1 σ H1 _ I1 q1) fun us s2 hh9 => by obtain ⟨xs, H2, I2, r2, q2⟩ := hh9; exact ⟨x :: xs, H2, I2, .cons r1 r2, q2⟩


noncomputable def tTup (t : TA) : TE := fun σ H Q => t σ H fun xs H1 => xs.length ≤ sizeLine ∧ ∀ p, H1 p = none → Q (.ref p) (upd H1 p (.tup xs))
noncomputable def tLst (t : TA) : TE := fun σ H Q => t σ H fun xs H1 => xs.length ≤ sizeLine ∧ ∀ p, H1 p = none → Q (.ref p) (upd H1 p (.lst xs))
theorem pe_tup {x1} (h : PA X es t) : PE X (.Tuple es x1 pos) (tTup t) := by
  intro pins s σ H Q I hq
  refine wpAny_Tuple_spliced (thn (h pos pins s σ H _ I hq) fun us s1 ⟨xs, H1, I1, r, z, q⟩ => ⟨by rw [← r.length]; exact z, ?_⟩)
  have hf : H1 s1.heap.objs.size = none := I1.hok.fresh (Nat.le_refl _)
  refine ⟨.ref s1.heap.objs.size, upd H1 s1.heap.objs.size (.tup xs), I1.laid (t' := s1.toks) (fun b u e => Heap.get?_push_of_some _ e) (Nat.le_refl _) ?_, rfl, q _ hf⟩
  exact ⟨z, us, r, ⟨_, Heap.get?_push_size _ rfl, rfl, _, rfl⟩⟩
theorem pe_lst (h : PA X es t) : PE X (.List es pos) (tLst t) := by
  intro pins s σ H Q I hq
  refine wpAny_List_spliced (thn (h pos pins s σ H _ I hq) fun us s1 ⟨xs, H1, I1, r, z, q⟩ => ⟨by rw [← r.length]; exact z, ?_⟩)
  have hf : H1 s1.heap.objs.size = none := I1.hok.fresh (Nat.le_refl _)
  refine ⟨.ref s1.heap.objs.size, upd H1 s1.heap.objs.size (.lst xs), I1.laid (t' := s1.toks) (fun b u e => Heap.get?_push_of_some _ e) (Nat.le_refl _) ?_, rfl, q _ hf⟩
  exact ⟨z, us, 0, r, Heap.get?_push_size _ rfl⟩
end



noncomputable abbrev Sp := List V → Hp → VK → XK → Prop

noncomputable abbrev CXT := List Env → Hp → Shared → XK → Value → Shared → Prop


structure Env0 (P : Program) (w : World) (K : PySem.W.Frag) (mg : Str → Option Value) (base : Heap) (A : Around) (outer : List Env) (s : Shared) (H : Hp) : Prop where
  frames : A.frames = some outer
  mod : Mod K mg base
  bs : ∀ b o, base.get? b = some o → s.heap.get? b = some o ∧ H b = none
  bsz : base.objs.size ≤ s.heap.objs.size
  funs : s.heap.FunFrames base outer
  frf : ∀ b ∈ frs outer, H b = none
  hok : HOk P w H s.heap
  bare : AllBare s.gens

noncomputable def CE (outer : List Env) (P : Program) (w : World) (H : Hp) (s : Shared) (Q : VK) (u : Value) (s' : Shared) : Prop :=
  ∃ v H', s'.os = s.os ∧ AllBare s'.gens ∧ Un (frs outer) [] H H' s.heap s'.heap ∧ HOk P w H' s'.heap ∧ RelV v u ∧ Q v H'
noncomputable def CR (CX : CXT) (outer : List Env) (P : Program) (w : World) (H : Hp) (s : Shared) (Q : VK) (E : XK) (r : Result) (s' : Shared) : Prop :=
  match r with
  | .ok (.ret u) => CE outer P w H s Q u s'
  | .ok _ => False
  | .error e => CX outer H s E e s'
structure FnOk (P : Program) (w : World) (K : PySem.W.Frag) (mg : Str → Option Value) (base : Heap) (CX : CXT) (k : Nat) (f : Addr) (fd : FuncData) (ps : List Str) (sp : Sp) : Prop where
  len : ∀ vs H Q E, sp vs H Q E → vs.length = ps.length
  run : ∀ (A : Around) (outer : List Env) (s : Shared) (H : Hp) (args : Args) (us : List Value) (vs : List V) (Q : VK) (E : XK), Room k A → Env0 P w K mg base A outer s H → BindsTo s fd args (ps.zip us) → Vals vs us → sp vs H Q E →
    codeAny (model P w) A (.call (.ref f) args) (CR CX outer P w H s Q E) s
theorem FnOk.mono {P : Program} {w : World} {K : PySem.W.Frag} {mg : Str → Option Value} {base : Heap} {CX : CXT} {j k : Nat} {f : Addr} {fd : FuncData} {ps : List Str} {sp : Sp} (F : FnOk P w K mg base CX j f fd ps sp) (h : j ≤ k) :
    FnOk P w K mg base CX k f fd ps sp := ⟨F.len, fun A outer s H args us vs Q E hr => F.run A outer s H args us vs Q E (hr.mono h)⟩

theorem FnOk.imp {P : Program} {w : World} {K : PySem.W.Frag} {mg : Str → Option Value} {base : Heap} {CX : CXT} {k : Nat} {f : Addr} {fd : FuncData} {ps : List Str} {sp sp' : Sp} (F : FnOk P w K mg base CX k f fd ps sp)
    (h : ∀ vs H Q E, sp' vs H Q E → sp vs H Q E) : FnOk P w K mg base CX k f fd ps sp' :=
  ⟨fun vs H Q E q => F.len vs H Q E (h _ _ _ _ q), fun A outer s H args us vs Q E hr he hb hv hs => F.run A outer s H args us vs Q E hr he hb hv (h _ _ _ _ hs)⟩

theorem Env0.make {P : Program} {w : World} {K : PySem.W.Frag} {mg : Str → Option Value} {base : Heap} {A : Around} {outer : List Env} {s : Shared} {H : Hp} (e : Env0 P w K mg base A outer s H) (C : Addr) (us : List Value) (kw : List (Str × Value)) :
    Env0 P w K mg base (A.under (.builtin "type.__call__" ⟨.ref C :: us, kw⟩)) outer s H := ⟨by first | exact e.frames | (simpa [Around.under, Code.envs, Code.isFrame, pushEnvs] using e.frames), e.mod, e.bs, e.bsz, e.funs, e.frf, e.hok, e.bare⟩
theorem Env0.in1 {P : Program} {w : World} {K : PySem.W.Frag} {mg : Str → Option Value} {base : Heap} {A : Around} {outer : List Env} {s : Shared} {H : Hp} (e : Env0 P w K mg base A outer s H) :
    Env0 P w K mg base A.in1 outer s H := ⟨e.frames, e.mod, e.bs, e.bsz, e.funs, e.frf, e.hok, e.bare⟩

section
variable {X : Cx} {pins : List (Addr × Obj)} {σ : St} {H : Hp} {s s' : Shared}

theorem Inv.env0 (I : Inv X pins σ H s) : Env0 X.prog X.w X.K X.mg X.base X.A X.stack s H :=
  ⟨I.ok.frames, I.ok.mod, I.bs, Nat.le_trans I.ok.bsz I.sz, I.stack, I.stkFree, I.hok, I.bare⟩

theorem Inv.after {Q : VK} {u : Value} (I : Inv X pins σ H s) (h : CE X.stack X.prog X.w H s Q u s') : EP X pins σ Q u s' := by
  obtain ⟨v, H', os, bare, un, hok, r, q⟩ := h
  obtain ⟨hh, g, d, t, os'⟩ := s'
  obtain rfl : os' = s.os := os
  exact ⟨v, H', I.call (h' := hh) (g' := g) (d' := d) (t' := t) (ch := []) un hok bare (fun b z => absurd z (by simp)), r, q⟩
end



noncomputable def tCall (sp : Sp) (dvs : List V) (E : XK) (t : TA) : TE := fun σ H Q => t σ H fun vs H1 => sp (vs ++ dvs) H1 Q E

noncomputable def tMeth (C : Addr) (m : Str) (sp : Sp) (dvs : List V) (E : XK) (ta : TE) (t : TA) : TE := fun σ H Q => ta σ H fun x H1 => ∃ a dx fs, x = .ref a ∧ H1 a = some (.ins C dx fs) ∧ fs.lookup m = none ∧
  t σ H1 fun vs H2 => sp (x :: (vs ++ dvs)) H2 Q E

noncomputable def tMake (C : Addr) (sp : Sp) (dvs : List V) (E : XK) (t : TA) : TE := fun σ H Q => t σ H fun vs H1 => ∀ x dx, H1 x = none → H1 dx = none → dx ≠ x →
  sp (.ref x :: (vs ++ dvs)) (upd (upd H1 dx (.own x)) x (.ins C dx [])) (fun v H2 => v = .non ∧ Q (.ref x) H2) E


noncomputable def Binds (K : PySem.W.Frag) (fd : FuncData) (ps : List Str) (ds : List Value) : Prop :=
  ∀ (s : Shared) (us : List Value), K.In s.heap → (us ++ ds).length = ps.length → BindsTo s fd ⟨us, []⟩ (ps.zip (us ++ ds))

theorem Binds.all {K : PySem.W.Frag} {fd : FuncData} {ps : List Str} (h : ∀ us : List Value, us.length = ps.length → bindArgs fd ⟨us, []⟩ = pure (ps.zip us)) : Binds K fd ps [] := fun s us _ hl => by
  rw [List.append_nil] at hl ⊢
  exact .of_eq (h us hl)


noncomputable def Passes (CX : CXT) (X : Cx) (E : XK) : Prop := ∀ (pins : List (Addr × Obj)) (σ : St) (H : Hp) (s : Shared) (e : Value) (s' : Shared), Inv X pins σ H s → CX X.stack H s E e s' → X.xe e s'

section
variable {X : Cx} {CX : CXT} {k : Nat} {f C : Addr} {fd : FuncData} {ps : List Str} {sp : Sp} {dvs : List V} {ds : List Value} {E : XK} {x m : Str} {p pos apos : Pos} {e o : Expr} {es : List Expr} {ta : TE} {t : TA}


theorem run_fn {pins : List (Addr × Obj)} {σ : St} {H : Hp} {s : Shared} {Q : VK} {us : List Value} {vs : List V} (F : FnOk X.prog X.w X.K X.mg X.base CX k f fd ps sp) (hr : Room k X.A) (hb : Binds X.K fd ps ds) (hd : Vals dvs ds) (hx : Passes CX X E)
    (I : Inv X pins σ H s) (r : Vals vs us) (h : sp (vs ++ dvs) H Q E) : wpAny (model X.prog X.w) X.A (call (.ref f) us) (EP X pins σ Q) X.xe s := by
  have r2 : Vals (vs ++ dvs) (us ++ ds) := r.append hd
  have hl : (us ++ ds).length = ps.length := by rw [← r2.length]; exact F.len _ _ _ _ h
  refine wpAny_call (codeAny_mono (F.run X.A X.stack s H ⟨us, []⟩ (us ++ ds) (vs ++ dvs) Q E hr I.env0 (hb s us I.kIn hl) r2 h) fun r s' hq => ?_)
  cases r with
  | error e => exact hx pins σ H s e s' I hq
  | ok fl =>
    cases fl with
    | ret u => exact I.after hq
    | next => exact False.elim hq
    | brk => exact False.elim hq
    | cont => exact False.elim hq

theorem pe_call (F : FnOk X.prog X.w X.K X.mg X.base CX k f fd ps sp) (hr : Room k X.A) (hg : Gl X x) (hm : X.mg x = some (.ref f)) (hk : PySem.W.keepIn X.K (.ref f) = true) (hb : Binds X.K fd ps ds) (hd : Vals dvs ds) (hx : Passes CX X E)
    (ha : PA X (e :: es) t) (hdb : (x == ("__debug__" : Str)) = false := by decide) (he : starEach (e :: es) X.env = (false, eval e X.env) :: starEach es X.env := by rfl) (hpl : (backTo pos (starEach es X.env)).any (·.1) = false := by rfl) :
    PE X (.Call (.Name x p) (e :: es) [] pos) (tCall sp dvs E t) := by
  intro pins s σ H Q I h
  refine wpAny_Call_Name_kw (ld_glob I hg hm ?_ hdb)
  refine PySem.W.callWith_K (h₀ := X.base) I.ok.mod.kin hk (thn (ha pos pins s σ H _ I h) fun us s1 ⟨vs, H1, I1, r, q⟩ => ⟨I1.kIn, ?_⟩) he hpl
  exact run_fn F hr hb hd hx I1 r q
theorem pe_meth {pl : Sem Bool} (he : PE X o ta) (c : Cls X.K C) (hm : Meth X.K C m f) (F : FnOk X.prog X.w X.K X.mg X.base CX k f fd ps sp) (hr : Room k X.A) (hb : Binds X.K fd ps ds) (hd : Vals dvs ds) (hx : Passes CX X E) (ha : PA X (e :: es) t)
    (hst : starEach (e :: es) X.env = (false, eval e X.env) :: starEach es X.env := by rfl) (hpl : (backTo pos (starEach es X.env)).any (·.1) = false := by rfl)
    (ht : eval (.Call (.Attribute o m apos) (e :: es) [] pos) X.env = (do
      let ov ← eval o X.env
      standAt apos.atName
      let (f, first) ← holding [ov] (getMethod ov m pl)
      callWith pos f first (backTo pos (starEach (e :: es) X.env)) (backToKw pos (keywordEach [] X.env))) := by rfl) :
    PE X (.Call (.Attribute o m apos) (e :: es) [] pos) (tMeth C m sp dvs E ta t) := by
  intro pins s σ H Q I h
  refine PySem.W.methodCall_KW (pl := pl) (thn (he pins s σ H _ I h) fun u s1 hh9 => ?_) ht
  obtain ⟨x, H1, I1, rx, a, dx, fs, ex, ea, l, q⟩ := hh9
  subst ex
  obtain rfl : u = Value.ref a := rx
  refine getmeth_ok I1 ea c hm l ?_
  refine PySem.W.callWith_K (first := [.ref a]) (h₀ := X.base) I.ok.mod.kin hm.kp (thn (ha pos pins s1 σ H1 _ I1 q) fun us s2 ⟨vs, H2, I2, r, q2⟩ => ⟨I2.kIn, ?_⟩) hst hpl
  exact run_fn (us := .ref a :: us) (vs := .ref a :: vs) F hr hb hd hx I2 (.cons rfl r) q2

theorem pe_meth0 {pl : Sem Bool} (he : PE X o ta) (c : Cls X.K C) (hm : Meth X.K C m f) (F : FnOk X.prog X.w X.K X.mg X.base CX k f fd ps sp) (hr : Room k X.A) (hb : Binds X.K fd ps ds) (hd : Vals dvs ds) (hx : Passes CX X E)
    (ht : eval (.Call (.Attribute o m apos) [] [] pos) X.env = (do
      let ov ← eval o X.env
      standAt apos.atName
      let (f, first) ← holding [ov] (getMethod ov m pl)
      callWith pos f first (backTo pos (starEach [] X.env)) (backToKw pos (keywordEach [] X.env))) := by rfl) :
    PE X (.Call (.Attribute o m apos) [] [] pos) (tMeth C m sp dvs E ta tNil) := by
  intro pins s σ H Q I h
  refine PySem.W.methodCall_KW (pl := pl) (thn (he pins s σ H _ I h) fun u s1 hh9 => ?_) ht
  obtain ⟨x, H1, I1, rx, a, dx, fs, ex, ea, l, q⟩ := hh9
  subst ex
  obtain rfl : u = Value.ref a := rx
  refine getmeth_ok I1 ea c hm l ?_
  exact PySem.W.callWith_K0 (first := [.ref a]) I1.kIn hm.kp (run_fn (us := [.ref a]) (vs := [.ref a]) F hr hb hd hx I1 (.cons rfl .nil) q)


structure Mk (K : PySem.W.Frag) (C f : Addr) : Prop where
  makes : PySem.W.makesIn K C = true
  init : PySem.W.findIn K (.ref C) "__init__" = some (some (.ref f))
  fn : PySem.W.isFn K (.ref f) = true
  kp : PySem.W.keepIn K (.ref C) = true

theorem run_make {pins : List (Addr × Obj)} {σ : St} {H : Hp} {s : Shared} {Q : VK} {us : List Value} {vs : List V} (M : Mk X.K C f) (F : FnOk X.prog X.w X.K X.mg X.base CX k f fd ps sp) (hr : Room (k + 1) X.A) (hb : Binds X.K fd ps ds) (hd : Vals dvs ds)
    (hx : Passes CX X E) (I : Inv X pins σ H s) (r : Vals vs us)
    (h : ∀ x dx, H x = none → H dx = none → dx ≠ x → sp (.ref x :: (vs ++ dvs)) (upd (upd H dx (.own x)) x (.ins C dx [])) (fun v H2 => v = .non ∧ Q (.ref x) H2) E) :
    wpAny (model X.prog X.w) X.A (call (.ref C) us) (EP X pins σ Q) X.xe s := by
  have hq := h (s.heap.objs.size + 1) s.heap.objs.size (I.hok.fresh (Nat.le_succ _)) (I.hok.fresh (Nat.le_refl _)) (Nat.ne_of_lt (Nat.lt_succ_self _))
  have I2 := Inv.made (C := C) I
  have r2 : Vals (V.ref (s.heap.objs.size + 1) :: (vs ++ dvs)) (Value.ref (s.heap.objs.size + 1) :: (us ++ ds)) := .cons rfl (r.append hd)
  have hl : (Value.ref (s.heap.objs.size + 1) :: us ++ ds).length = ps.length := by
    have e := r2.length
    rw [F.len _ _ _ _ hq] at e
    exact e.symm
  refine wpAny_call (make_map (f := f) I.kIn M.makes M.init (beq_iff_eq.mp M.fn) (codeAny_mono (F.run _ X.stack _ _ ⟨Value.ref (s.heap.objs.size + 1) :: us, []⟩ (Value.ref (s.heap.objs.size + 1) :: (us ++ ds)) _ _ E (hr.make C us [])
    (I2.env0.make C us []) (hb _ (Value.ref (s.heap.objs.size + 1) :: us) I2.kIn hl) r2 hq) fun r s' hq' => ?_))
  cases r with
  | error e => exact hx pins σ _ _ e s' I2 hq'
  | ok fl =>
    cases fl with
    | ret u =>
      obtain ⟨v, H', I3, rv, ev, q3⟩ := I2.after hq'
      subst ev
      exact ⟨rv, ⟨V.ref (s.heap.objs.size + 1), H', I3, rfl, q3⟩⟩
    | next => exact False.elim hq'
    | brk => exact False.elim hq'
    | cont => exact False.elim hq'
theorem pe_make (M : Mk X.K C f) (F : FnOk X.prog X.w X.K X.mg X.base CX k f fd ps sp) (hr : Room (k + 1) X.A) (hg : Gl X x) (hm : X.mg x = some (.ref C)) (hb : Binds X.K fd ps ds) (hd : Vals dvs ds) (hx : Passes CX X E)
    (ha : PA X (e :: es) t) (hdb : (x == ("__debug__" : Str)) = false := by decide) (he : starEach (e :: es) X.env = (false, eval e X.env) :: starEach es X.env := by rfl) (hpl : (backTo pos (starEach es X.env)).any (·.1) = false := by rfl) :
    PE X (.Call (.Name x p) (e :: es) [] pos) (tMake C sp dvs E t) := by
  intro pins s σ H Q I h
  refine wpAny_Call_Name_kw (ld_glob I hg hm ?_ hdb)
  refine PySem.W.callWith_K (h₀ := X.base) I.ok.mod.kin M.kp (thn (ha pos pins s σ H _ I h) fun us s1 ⟨vs, H1, I1, r, q⟩ => ⟨I1.kIn, ?_⟩) he hpl
  exact run_make M F hr hb hd hx I1 r q
end



section
variable {X : Cx} {CX : CXT} {k : Nat} {f C : Addr} {fd : FuncData} {ps ks : List Str} {sp : Sp} {E : XK} {x m : Str} {p pos apos kpos : Pos} {e o : Expr} {es : List Expr} {kws : List Keyword} {te ta : TE} {t tk : TA} {nm : Option Str}
structure KBinds (K : PySem.W.Frag) (fd : FuncData) (ps ks : List Str) (g : List Value → List Value → List Value) (gV : List V → List V → List V) : Prop where
  to : ∀ (s : Shared) (us ws : List Value), K.In s.heap → (g us ws).length = ps.length → BindsTo s fd ⟨us, ks.zip ws⟩ (ps.zip (g us ws))
  rel : ∀ {vs : List V} {us : List Value} {zs : List V} {ws : List Value}, Vals vs us → Vals zs ws → Vals (gV vs zs) (g us ws)
variable {g : List Value → List Value → List Value} {gV : List V → List V → List V}
end



structure FnScope (N P : List Str) (sc : Scope) : Prop where
  kind : sc.kind = .function
  co : sc.isCoroutine = false
  gen : sc.isGenerator = false
  nd : N.Nodup
  pre : N.take P.length = P
  par : ∀ x ∈ P, sc.names.lookup x = some .local ∨ sc.names.lookup x = some .cell
  nofree : ∀ y ∈ sc.names, y.2 ≠ .free

theorem bindL_out {kindOf : Str → Option NameKind} {x : Str} : ∀ {binds : List (Str × Value)} {m : Str → Option Value}, (∀ v, (x, v) ∉ binds) → bindL kindOf binds m x = m x
  | [], _, _ => rfl
  | (n, v) :: r, m, h => by
    unfold bindL
    rw [bindL_out fun w hw => h w (List.mem_cons_of_mem _ hw)]
    split
    · have : x ≠ n := by rintro rfl; exact h v List.mem_cons_self
      simp [this]
    · rfl
theorem bindC_out {kindOf : Str → Option NameKind} {x : Str} : ∀ {binds : List (Str × Value)} {m : Str → Option Value}, (∀ v, (x, v) ∉ binds) → bindC kindOf binds m x = m x
  | [], _, _ => rfl
  | (n, v) :: r, m, h => by
    unfold bindC
    rw [bindC_out fun w hw => h w (List.mem_cons_of_mem _ hw)]
    split
    · rfl
    · have : x ≠ n := by rintro rfl; exact h v List.mem_cons_self
      simp [this]
theorem bindL_get {kindOf : Str → Option NameKind} {x : Str} {v : Value} : ∀ {P : List Str} {vs : List Value} {i : Nat} {m : Str → Option Value}, P.Nodup → P[i]? = some x → vs[i]? = some v → kindOf x = some .local →
    bindL kindOf (P.zip vs) m x = some v
  | [], _, _, _, _, h, _, _ => by simp at h
  | _ :: _, [], _, _, _, _, h, _ => by simp at h
  | p :: P, w :: vs, 0, m, nd, h1, h2, hk => by
    simp at h1 h2; subst h1; subst h2
    show bindL kindOf ((p, w) :: P.zip vs) m p = _
    unfold bindL
    rw [bindL_out fun v hv => (List.nodup_cons.mp nd).1 (List.of_mem_zip hv).1, if_pos hk]
    simp
  | p :: P, w :: vs, i + 1, m, nd, h1, h2, hk => by
    show bindL kindOf ((p, w) :: P.zip vs) m x = _
    unfold bindL
    exact bindL_get (i := i) (List.nodup_cons.mp nd).2 (by simpa using h1) (by simpa using h2) hk
theorem bindC_get {kindOf : Str → Option NameKind} {x : Str} {v : Value} : ∀ {P : List Str} {vs : List Value} {i : Nat} {m : Str → Option Value}, P.Nodup → P[i]? = some x → vs[i]? = some v → kindOf x ≠ some .local →
    bindC kindOf (P.zip vs) m x = some v
  | [], _, _, _, _, h, _, _ => by simp at h
  | _ :: _, [], _, _, _, _, h, _ => by simp at h
  | p :: P, w :: vs, 0, m, nd, h1, h2, hk => by
    simp at h1 h2; subst h1; subst h2
    show bindC kindOf ((p, w) :: P.zip vs) m p = _
    unfold bindC
    rw [bindC_out fun v hv => (List.nodup_cons.mp nd).1 (List.of_mem_zip hv).1, if_neg hk]
    simp
  | p :: P, w :: vs, i + 1, m, nd, h1, h2, hk => by
    show bindC kindOf ((p, w) :: P.zip vs) m x = _
    unfold bindC
    exact bindC_get (i := i) (List.nodup_cons.mp nd).2 (by simpa using h1) (by simpa using h2) hk


noncomputable def start (N : List Str) (vs : List V) : St := vs.map some ++ List.replicate (N.length - vs.length) none


noncomputable def cxOf (CX : CXT) (P : Program) (w : World) (K : PySem.W.Frag) (mg : Str → Option Value) (base : Heap) (N : List Str) (qual : Str) (scope : Scope) (f : Addr) (cd : Value) (A : Around) (outer : List Env) (s : Shared) (H : Hp) (E : XK) : Cx where
  prog := P
  w := w
  K := K
  mg := mg
  base := base
  A := A.deeper (envOfC qual scope s.heap.objs.size f cd)
  N := N
  s₀ := s
  H₀ := H
  env := envOfC qual scope s.heap.objs.size f cd
  outer := outer
  stack := envOfC qual scope s.heap.objs.size f cd :: outer
  ex := []
  calm := true
  fn := fun _ => true
  pn := []
  xe := fun e s' => wpAny (model P w) (A.deeper (envOfC qual scope s.heap.objs.size f cd)) (leaving (envOfC qual scope s.heap.objs.size f cd) e) (fun _ s'' => CX outer H s E e s'') (fun e' s'' => CX outer H s E e' s'') s'

theorem cell_has {sc : Scope} {n : Nat} {x : Str} (h : sc.names.lookup x = some .cell) : ∃ c, (cellsFrom n sc.names []).lookup x = some c := by
  have q := PySem.W.cellsFrom_some sc.names n [] (.inl h)
  exact Option.isSome_iff_exists.mp q

theorem inv_start {CX : CXT} {P : Program} {w : World} {K : PySem.W.Frag} {mg : Str → Option Value} {base : Heap} {N ps : List Str} {qual : Str} {scope : Scope} {f : Addr} {cd : Value} {A : Around} {outer : List Env} {s s1 : Shared} {H : Hp} {E : XK} {us : List Value} {vs : List V}
    (S : FnScope N ps scope) (hd : A.handled = none) (e0 : Env0 P w K mg base A outer s H) (hl : vs.length = ps.length) (r : Vals vs us)
    (x : InCallC s s.heap.objs.size (bindL (envOfC qual scope s.heap.objs.size f cd).kindOf (ps.zip us) fun _ => none) (cellsFrom (s.heap.objs.size + 1) scope.names []) (bindC (envOfC qual scope s.heap.objs.size f cd).kindOf (ps.zip us) fun _ => none) s1) :
    Inv (cxOf CX P w K mg base N qual scope f cd A outer s H E) [] (start N vs) H s1 := by
  have hpl : ps.length ≤ N.length := by have := congrArg List.length S.pre; rw [List.length_take] at this; omega
  obtain ⟨h1, tk, rfl, hk⟩ := x.done
  have noA : ∀ b : Addr, b ∉ (cxOf CX P w K mg base N qual scope f cd A outer s H E).ex := fun b z => absurd (show b ∈ ([] : List Addr) from z) (by simp)
  refine ⟨⟨e0.mod, S.kind, rfl, rfl, Nat.le_refl _, fun y z c h1 h2 => ?_, fun y hy => ?_, fun y c _ h => ?_, fun _ => hd, Around.frames_deeper e0.frames, .inr ⟨rfl, rfl⟩, fun b z => absurd z (noA b), e0.bs, e0.bsz, fun b _ _ => noA b, fun b z => absurd z (noA b), e0.funs, e0.frf⟩,
    rfl, e0.bare, Un.kept hk, ⟨_, x.toInCall.ns, fun i y v h1 h2 h3 => ?_⟩, fun y c h => ⟨_, x.cell y c h⟩, e0.hok.fresh (Nat.le_refl _), fun y c h => ?_, fun p hp => absurd (show p ∈ ([] : List (Addr × Obj)) from hp) (by simp), e0.hok.kept hk, ?_⟩
  · exact name_of_addr x.apart (PySem.mem_of_lookup h1) (PySem.mem_of_lookup h2)
  · have hy : scope.names.lookup y = some .cell ∨ scope.names.lookup y = some .free := hy
    rcases hy with hy | hy
    · exact cell_has hy
    · exact absurd rfl (S.nofree _ (PySem.mem_of_lookup hy))
  · exact Nat.le_of_lt (x.above y c (PySem.mem_of_lookup h))
  · have hi : i < vs.length := by
      unfold start at h2
      by_cases hi : i < vs.length
      · exact hi
      · rw [List.getElem?_append_right (by simpa using hi)] at h2
        rw [List.getElem?_replicate] at h2
        split at h2 <;> cases h2
    have ha : vs[i]? = some v := by
      unfold start at h2
      rw [List.getElem?_append_left (by simpa using hi), List.getElem?_map] at h2
      cases e : vs[i]? with
      | none => rw [e] at h2; cases h2
      | some a => rw [e] at h2; cases h2; rfl
    obtain ⟨u, hu, rv⟩ := r.get ha
    have hp : ps[i]? = some y := by
      rw [← S.pre, List.getElem?_take_of_lt (by omega)]; exact h1
    have ndP : ps.Nodup := by rw [← S.pre]; exact S.nd.sublist (List.take_sublist _ _)
    refine ⟨u, rv, ?_⟩
    rcases S.par y (List.mem_of_getElem? hp) with k | k
    · exact .inl ⟨k, bindL_get ndP hp hu k⟩
    · obtain ⟨c, e⟩ := cell_has (n := s.heap.objs.size + 1) k
      refine .inr ⟨.inl k, c, e, ?_⟩
      have q := x.cell y c e
      rw [bindC_get ndP hp hu (by show scope.names.lookup y ≠ _; rw [k]; decide)] at q
      exact q
  · exact e0.hok.fresh (Nat.le_of_lt (x.above y c (PySem.mem_of_lookup h)))
  · unfold start
    show _ = N.length
    rw [List.length_append, List.length_map, List.length_replicate]
    omega


theorem fn_of {CX : CXT} {P : Program} {w : World} {K : PySem.W.Frag} {mg : Str → Option Value} {base : Heap} {k : Nat} {f : Addr} {name qual : Str} {params : Arguments} {body : List Stmt} {scope : Scope} {dV kV doc pm cdv ct oc : Value} {an od : Option Addr}
    {osl : Array (Option Value)} {N ps : List Str} {sp : Sp} (lk : K.lookup f = some ⟨oc, od, .func (PySem.W.fnOf name qual params body scope dV kV doc pm an cdv ct), osl⟩) (hcd : PySem.W.codeIn K cdv qual = true) (S : FnScope N ps scope)
    (len : ∀ vs H Q E, sp vs H Q E → vs.length = ps.length)
    (hbody : ∀ (A : Around) (outer : List Env) (s : Shared) (H : Hp) (vs : List V) (Q : VK) (E : XK), Room k (A.deeper (envOfC qual scope s.heap.objs.size f cdv)) → sp vs H Q E →
      ∃ t, PSs (cxOf CX P w K mg base N qual scope f cdv A outer s H E) body t ∧ t { nx := fun _ H' => Q .non H', rt := Q } (start N vs) H) :
    FnOk P w K mg base CX (k + 1) f (PySem.W.fnOf name qual params body scope dV kV doc pm an cdv ct) ps sp := by
  refine ⟨len, fun A outer s H args us vs Q E hr e0 hb r hsp => ?_⟩
  have hl := len _ _ _ _ hsp
  have KX : K.In s.heap := e0.mod.kin.keeps fun b o e => (e0.bs b o e).1
  have lim : s.heap.NoLimit := e0.mod.nolimit.keeps fun b o e => (e0.bs b o e).1
  have hkind : ∀ y ∈ ps.zip us, scope.names.lookup y.1 = some .local ∨ (scope.names.lookup y.1 = some .cell ∧ ((cellsFrom (s.heap.objs.size + 1) scope.names []).lookup y.1).isSome = true) := fun ⟨n, v⟩ hy => by
    rcases S.par n (List.of_mem_zip hy).1 with q | q
    · exact .inl q
    · exact .inr ⟨q, PySem.W.cellsFrom_some _ _ _ (.inl q)⟩
  refine codeAny_call_function hr.depth (KX _ _ lk) rfl S.co S.gen rfl (PySem.W.codeRec_of KX hcd) (hb _ _ _ _ ?_)
  refine wpAny_newFunctionEnv_cells S.kind hkind fun env he s1 x => ?_
  subst he
  refine ⟨lim.keeps x.toInCall.keep, codeAny_func ?_⟩
  obtain ⟨t, ht, hq⟩ := hbody A outer s H vs Q E (hr.deeper _) hsp
  have I : Inv (cxOf CX P w K mg base N qual scope f cdv A outer s H E) [] (start N vs) H s1 := inv_start S hr.hd e0 hl r x
  refine wpAny_mono (ht [] s1 (start N vs) H _ I hq) (fun fl s' hs => ?_) fun e s' hs => hs
  have fin : ∀ {σ' : St} {H' : Hp} {v : V} {u : Value}, Inv (cxOf CX P w K mg base N qual scope f cdv A outer s H E) [] σ' H' s' → RelV v u → Q v H' → CE outer P w H s Q u s' :=
    fun {σ' H' v u} J rv q => ⟨v, H', J.os, J.bare, J.base, J.hok, rv, q⟩
  cases fl with
  | ret u =>
    obtain ⟨v, σ', H', J, rv, q⟩ := hs
    exact fin J rv q
  | next =>
    obtain ⟨σ', H', J, q⟩ := hs
    exact fin (v := V.non) (u := Value.none) J rfl q
  | brk =>
    obtain ⟨_, _, _, q⟩ := hs
    exact False.elim q
  | cont =>
    obtain ⟨_, _, _, q⟩ := hs
    exact False.elim q
end L2

namespace L2
open PySem PySem.Spec PyProof.Rows
section
variable {X : Cx} {x : Str} {p pos : Pos} {e : Expr} {es : List Expr} {t : TA} {id T : String} {r : List V → Hp → VK → Prop}

noncomputable def tCB (r : List V → Hp → VK → Prop) (t : TA) : TE := fun σ H Q => t σ H fun vs H1 => r vs H1 Q

theorem pe_callB (hc : CallR X (.builtin id) r) (hg : Gl X x) (hm : X.mg x = none) (hv : bootBuiltins x = some (.builtin id)) (ha : PA X (e :: es) t) (hn : x ≠ "__name__" := by decide) (hdb : (x == ("__debug__" : Str)) = false := by decide)
    (he : starEach (e :: es) X.env = (false, eval e X.env) :: starEach es X.env := by rfl) (hpl : (backTo pos (starEach es X.env)).any (·.1) = false := by rfl) : PE X (.Call (.Name x p) (e :: es) [] pos) (tCB r t) := by
  intro pins s σ H Q I h
  refine wpAny_Call_Name_kw (ld_blt I hg hm hv ?_ hn hdb)
  exact PyProof.Rows.callWith_builtin1 (thn (ha pos pins s σ H _ I h) fun us s1 hh9 => by obtain ⟨vs, H1, I1, r1, q1⟩ := hh9; exact hc pins s1 σ H1 vs us Q I1 r1 q1) he hpl

theorem pe_callTy (hc : CallR X (.type T) r) (hg : Gl X x) (hm : X.mg x = none) (hv : bootBuiltins x = some (.type T)) (ha : PA X (e :: es) t) (hn : x ≠ "__name__" := by decide) (hdb : (x == ("__debug__" : Str)) = false := by decide)
    (he : starEach (e :: es) X.env = (false, eval e X.env) :: starEach es X.env := by rfl) (hpl : (backTo pos (starEach es X.env)).any (·.1) = false := by rfl) : PE X (.Call (.Name x p) (e :: es) [] pos) (tCB r t) := by
  intro pins s σ H Q I h
  refine wpAny_Call_Name_kw (ld_blt I hg hm hv ?_ hn hdb)
  exact PyProof.Rows.callWith_type1 (thn (ha pos pins s σ H _ I h) fun us s1 hh9 => by obtain ⟨vs, H1, I1, r1, q1⟩ := hh9; exact hc pins s1 σ H1 vs us Q I1 r1 q1) he hpl

end
end L2

namespace HT
open PySem PyProof.Rows


noncomputable def lexLt : List Int → List Int → Bool
  | [], [] => false
  | [], _ :: _ => true
  | _ :: _, [] => false
  | x :: xs, y :: ys => if x = y then lexLt xs ys else decide (x < y)
theorem lexLt_cons (x y : Int) (xs ys : List Int) : lexLt (x :: xs) (y :: ys) = if x = y then lexLt xs ys else decide (x < y) := rfl
theorem lexLt_nil_nil : lexLt [] [] = false := rfl
theorem eqAt_int (A : Around) (s : Shared) (a : Int) (t : Tok) (c : Int) (u : Tok) : ∃ e, SeqAt.EqAt A s (.int a t) (.int c u) e ∧ (e = true ↔ a = c) :=
  ⟨(a == c), SeqAt.EqAt.int_int a t c u, by simp⟩
section
open PySem.SeqAt
open PySem.AutoSeq1 (wpAny_loadPart')
open PySem.MeetsSeq PySem.MeetsSeq2 PySem.MeetsSeq3

end

section
variable {prog : Program} {w : World} {A : Around} {E : Value → Shared → Prop} {s : Shared}

noncomputable def sIx (n d : Nat) : Option Int → Nat
  | none => d
  | some v => if v < 0 then (v + (n : Int)).toNat else min v.toNat n
theorem sIx_none (n d : Nat) : sIx n d none = d := rfl
theorem sIx_nat (n d k : Nat) : sIx n d (some (k : Int)) = min k n := by
  show (if (k : Int) < 0 then ((k : Int) + (n : Int)).toNat else min (k : Int).toNat n) = min k n
  rw [if_neg (by omega), Int.toNat_natCast]
end
end HT

namespace L2
open PySem PySem.Spec PyProof.Rows


noncomputable abbrev TO := St → Hp → (Option Int → Hp → Prop) → Prop

noncomputable def PO (X : Cx) (e : Option Expr) (t : TO) : Prop :=
  ∀ (pins : List (Addr × Obj)) (s : Shared) (σ : St) (H : Hp) (Q : Option Int → Hp → Prop), Inv X pins σ H s → t σ H Q →
    wpAny (model X.prog X.w) X.A (evalPart e X.env) (fun u s' => ∃ o H', Inv X pins σ H' s' ∧ IsPart u o ∧ Q o H') X.xe s
noncomputable def tNoPart : TO := fun _ H Q => Q none H
noncomputable def tPart (t : TE) : TO := fun σ H Q => t σ H fun x H1 => ∃ i, x = .int i ∧ Q (some i) H1

theorem intsAre_of {ns : List Int} : ∀ {us : List Value}, Vals (ns.map V.int) us → IntsAre us ns := by
  induction ns with
  | nil => intro us r; rw [List.map_nil] at r; cases r; exact .nil
  | cons n ns ih =>
    intro us r
    rw [List.map_cons] at r
    cases r with
    | cons r1 r2 =>
      obtain ⟨t, e⟩ := r1
      subst e
      exact .cons n t (ih r2)

section
variable {X : Cx} {e : Expr} {te : TE} {lo hi : Option Expr} {tl th : TO} {pos p2 : Pos}

theorem po_none : PO X none tNoPart := by
  intro pins s σ H Q I h
  rw [evalPart_none]
  exact wpAny_pure ⟨none, H, I, .none, h⟩
theorem po_some (h : PE X e te) : PO X (some e) (tPart te) := by
  intro pins s σ H Q I hw
  rw [evalPart_some]
  refine thn (h pins s σ H _ I hw) fun u s1 hh9 => ?_
  obtain ⟨x, H1, I1, r1, q1⟩ := hh9
  obtain ⟨i, rfl, q⟩ := q1
  obtain ⟨t, rfl⟩ := r1
  exact ⟨some i, H1, I1, .int i t, q⟩


noncomputable def SlR (X : Cx) (r : V → Option Int → Option Int → Hp → VK → Prop) : Prop :=
  ∀ (pins : List (Addr × Obj)) (s : Shared) (σ : St) (H : Hp) (x : V) (v vl vu : Value) (lo hi : Option Int) (sl : Addr) (Q : VK), Inv X pins σ H s → RelV x v → s.heap.IsSliceOf sl vl vu .none → IsPart vl lo → IsPart vu hi → r x lo hi H Q →
    ∃ T id, typeLookup (.type T) "__getitem__" = pure (some (.builtin id)) ∧ s.TypeIs v T ∧ wpAny (model X.prog X.w) X.A (getItem v (.ref sl)) (EP X pins σ Q) X.xe s
noncomputable def tSl (r : V → Option Int → Option Int → Hp → VK → Prop) (te : TE) (tl th : TO) : TE := fun σ H Q => te σ H fun x H1 => tl σ H1 fun l H2 => th σ H2 fun u H3 => r x l u H3 Q

theorem pe_slice {r : V → Option Int → Option Int → Hp → VK → Prop} (hr : SlR X r) (he : PE X e te) (hl : PO X lo tl) (hu : PO X hi th) : PE X (.Subscript e (.Slice lo hi none p2) pos) (tSl r te tl th) := by
  intro pins s σ H Q I h
  refine Subscript_ (thn (he pins s σ H _ I h) fun v s1 hh9 => ?_)
  obtain ⟨x, H1, I1, r1, q1⟩ := hh9
  refine wpAny_Slice (thn (hl pins s1 σ H1 _ I1 q1) fun vl s2 ⟨l, H2, I2, pl, q2⟩ => thn (hu pins s2 σ H2 _ I2 q2) fun vu s3 hh9 => ?_)
  obtain ⟨u, H3, I3, pu, q3⟩ := hh9
  rw [evalPart_none]
  refine wpAny_pure ?_
  have I4 : Inv X pins σ H3 { s3 with heap := s3.heap.push { cls := .type "slice", data := .fields #[vl, vu, .none] } } := I3.kept (t' := s3.toks) fun b ob q => Heap.get?_push_of_some _ q
  obtain ⟨T, id, hT, ht, hg⟩ := hr pins { s3 with heap := s3.heap.push { cls := .type "slice", data := .fields #[vl, vu, .none] } } σ H3 x v vl vu l u s3.heap.objs.size Q I4 r1 (Heap.IsSliceOf.new ..) pl pu q3
  show wpAny (model X.prog X.w) X.A (subscriptTail e (.Slice lo hi none p2) v (.ref s3.heap.objs.size)) (EP X pins σ Q) X.xe { s3 with heap := s3.heap.push { cls := .type "slice", data := .fields #[vl, vu, .none] } }
  exact tail_any (ops := [.ref s3.heap.objs.size, v]) ht hT hg (by with_unfolding_all rfl)


noncomputable def cutV (xs : List V) (lo hi : Option Int) : List V := (xs.drop (HT.sIx xs.length 0 lo)).take (HT.sIx xs.length xs.length hi - HT.sIx xs.length 0 lo)
theorem cutV_length (xs : List V) (lo hi : Option Int) : (cutV xs lo hi).length ≤ xs.length := by
  unfold cutV
  rw [List.length_take, List.length_drop]
  omega

end
end L2

namespace L2
open PySem PySem.Spec PyProof.Rows



noncomputable def ixN (n : Nat) (i : Int) : Option Nat := if 0 ≤ i then (if i < n then some i.toNat else none) else if -(n : Int) ≤ i then some (i + n).toNat else none
noncomputable def atI {α : Type} (xs : List α) (i : Int) : Option α := (ixN xs.length i).bind fun j => xs[j]?
theorem ixN_seq {n : Nat} {i : Int} {j : Nat} (h : ixN n i = some j) : seqIndex? i n = some j ∧ j < n ∧ -(n : Int) ≤ i ∧ i < n := by
  unfold ixN at h
  by_cases h0 : 0 ≤ i
  · rw [if_pos h0] at h
    by_cases h1 : i < n
    · rw [if_pos h1] at h
      have e : i.toNat = j := Option.some.inj h
      exact ⟨by rw [seqIndex_of h0 h1, e], by omega, by omega, h1⟩
    · rw [if_neg h1] at h; cases h
  · rw [if_neg h0] at h
    by_cases h1 : -(n : Int) ≤ i
    · rw [if_pos h1] at h
      have e : (i + n).toNat = j := Option.some.inj h
      exact ⟨by rw [seqIndex_neg (by omega) h1, e], by omega, h1, by omega⟩
    · rw [if_neg h1] at h; cases h
theorem atI_get {α : Type} {xs : List α} {i : Int} {v : α} (h : atI xs i = some v) : ∃ j, seqIndex? i xs.length = some j ∧ xs[j]? = some v ∧ j < xs.length ∧ -(xs.length : Int) ≤ i ∧ i < xs.length := by
  unfold atI at h
  cases e : ixN xs.length i with
  | none => rw [e] at h; cases h
  | some j =>
    rw [e] at h
    obtain ⟨h1, h2, h3, h4⟩ := ixN_seq e
    exact ⟨j, h1, h, h2, h3, h4⟩
theorem atI_nat {α : Type} {xs : List α} {j : Nat} {v : α} (h : xs[j]? = some v) : atI xs (j : Int) = some v := by
  have hj : j < xs.length := (List.getElem?_eq_some_iff.mp h).1
  have e : ixN xs.length (j : Int) = some j := by
    unfold ixN
    rw [if_pos (by omega), if_pos (by omega)]; simp
  unfold atI; rw [e]; exact h
theorem atI_last {α : Type} (xs : List α) (v : α) : atI (xs ++ [v]) (-1) = some v := by
  have hl : (xs ++ [v]).length = xs.length + 1 := by simp
  have e : ixN (xs ++ [v]).length (-1) = some xs.length := by
    unfold ixN
    rw [hl, if_neg (by decide), if_pos (by omega)]
    congr 1
    omega
  unfold atI
  rw [e]
  show (xs ++ [v])[xs.length]? = some v
  simp



noncomputable def PlainIx (b : Expr) : Prop := ∀ o i, subscripted b false o i = operate [o, i] (getItem o i)

noncomputable def IxR (X : Cx) (r : R2) : Prop :=
  ∀ (value slice : Expr) (pins : List (Addr × Obj)) (s : Shared) (σ : St) (H : Hp) (x y : V) (v u : Value) (Q : VK), Inv X pins σ H s → RelV x v → RelV y u → r x y H Q →
    subscripted slice false v u = operate [v, u] (getItem v u) → wpAny (model X.prog X.w) X.A (subscriptTail value slice v u) (EP X pins σ Q) X.xe s

noncomputable def MtR (X : Cx) (id : String) (r : V → List V → Hp → VK → Prop) : Prop :=
  ∀ (pins : List (Addr × Obj)) (s : Shared) (σ : St) (H : Hp) (x : V) (xs : List V) (v : Value) (us : List Value) (Q : VK), Inv X pins σ H s → RelV x v → Vals xs us → r x xs H Q →
    wpAny (model X.prog X.w) X.A (call (.builtin id) (v :: us)) (EP X pins σ Q) X.xe s
section
variable {X : Cx} {a b : Expr} {ta tb : TE} {pos : Pos}
theorem pe_ix {r : R2} (hr : IxR X r) (ha : PE X a ta) (hb : PE X b tb) (hs : PlainIx b) : PE X (.Subscript a b pos) (tOp r ta tb) := by
  intro pins s σ H Q I h
  exact Subscript_ (binT ha hb I h fun v u s2 x y H2 I2 rx ry q => hr a b pins s2 σ H2 x y v u Q I2 rx ry q (hs _ _))

noncomputable def rIxL (K : PySem.W.Frag) : R2 := fun x y H Q => ∃ p xs i v, x = .ref p ∧ y = .int i ∧ SqL K H p xs ∧ atI xs i = some v ∧ Q v H
noncomputable def rIxT (K : PySem.W.Frag) : R2 := fun x y H Q => ∃ p xs i v, x = .ref p ∧ y = .int i ∧ SqT K H p xs ∧ atI xs i = some v ∧ Q v H
noncomputable def rIxS : R2 := fun x y H Q => ∃ z i c, x = .str z ∧ y = .int i ∧ z.length ≤ sizeLine ∧ atI z.cps.toList i = some c ∧ Q (.str ⟨#[c]⟩) H
theorem ix_list : IxR X (rIxL X.K) := by
  intro value slice pins s σ H x y v u Q I rx ry h hs
  obtain ⟨p, xs, i, z, rfl, rfl, hq, he, q⟩ := h
  cases rx
  obtain ⟨t, rfl⟩ := ry
  obtain ⟨its, r, pl, hz⟩ := I.list hq
  obtain ⟨j, h1, h2, h3, h4, h5⟩ := atI_get he
  obtain ⟨w, ew, rw'⟩ := r.get h2
  have hl := r.length
  have hn := line63
  have fin : EP X pins σ Q w s := ⟨z, H, I, rw', q⟩
  by_cases h0 : 0 ≤ i
  · have hj : i.toNat = j := by
      rw [seqIndex_of h0 h5] at h1
      exact Option.some.inj h1
    exact item_listR pl.isList h0 (by omega) (by rw [hj]; simpa using ew) fin hs
  · have hj : (i + (its.toArray.size : Int)).toNat = j := by
      rw [seqIndex_neg (by omega) h4] at h1
      rw [List.size_toArray, ← hl]
      exact Option.some.inj h1
    exact subscriptTail_builtinR (x := w) pl.isList.typeIs slot_list_getitem.lookup
      (wpAny_getItem_list_neg (Q := fun r s' => r = w ∧ EP X pins σ Q r s') pl.isList (by omega) (by rw [List.size_toArray] <;> omega) (by omega) (by rw [hj]; simpa using ew) ⟨rfl, fin⟩) hs
theorem ix_tup : IxR X (rIxT X.K) := by
  intro value slice pins s σ H x y v u Q I rx ry h hs
  obtain ⟨p, xs, i, z, rfl, rfl, hq, he, q⟩ := h
  cases rx
  obtain ⟨t, rfl⟩ := ry
  obtain ⟨its, r, pl, hz⟩ := I.tuple hq
  obtain ⟨j, h1, h2, h3, h4, h5⟩ := atI_get he
  obtain ⟨w, ew, rw'⟩ := r.get h2
  have hl := r.length
  have hn := line63
  have fin : EP X pins σ Q w s := ⟨z, H, I, rw', q⟩
  exact subscriptTail_builtinR (x := w) pl.typeIs slot_tuple_getitem.lookup
    (getItem_tuple (j := j) (Q := fun r s' => r = w ∧ EP X pins σ Q r s') pl (by omega) (by omega) (by rw [List.size_toArray, ← hl]; exact h1) (by simpa using ew) ⟨rfl, fin⟩) hs
theorem ix_str : IxR X rIxS := by
  intro value slice pins s σ H x y v u Q I rx ry h hs
  obtain ⟨z, i, c, rfl, rfl, hz, he, q⟩ := h
  obtain ⟨t, rfl⟩ := rx
  obtain ⟨t', rfl⟩ := ry
  obtain ⟨j, h1, h2, h3, h4, h5⟩ := atI_get he
  have hl : z.cps.toList.length = z.length := by simp [Str.length]
  rw [hl] at h1 h4 h5
  have hn := line63
  exact tail_any (typeIs_str s z t) slot_str_getitem.lookup (getItem_str (c := c) (by
    have e1 : decide (i < -(2 ^ 63 : Int)) = false := decide_eq_false (by omega)
    have e2 : decide (i ≥ 2 ^ 63) = false := decide_eq_false (by omega)
    rw [e1, e2, Bool.or_false]) (by rw [h1]; simpa using h2) ⟨.str ⟨#[c]⟩, H, I.tok _, ⟨_, rfl⟩, q⟩) hs

theorem mapSeq_set (its : List Value) (n j : Nat) (u : Value) : Obj.mapSeq (·.setIfInBounds j u) { cls := .type "list", data := .seq its.toArray n } = { cls := .type "list", data := .seq (its.set j u).toArray n } := by
  simp [Obj.mapSeq]
theorem Inv.lst {pins : List (Addr × Obj)} {σ : St} {H : Hp} {s : Shared} {p : Addr} {xs : List V} (I : Inv X pins σ H s) (h : H p = some (.lst xs)) :
    ∃ (its : List Value) (n : Nat), Vals xs its ∧ s.heap.get? p = some { cls := .type "list", data := .seq its.toArray n } ∧ xs.length ≤ sizeLine := by
  obtain ⟨z, its, n, r, e⟩ := I.hok p _ h
  exact ⟨its, n, r, e, z⟩

theorem Inv.lstUpd {pins : List (Addr × Obj)} {σ : St} {H : Hp} {s : Shared} {p : Addr} {xs ys : List V} {its its' : List Value} {n n' : Nat} {f : Obj → Obj} (I : Inv X pins σ H s) (h : H p = some (.lst xs))
    (ho : s.heap.get? p = some { cls := .type "list", data := .seq its.toArray n }) (hf : f { cls := .type "list", data := .seq its.toArray n } = { cls := .type "list", data := .seq its'.toArray n' }) (r : Vals ys its') (hz : ys.length ≤ sizeLine) (t : Nat) :
    Inv X pins σ (upd H p (.lst ys)) { s with heap := s.heap.update p f, toks := t } := by
  have e : (s.heap.update p f).get? p = some { cls := .type "list", data := .seq its'.toArray n' } := by
    rw [Heap.get?_update_self f ho (by rw [hf] <;> rfl), hf]
  refine I.write (x := p) (e := p) (by rw [h]; trivial) (.inl rfl) (fun b u hb q => (Heap.get?_update_other _ _ (Ne.symm hb)).trans q) ⟨_, e⟩ ?_
  exact ⟨hz, its', n', r, e⟩
noncomputable def rSetL : V → V → V → Hp → (Hp → Prop) → Prop := fun o i v H Q => ∃ p xs k j, o = .ref p ∧ i = .int k ∧ H p = some (.lst xs) ∧ ixN xs.length k = some j ∧ Q (upd H p (.lst (xs.set j v)))
theorem set_list : PSet X rSetL := by
  intro pins s σ H o i v ov iv u Q I ro ri rv h
  obtain ⟨p, xs, k, j, rfl, rfl, hp, hj, q⟩ := h
  cases ro
  obtain ⟨t, rfl⟩ := ri
  obtain ⟨its, n, r, ho, hz⟩ := I.lst hp
  obtain ⟨h1, h2, h3, h4⟩ := ixN_seq hj
  have hl := r.length
  have hn := line63
  have I' : Inv X pins σ (upd H p (.lst (xs.set j v))) { s with heap := s.heap.update p (Obj.mapSeq (·.setIfInBounds j u)) } :=
    I.lstUpd hp ho (mapSeq_set its n j u) (r.set rv j) (by rw [List.length_set]; exact hz) s.toks
  by_cases h0 : 0 ≤ k
  · have hk : k.toNat = j := by
      rw [seqIndex_of h0 h4] at h1
      exact Option.some.inj h1
    exact PySem.W.ki_setAt ho h0 (by omega) (by rw [List.size_toArray, ← hl]; exact h4) (by rw [hk]; exact ⟨_, I', q⟩)
  · have hk : (k + (its.toArray.size : Int)).toNat = j := by
      rw [seqIndex_neg (by omega) h3] at h1
      rw [List.size_toArray, ← hl]
      exact Option.some.inj h1
    exact PySem.W.ki_setBack ho (by omega) (by rw [List.size_toArray, ← hl]; exact h3) (by omega) (by rw [hk]; exact ⟨_, I', q⟩)


theorem slice_bounds (lo hi : Option Int) (n : Nat) : (sliceBounds lo hi none n).1 = ((HT.sIx n 0 lo : Nat) : Int) ∧ (sliceBounds lo hi none n).2.1 = ((HT.sIx n n hi : Nat) : Int) ∧ (sliceBounds lo hi none n).2.2 = 1 := by
  refine ⟨?_, ?_, rfl⟩
  · cases lo with
    | none => simp [sliceBounds, HT.sIx]
    | some i =>
      simp only [sliceBounds, HT.sIx, Option.getD_none, show (1 : Int) > 0 by decide, if_true]
      by_cases h : i < 0
      · simp only [h, if_true] <;> omega
      · simp only [h, if_false] <;> omega
  · cases hi with
    | none => simp [sliceBounds, HT.sIx]
    | some i =>
      simp only [sliceBounds, HT.sIx, Option.getD_none, show (1 : Int) > 0 by decide, if_true]
      by_cases h : i < 0
      · simp only [h, if_true] <;> omega
      · simp only [h, if_false] <;> omega
theorem slicePick_cut (its : List Value) (lo hi : Option Int) : slicePick its.toArray lo hi none = ((its.drop (HT.sIx its.length 0 lo)).take (HT.sIx its.length its.length hi - HT.sIx its.length 0 lo)).toArray := by
  obtain ⟨h1, h2, h3⟩ := slice_bounds lo hi its.toArray.size
  unfold slicePick
  rw [h1, h2, h3]
  simp only [sliceRange_one, pick_run, List.size_toArray] <;> rfl

noncomputable def rSlL (K : PySem.W.Frag) : V → Option Int → Option Int → Hp → VK → Prop := fun x lo hi H Q => ∃ a xs, x = .ref a ∧ SqL K H a xs ∧ ∀ p, H p = none → Q (.ref p) (upd H p (.lst (cutV xs lo hi)))
theorem sl_list : SlR X (rSlL X.K) := by
  intro pins s σ H x v vl vu lo hi sl Q I rx hs pl pu h
  obtain ⟨a, xs, rfl, hx, q⟩ := h
  cases rx
  obtain ⟨its, r, ht, hz⟩ := I.list hx
  have hlen := r.length
  refine ⟨"list", _, slot_list_getitem.lookup, ht.isList.typeIs, ?_⟩
  refine wpAny_getItem_list_slice ht.isList hs pl pu .none (by simp) ?_ (by rw [List.size_toArray] <;> omega)
  rw [slicePick_cut, ← hlen]
  refine ⟨.ref s.heap.objs.size, _, I.laid (t' := s.toks) (o := .lst (cutV xs lo hi)) (fun b ob q => Heap.get?_push_of_some _ q) (Nat.le_refl _) ?_, rfl, q _ (I.hok.fresh (Nat.le_refl _))⟩
  exact ⟨Nat.le_trans (cutV_length xs lo hi) hz, _, 0, (r.drop (HT.sIx xs.length 0 lo)).take (HT.sIx xs.length xs.length hi - HT.sIx xs.length 0 lo), Heap.get?_push_size _ rfl⟩


noncomputable def flatV : V → Bool
  | .non => true
  | .bl _ => true
  | .int _ => true
  | .str _ => true
  | _ => false

noncomputable def eqV : V → V → Bool
  | .non, .non => true
  | .bl a, .bl b => a == b
  | .bl a, .int b => (if a then 1 else 0) == b
  | .int a, .bl b => a == (if b then 1 else 0)
  | .int a, .int b => a == b
  | .str a, .str b => a == b
  | _, _ => false
theorem eqAt_V {A : Around} {s : Shared} {y x : V} {u v : Value} (ry : RelV y u) (rx : RelV x v) (fy : flatV y = true) (fx : flatV x = true) : SeqAt.EqAt A s u v (eqV y x) := by
  cases y with
  | non =>
    cases ry
    cases x with
    | non => cases rx; exact SeqAt.EqAt.same _
    | bl b => cases rx; exact SeqAt.EqAt.none_bool b
    | int b => obtain ⟨t, rfl⟩ := rx; exact SeqAt.EqAt.none_int b t
    | str b => obtain ⟨t, rfl⟩ := rx; exact SeqAt.EqAt.none_str b t
    | _ => exact absurd (show false = true from fx) Bool.false_ne_true
  | bl a =>
    cases ry
    cases x with
    | non => cases rx; exact SeqAt.EqAt.bool_none a
    | bl b => cases rx; exact SeqAt.EqAt.bool_bool a b
    | int b => obtain ⟨t, rfl⟩ := rx; exact SeqAt.EqAt.bool_int a b t
    | str b => obtain ⟨t, rfl⟩ := rx; exact SeqAt.EqAt.bool_str a b t
    | _ => exact absurd (show false = true from fx) Bool.false_ne_true
  | int a =>
    obtain ⟨t', rfl⟩ := ry
    cases x with
    | non => cases rx; exact SeqAt.EqAt.int_none a t'
    | bl b => cases rx; exact SeqAt.EqAt.int_bool a t' b
    | int b => obtain ⟨t, rfl⟩ := rx; exact SeqAt.EqAt.int_int a t' b t
    | str b => obtain ⟨t, rfl⟩ := rx; exact SeqAt.EqAt.int_str a t' b t
    | _ => exact absurd (show false = true from fx) Bool.false_ne_true
  | str a =>
    obtain ⟨t', rfl⟩ := ry
    cases x with
    | non => cases rx; exact SeqAt.EqAt.str_none a t'
    | bl b => cases rx; exact SeqAt.EqAt.str_bool a t' b
    | int b => obtain ⟨t, rfl⟩ := rx; exact SeqAt.EqAt.str_int a t' b t
    | str b => obtain ⟨t, rfl⟩ := rx; exact SeqAt.EqAt.str_str a t' b t
    | _ => exact absurd (show false = true from fx) Bool.false_ne_true
  | _ => exact absurd (show false = true from fy) Bool.false_ne_true

noncomputable def eqU (x : V) (u : Value) : Bool := match u with
  | .none => eqV .non x
  | .bool b => eqV (.bl b) x
  | .int i _ => eqV (.int i) x
  | .str z _ => eqV (.str z) x
  | _ => false
theorem eqU_of {x y : V} {u : Value} (r : RelV y u) (f : flatV y = true) : eqU x u = eqV y x := by
  cases y with
  | non => cases r; rfl
  | bl b => cases r; rfl
  | int i => obtain ⟨t, rfl⟩ := r; rfl
  | str z => obtain ⟨t, rfl⟩ := r; rfl
  | _ => exact absurd (show false = true from f) Bool.false_ne_true
theorem any_eqU {x : V} {xs : List V} {us : List Value} (h : Vals xs us) (f : xs.all flatV = true) : us.any (eqU x) = xs.any fun y => eqV y x := by
  induction h with
  | nil => rfl
  | cons r t ih =>
    rw [List.all_cons, Bool.and_eq_true] at f
    rw [List.any_cons, List.any_cons, eqU_of r f.1, ih f.2]
theorem mem_eqAt {A : Around} {s : Shared} {x : V} {v : Value} (rx : RelV x v) (fx : flatV x = true) : ∀ {xs : List V} {us : List Value}, Vals xs us → xs.all flatV = true → ∀ u ∈ us, SeqAt.EqAt A s u v (eqU x u)
  | _, _, .nil, _ => fun u hu => by cases hu
  | y :: xs, u :: us, .cons r t, f => fun u' hu => by
    rw [List.all_cons, Bool.and_eq_true] at f
    rcases List.mem_cons.mp hu with rfl | hu
    · rw [eqU_of r f.1]; exact eqAt_V r rx f.1 fx
    · exact mem_eqAt rx fx t f.2 u' hu
noncomputable def inV (x : V) (xs : List V) : Bool := xs.any fun y => eqV y x

noncomputable def rIn (K : PySem.W.Frag) (neg : Bool) : R2 := fun x y H Q => ∃ p xs, y = .ref p ∧ (SqL K H p xs ∨ SqT K H p xs) ∧ flatV x = true ∧ xs.all flatV = true ∧ Q (.bl (if neg then !inV x xs else inV x xs)) H
theorem op_in_seq : OpR X (compareOp .In) (rIn X.K false) := by
  intro pins s σ H x y v u Q I rx ry h
  obtain ⟨p, xs, rfl, hq, fx, fs, q⟩ := h
  cases ry
  rcases hq with hq | hq
  · obtain ⟨its, r, pl, hz⟩ := I.list hq
    refine SeqAt.in_listAt (eqU x) pl.isList (fun w hw => mem_eqAt rx fx r fs w (by simpa using hw)) ⟨.bl _, H, I, rfl, ?_⟩
    rw [show its.toArray.any (eqU x) = its.any (eqU x) by simp, any_eqU r fs]
    exact q
  · obtain ⟨its, r, pl, hz⟩ := I.tuple hq
    refine SeqAt.in_tupleAt (eqU x) pl (fun w hw => mem_eqAt rx fx r fs w (by simpa using hw)) ⟨.bl _, H, I, rfl, ?_⟩
    rw [show its.toArray.any (eqU x) = its.any (eqU x) by simp, any_eqU r fs]
    exact q
theorem call_len_seq : CallR X (.builtin "len") (fun xs H Q => ∃ p ys, xs = [.ref p] ∧ (SqL X.K H p ys ∨ SqT X.K H p ys) ∧ Q (.int ys.length) H) := by
  intro pins s σ H xs us Q I r h
  obtain ⟨p, ys, rfl, hq, q⟩ := h
  obtain ⟨u, rfl, rx⟩ := vals1 r
  cases rx
  have hn := line63
  rcases hq with hq | hq
  · obtain ⟨its, r', pl, hz⟩ := I.list hq
    have hlen := r'.length
    exact Calls.call_len_list pl.isList (by simp only [List.size_toArray] <;> omega) ⟨.int ys.length, H, I.tok _, ⟨s.toks + 1, by rw [List.size_toArray, hlen]⟩, q⟩
  · obtain ⟨its, r', pl, hz⟩ := I.tuple hq
    have hlen := r'.length
    exact len_tuple pl (by simp only [List.size_toArray] <;> omega) ⟨.int ys.length, H, I.tok _, ⟨s.toks + 1, by rw [List.size_toArray, hlen]⟩, q⟩
theorem call_len_str : CallR X (.builtin "len") (fun xs H Q => ∃ z, xs = [.str z] ∧ z.length ≤ sizeLine ∧ Q (.int z.length) H) := by
  intro pins s σ H xs us Q I r h
  obtain ⟨z, rfl, hz, q⟩ := h
  obtain ⟨u, rfl, t, rfl⟩ := vals1 r
  have hn := line63
  exact len_str (by omega) ⟨.int z.length, H, I.tok _, ⟨_, rfl⟩, q⟩
theorem call_list_of : CallR X (.type "list") (fun xs H Q => ∃ p ys, xs = [.ref p] ∧ (SqL X.K H p ys ∨ SqT X.K H p ys) ∧ ∀ l, H l = none → Q (.ref l) (upd H l (.lst ys))) := by
  intro pins s σ H xs us Q I r h
  obtain ⟨p, ys, rfl, hq, q⟩ := h
  obtain ⟨u, rfl, rx⟩ := vals1 r
  cases rx
  have fin : ∀ (its : List Value), Vals ys its → ys.length ≤ sizeLine → ∀ (h' : Heap) (c' : Nat), (∀ b o', s.heap.get? b = some o' → h'.get? b = some o') →
      h'.get? s.heap.objs.size = some { cls := .type "list", dict := none, data := .seq its.toArray c', slots := #[] } → EP X pins σ Q (.ref s.heap.objs.size) { s with heap := h' } := fun its r' hz h' c' kp e =>
    ⟨.ref s.heap.objs.size, _, I.laid (t' := s.toks) kp (Nat.le_refl _) (show ObjOk X.prog X.w _ h' _ (.lst ys) from ⟨hz, its, c', r', e⟩), rfl, q _ (I.hok.fresh (Nat.le_refl _))⟩
  rcases hq with hq | hq
  · obtain ⟨its, r', pl, hz⟩ := I.list hq
    have hlen := r'.length
    obtain ⟨o, ho, hc, n, hd⟩ := pl.isList
    exact call_list_seq p (.inl rfl) ho hc hd (fun h' c' kp e => fin its r' hz h' c' kp e) (by simp only [List.size_toArray] <;> omega)
  · obtain ⟨its, r', pl, hz⟩ := I.tuple hq
    have hlen := r'.length
    obtain ⟨o, ho, hc, n, hd⟩ := pl
    exact call_list_seq p (.inr rfl) ho hc hd (fun h' c' kp e => fin its r' hz h' c' kp e) (by simp only [List.size_toArray] <;> omega)
noncomputable def tyV (K : PySem.W.Frag) (T : String) (x : V) (H : Hp) : Prop := match x with
  | .str _ => T = "str"
  | .int _ => T = "int"
  | .ref p => (T = "list" ∧ ∃ xs, SqL K H p xs) ∨ (T = "tuple" ∧ ∃ o, K.lookup p = some o ∧ o.cls = .type "tuple" ∧ o.dict = none) ∨
      (T = "dict" ∧ ((∃ kvs, H p = some (.dK kvs)) ∨ ∃ kvs, H p = some (.dT kvs))) ∨ (T = "set" ∧ ∃ S n, H p = some (.set S n))
  | _ => False
theorem tyV_is {pins : List (Addr × Obj)} {σ : St} {H : Hp} {s : Shared} {T : String} {x : V} {v : Value} (I : Inv X pins σ H s) (r : RelV x v) (ty : tyV X.K T x H) :
    s.TypeIs v T ∧ ∀ a, v = .ref a → ∃ ob, s.heap.get? a = some ob ∧ ob.dict = none := by
  cases x with
  | str z =>
    obtain ⟨t, rfl⟩ := r
    cases (show T = "str" from ty)
    exact ⟨typeIs_str s z t, fun _ e => nomatch e⟩
  | int i =>
    obtain ⟨t, rfl⟩ := r
    cases (show T = "int" from ty)
    exact ⟨typeIs_int s i t, fun _ e => nomatch e⟩
  | ref p =>
    cases r
    rcases ty with ⟨rfl, xs, hq⟩ | ⟨rfl, o, hk, hc, hd⟩ | ⟨rfl, hk⟩ | ⟨rfl, S, n, hk⟩
    · obtain ⟨its, _, pl, _⟩ := I.list hq
      refine ⟨pl.isList.typeIs, fun a e => ?_⟩
      cases e
      obtain ⟨o, n, e, c, hd, _⟩ := pl
      exact ⟨o, e, hd⟩
    · refine ⟨⟨o, I.kIn p o hk, hc⟩, fun a e => ?_⟩
      cases e
      exact ⟨o, I.kIn _ o hk, hd⟩
    · have z : ∃ o, s.heap.get? p = some o ∧ o.ExactDict := by
        rcases hk with ⟨kvs, hk⟩ | ⟨kvs, hk⟩
        · obtain ⟨_, _, _, _, o, _, _, e, ex, _⟩ := I.hok p _ hk
          exact ⟨o, e, ex⟩
        · obtain ⟨_, _, _, _, o, _, _, e, ex, _⟩ := I.hok p _ hk
          exact ⟨o, e, ex⟩
      obtain ⟨o, e, ex⟩ := z
      refine ⟨⟨o, e, ex.1⟩, fun a e2 => ?_⟩
      cases e2
      exact ⟨o, e, ex.2.1⟩
    · obtain ⟨o, _, _, _, e, ex, _⟩ := I.hok p _ hk
      refine ⟨⟨o, e, ex.1⟩, fun a e2 => ?_⟩
      cases e2
      exact ⟨o, e, ex.2.1⟩
  | _ => exact False.elim ty
noncomputable def tBM0 (K : PySem.W.Frag) (T : String) (r : V → List V → Hp → VK → Prop) (to : TE) : TE := fun σ H Q => to σ H fun x H1 => tyV K T x H1 ∧ r x [] H1 Q
noncomputable def tBM (K : PySem.W.Frag) (T : String) (r : V → List V → Hp → VK → Prop) (to : TE) (t : TA) : TE := fun σ H Q => to σ H fun x H1 => tyV K T x H1 ∧ t σ H1 fun xs H2 => r x xs H2 Q
variable {o e : Expr} {es : List Expr} {to : TE} {t : TA} {name : Str} {apos cpos : Pos} {T id : String} {r : V → List V → Hp → VK → Prop}
theorem pe_bm (pa : PlainAttrs T) (slot : Slot T name id) (hty : typeOf (.builtin id) = pure (.type "method_descriptor")) (hm : MtR X id r) (ho : PE X o to) (ha : PA X (e :: es) t)
    (hbase : attributeBase o name X.env (eval o X.env) = eval o X.env := by rfl)
    (hfew : ((backTo cpos (starEach (e :: es) X.env)).all (fun x => !x.1) && (backToKw cpos (keywordEach [] X.env)).all (fun x => x.1.isSome)
      && decide ((e :: es).length + ([] : List Keyword).length + (if ([] : List Keyword).isEmpty then 0 else 1) < 30)) = true := by rfl)
    (hline : (apos.endLine == cpos.line) = true := by rfl) (hs : starEach (e :: es) X.env = (false, eval e X.env) :: starEach es X.env := by rfl) (hplain : (backTo cpos (starEach es X.env)).any (·.1) = false := by rfl) :
    PE X (.Call (.Attribute o name apos) (e :: es) [] cpos) (tBM X.K T r to t) := by
  intro pins s σ H Q I h
  refine wpAny_Call_method_late hbase hfew hline rfl (thn (ho pins s σ H _ I h) fun v s1 hh9 => ?_)
  obtain ⟨x, H1, I1, r1, ty, q1⟩ := hh9
  obtain ⟨h1, h2⟩ := tyV_is I1 r1 ty
  refine ⟨T, id, pa, slot, hty, h1, h2, ?_⟩
  have hA := ha cpos pins s1 σ H1 _ I1 q1
  rw [hs] at hA ⊢
  refine Calls.callWith_builtin (by show (false || (backTo cpos (starEach es X.env)).any (·.1)) = false; rw [hplain] <;> rfl) (Calls.evalArgs_plain ?_)
  exact thn hA fun us s2 hh9 => by obtain ⟨vs, H2, I2, r2, q2⟩ := hh9; exact hm pins s2 σ H2 x vs v us Q I2 r1 r2 q2

end
end L2

namespace L2
open PySem PySem.Spec PyProof.Rows

noncomputable def MtM (X : Cx) (id : String) (r : V → List V → Hp → VK → Prop) : Prop :=
  ∀ (pins : List (Addr × Obj)) (s : Shared) (σ : St) (H : Hp) (x : V) (xs : List V) (v : Value) (us : List Value) (Q : VK), Inv X pins σ H s → RelV x v → Vals xs us → r x xs H Q →
    wpAny (model X.prog X.w) X.A (call (.builtin id) (v :: us)) (EP X pins σ Q) X.xe s


theorem Vals.one {x : V} {us : List Value} (h : Vals [x] us) : ∃ u, us = [u] ∧ RelV x u := by
  cases h with
  | cons r t =>
    cases t
    exact ⟨_, rfl, r⟩
theorem Vals.two {x y : V} {us : List Value} (h : Vals [x, y] us) : ∃ u v, us = [u, v] ∧ RelV x u ∧ RelV y v := by
  cases h with
  | cons r t =>
    obtain ⟨v, rfl, q⟩ := Vals.one t
    exact ⟨_, _, rfl, r, q⟩
theorem Vals.zero : ∀ {us : List Value}, Vals [] us → us = []
  | _, .nil => rfl
theorem Vals.dropLast {xs : List V} {us : List Value} (h : Vals xs us) : Vals xs.dropLast us.dropLast := by
  induction h with
  | nil => exact .nil
  | cons r t ih =>
    cases t with
    | nil => exact .nil
    | cons q t' => exact .cons r ih
theorem Vals.eraseIdx : ∀ {xs : List V} {us : List Value} (i : Nat), Vals xs us → Vals (xs.eraseIdx i) (us.eraseIdx i)
  | _, _, _, .nil => .nil
  | _, _, 0, .cons _ t => t
  | _, _, i + 1, .cons r t => .cons r (Vals.eraseIdx i t)
theorem len_erase {α : Type} : ∀ (l : List α) (i : Nat), (l.eraseIdx i).length ≤ l.length
  | [], _ => Nat.le_refl _
  | _ :: _, 0 => Nat.le_succ _
  | _ :: r, i + 1 => Nat.succ_le_succ (len_erase r i)
section
variable {X : Cx} {pins : List (Addr × Obj)} {σ : St} {H : Hp} {s : Shared} {l b : Addr} {xs ys zs : List V}


theorem Inv.lset {its its' : List Value} {n : Nat} {f : Array Value → Array Value} {t' : Nat} (I : Inv X pins σ H s) (hH : H l = some (.lst xs))
    (e : s.heap.get? l = some { cls := .type "list", data := .seq its.toArray n }) (hf : f its.toArray = its'.toArray) (hv : Vals ys its') (hz : ys.length ≤ sizeLine) :
    Inv X pins σ (upd H l (.lst ys)) { s with heap := s.heap.update l (Obj.mapSeq f), toks := t' } := by
  have q := PySem.IsL.update e f
  rw [hf] at q
  refine I.write (x := l) (e := l) (by rw [hH]; exact trivial) (.inl rfl) (fun b' u hb hu => (Heap.get?_update_other s.heap (Obj.mapSeq f) (Ne.symm hb)).trans hu) ⟨_, q⟩ ?_
  exact ⟨hz, its', _, hv, q⟩
theorem Inv.lnew {its : List Value} {t' : Nat} (I : Inv X pins σ H s) (hv : Vals ys its) (hz : ys.length ≤ sizeLine) :
    Inv X pins σ (upd H s.heap.objs.size (.lst ys)) { s with heap := s.heap.push { cls := .type "list", data := .seq its.toArray }, toks := t' } :=
  I.laid (fun _ _ q => Heap.get?_push_of_some _ q) (Nat.le_refl _) ⟨hz, its, 0, hv, Heap.get?_push_size _ rfl⟩
theorem Inv.fresh (I : Inv X pins σ H s) : H s.heap.objs.size = none := I.hok.fresh (Nat.le_refl _)
theorem Inv.lstM (I : Inv X pins σ H s) (hH : H l = some (.lst xs)) : xs.length ≤ sizeLine ∧ ∃ (its : List Value) (n : Nat), Vals xs its ∧ xs.length = its.length ∧ s.heap.get? l = some { cls := .type "list", data := .seq its.toArray n } := by
  obtain ⟨z, its, n, r, e⟩ := I.hok l _ hH
  exact ⟨z, its, n, r, r.length, e⟩

end

section
variable {X : Cx}


noncomputable def rAppend : V → List V → Hp → VK → Prop := fun x vs H Q => ∃ l xs y, x = .ref l ∧ vs = [y] ∧ H l = some (.lst xs) ∧ xs.length < sizeLine ∧ Q .non (upd H l (.lst (xs ++ [y])))
theorem mt_append : MtM X "list.append" rAppend := by
  intro pins s σ H x vs v us Q I rx rv h
  obtain ⟨l, xs, y, rfl, rfl, hH, hz, q⟩ := h
  cases rx
  obtain ⟨u, rfl, ru⟩ := rv.one
  obtain ⟨z, its, n, r, hl, e⟩ := I.lstM hH
  refine call_meets F.slot_list_append ⟨_, e, rfl⟩ F.entry_list_append (F.args_list_append_2 _ _) (PySem.list_append l its.toArray n u (by rw [List.size_toArray]; omega)) ⟨e, ?_⟩
  refine ⟨.non, _, I.lset (its' := its ++ [u]) hH e (by simp) (r.append (.cons ru .nil)) ?_, rfl, q⟩
  rw [List.length_append, List.length_singleton]
  omega

noncomputable def rPopAt : V → List V → Hp → VK → Prop := fun x vs H Q => ∃ l xs i k y, x = .ref l ∧ vs = [.int i] ∧ H l = some (.lst xs) ∧ -(2 ^ 63) ≤ i ∧ i < 2 ^ 63 ∧ seqIndex? i xs.length = some k ∧ xs[k]? = some y ∧ Q y (upd H l (.lst (xs.eraseIdx k)))
theorem mt_popAt : MtM X "list.pop" rPopAt := by
  intro pins s σ H x vs v us Q I rx rv h
  obtain ⟨l, xs, i, k, y, rfl, rfl, hH, h1, h2, hk, hy, q⟩ := h
  cases rx
  obtain ⟨u, rfl, ru⟩ := rv.one
  obtain ⟨t, rfl⟩ := ru
  obtain ⟨z, its, n, r, hl, e⟩ := I.lstM hH
  obtain ⟨w, hw, rw'⟩ := r.get hy
  refine call_meets F.slot_list_pop ⟨_, e, rfl⟩ F.entry_list_pop (F.args_list_pop_2 _ _)
    (MeetsSeq.list_pop_at l its.toArray n i t k w (fitsIndex_both h1 h2) (by rw [List.size_toArray, ← hl]; exact hk) (by rw [← Array.getElem?_toList]; exact hw) (by rw [List.size_toArray]; omega)) ⟨e, ?_⟩
  refine ⟨y, _, I.lset (its' := its.eraseIdx k) hH e ?_ (r.eraseIdx k) ?_, rw', q⟩
  · show its.toArray.eraseIdxIfInBounds k = (its.eraseIdx k).toArray
    rw [List.eraseIdxIfInBounds_toArray]
  · have := len_erase xs k
    omega

noncomputable def rCat : R2 := fun x y H Q => ∃ l b xs zs, x = .ref l ∧ y = .ref b ∧ H l = some (.lst xs) ∧ H b = some (.lst zs) ∧ xs.length + zs.length ≤ sizeLine ∧ ∀ p, H p = none → Q (.ref p) (upd H p (.lst (xs ++ zs)))
theorem op_cat : OpR X (binaryOp .Add) rCat := by
  intro pins s σ H x y v u Q I rx ry h
  obtain ⟨l, b, xs, zs, rfl, rfl, hH, hB, hz, q⟩ := h
  cases rx
  cases ry
  obtain ⟨z, its, n, r, hl, e⟩ := I.lstM hH
  obtain ⟨z2, its2, n2, r2, hl2, e2⟩ := I.lstM hB
  refine PySem.P.add_list e e2 ?_ (by rw [List.size_toArray, List.size_toArray]; omega)
  have ea : its.toArray ++ its2.toArray = (its ++ its2).toArray := by simp
  rw [ea]
  exact ⟨.ref _, _, I.lnew (t' := s.toks) (r.append r2) (by rw [List.length_append]; omega), rfl, q _ I.fresh⟩

end


section
variable {prog : Program} {w : World} {A : Around} {E : Value → Shared → Prop} {s : Shared}

end

section
variable {X : Cx}

end
end L2

namespace L2
open PySem PySem.Spec PyProof.Rows


section
variable {κ : Type} [DecidableEq κ]
noncomputable def valV (kvs : List (κ × V)) (k : κ) : Option V := (kvs.find? fun kv => decide (kv.1 = k)).map (·.2)

noncomputable def putK (kvs : List (κ × V)) (k : κ) (v : V) : List (κ × V) :=
  if (kvs.any fun kv => decide (kv.1 = k)) = true then kvs.map (fun kv => if kv.1 = k then (kv.1, v) else kv) else kvs ++ [(k, v)]
noncomputable def dropK (kvs : List (κ × V)) (k : κ) : List (κ × V) := kvs.filter fun kv => decide (kv.1 ≠ k)

theorem valV_pos {p : κ × V} {r : List (κ × V)} {k : κ} (e : p.1 = k) : valV (p :: r) k = some p.2 := by simp [valV, List.find?_cons, e]
theorem valV_neg {p : κ × V} {r : List (κ × V)} {k : κ} (e : ¬ p.1 = k) : valV (p :: r) k = valV r k := by simp [valV, List.find?_cons, e]
theorem valV_any (k : κ) : ∀ kvs : List (κ × V), (kvs.any fun kv => decide (kv.1 = k)) = (valV kvs k).isSome
  | [] => rfl
  | p :: r => by
    rw [List.any_cons]
    by_cases e : p.1 = k
    · simp only [valV_pos e, decide_eq_true e, Bool.true_or, Option.isSome_some]
    · rw [valV_neg e, decide_eq_false e, Bool.false_or]; exact valV_any k r
theorem length_putK (kvs : List (κ × V)) (k : κ) (v : V) : (putK kvs k v).length ≤ kvs.length + 1 := by
  unfold putK
  split
  · rw [List.length_map]; omega
  · rw [List.length_append, List.length_cons, List.length_nil]; omega
theorem RelO.isSome_eq {o : Option V} {u : Option Value} (r : RelO o u) : o.isSome = u.isSome := by
  cases o with
  | none => cases u with
    | none => rfl
    | some _ => exact (show False from r).elim
  | some _ => cases u with
    | none => exact (show False from r).elim
    | some _ => rfl
theorem RelO.getD {o : Option V} {u : Option Value} {d : V} {d' : Value} (r : RelO o u) (rd : RelV d d') : RelV (o.getD d) (u.getD d') := by
  cases o with
  | none => cases u with
    | none => exact rd
    | some _ => exact (show False from r).elim
  | some _ => cases u with
    | none => exact (show False from r).elim
    | some _ => exact r


theorem KV.val {kvs : List (κ × V)} {vs : List (κ × Value)} (r : KV kvs vs) (k : κ) : RelO (valV kvs k) (valueAt vs k) := by
  unfold KV at r
  induction r with
  | nil => exact True.intro
  | @cons p q ps qs h t ih =>
    obtain ⟨h1, h2⟩ := h
    by_cases e : p.1 = k
    · have e' : q.1 = k := h1.symm.trans e
      have b : valueAt (q :: qs) k = some q.2 := by simp [valueAt, List.find?_cons, e']
      rw [valV_pos e, b]; exact h2
    · have e' : ¬ q.1 = k := fun z => e (h1.trans z)
      have b : valueAt (q :: qs) k = valueAt qs k := by simp [valueAt, List.find?_cons, e']
      rw [valV_neg e, b]; exact ih
theorem KV.any {kvs : List (κ × V)} {vs : List (κ × Value)} (r : KV kvs vs) (k : κ) : (kvs.any fun kv => decide (kv.1 = k)) = vs.any fun kv => decide (kv.1 = k) := by
  unfold KV at r
  induction r with
  | nil => rfl
  | cons h t ih => rw [List.any_cons, List.any_cons, ih, h.1]
theorem KV.repl {kvs : List (κ × V)} {vs : List (κ × Value)} (r : KV kvs vs) (k : κ) {y : V} {u : Value} (ry : RelV y u) :
    KV (kvs.map fun kv => if kv.1 = k then (kv.1, y) else kv) (vs.map fun kv => if kv.1 = k then (kv.1, u) else kv) := by
  unfold KV at r ⊢
  induction r with
  | nil => exact .nil
  | @cons p q ps qs h t ih =>
    rw [List.map_cons, List.map_cons]
    refine .cons ?_ ih
    obtain ⟨h1, h2⟩ := h
    by_cases e : p.1 = k
    · rw [if_pos e, if_pos (h1.symm.trans e)]; exact ⟨h1, ry⟩
    · rw [if_neg e, if_neg (fun z => e (h1.trans z))]; exact ⟨h1, h2⟩
theorem KV.put {kvs : List (κ × V)} {vs : List (κ × Value)} (r : KV kvs vs) (k : κ) {y : V} {u : Value} (ry : RelV y u) : KV (putK kvs k y) (stored vs k u) := by
  unfold putK stored
  rw [r.any k]
  by_cases e : (vs.any fun kv => decide (kv.1 = k)) = true
  · rw [if_pos e, if_pos e]; exact r.repl k ry
  · rw [if_neg e, if_neg e]; exact Paired.snoc r ⟨rfl, ry⟩
theorem KV.drop {kvs : List (κ × V)} {vs : List (κ × Value)} (r : KV kvs vs) (k : κ) : KV (dropK kvs k) (without vs k) := by
  unfold KV at r ⊢
  unfold dropK without
  induction r with
  | nil => exact .nil
  | @cons p q ps qs h t ih =>
    obtain ⟨h1, h2⟩ := h
    rw [List.filter_cons, List.filter_cons]
    by_cases e : p.1 = k
    · have a : ¬ decide (p.1 ≠ k) = true := by simp [e]
      have b : ¬ decide (q.1 ≠ k) = true := by simp [h1.symm.trans e]
      rw [if_neg a, if_neg b]; exact ih
    · have e' : ¬ q.1 = k := fun z => e (h1.trans z)
      have a : decide (p.1 ≠ k) = true := by simp [e]
      have b : decide (q.1 ≠ k) = true := by simp [e']
      rw [if_pos a, if_pos b]; exact .cons ⟨h1, h2⟩ ih
theorem KV.length {kvs : List (κ × V)} {vs : List (κ × Value)} (r : KV kvs vs) : kvs.length = vs.length := Paired.length r
end



theorem kV_is {P : Program} {w : World} {k : Key} {u : Value} (r : RelV (kV k) u) : (mixKind P w).is k u = true := by
  cases k with
  | inl i => obtain ⟨t, e⟩ := (show ∃ t, u = Value.int i t from r); subst e; exact mixKind_int P w i t
  | inr x => obtain ⟨t, e⟩ := (show ∃ t, u = Value.str x t from r); subst e; exact mixKind_str P w x t
theorem items_are {P : Program} {w : World} : ∀ {ks : List Key} {us : List Value}, Vals (ks.map kV) us → ItemsAre (mixKind P w) ks us
  | [], _, r => by rw [List.map_nil] at r; cases r; exact .nil
  | k :: ks, _, r => by
    rw [List.map_cons] at r
    cases r with
    | cons h t => exact .cons (kV_is h) (items_are t)


noncomputable abbrev KT (H : Hp) : List (List Key × V) → List (List Key × Addr × Value) → Prop := Paired fun p q => p.1 = q.1 ∧ H q.2.1 = some (.tup (p.1.map kV)) ∧ RelV p.2 q.2.2
theorem KT.val {H : Hp} {kvs : List (List Key × V)} {xs : List (List Key × Addr × Value)} (r : KT H kvs xs) (k : List Key) : RelO (valV kvs k) ((atKey xs k).map (·.2)) := by
  induction r with
  | nil => exact True.intro
  | @cons p q ps qs h t ih =>
    obtain ⟨h1, _, h2⟩ := h
    by_cases e : p.1 = k
    · have e' : q.1 = k := h1.symm.trans e
      have b : atKey (q :: qs) k = some q.2 := by simp [atKey, List.find?_cons, e']
      rw [valV_pos e, b]; exact h2
    · have e' : ¬ q.1 = k := fun z => e (h1.trans z)
      have b : atKey (q :: qs) k = atKey qs k := by simp [atKey, List.find?_cons, e']
      rw [valV_neg e, b]; exact ih
theorem KT.repl {H : Hp} {kvs : List (List Key × V)} {xs : List (List Key × Addr × Value)} (r : KT H kvs xs) (k : List Key) {y : V} {u : Value} (ry : RelV y u) :
    KT H (kvs.map fun kv => if kv.1 = k then (kv.1, y) else kv) (xs.map (putAt k u)) := by
  induction r with
  | nil => exact .nil
  | @cons p q ps qs h t ih =>
    rw [List.map_cons, List.map_cons]
    refine .cons ?_ ih
    obtain ⟨h1, h2, h3⟩ := h
    unfold putAt
    by_cases e : p.1 = k
    · rw [if_pos e, if_pos (h1.symm.trans e)]; exact ⟨h1, h2, ry⟩
    · rw [if_neg e, if_neg (fun z => e (h1.trans z))]; exact ⟨h1, h2, h3⟩
theorem KT.put {H : Hp} {kvs : List (List Key × V)} {xs : List (List Key × Addr × Value)} (r : KT H kvs xs) (k : List Key) {b : Addr} {y : V} {u : Value} (hb : H b = some (.tup (k.map kV))) (ry : RelV y u) :
    KT H (putK kvs k y) (storedH xs k b u) := by
  have e : (kvs.any fun kv => decide (kv.1 = k)) = (atKey xs k).isSome := by
    rw [valV_any, (r.val k).isSome_eq, Option.isSome_map]
  unfold putK storedH
  rw [e]
  by_cases q : (atKey xs k).isSome = true
  · rw [if_pos q, if_pos q]; exact r.repl k ry
  · rw [if_neg q, if_neg q]; exact Paired.snoc r ⟨rfl, hb, ry⟩
theorem KT.keeps {H H' : Hp} {kvs : List (List Key × V)} {xs : List (List Key × Addr × Value)} (r : KT H kvs xs) (ht : ∀ b ys, H b = some (.tup ys) → H' b = some (.tup ys)) : KT H' kvs xs :=
  Paired.mapP r fun _ _ z => ⟨z.1, ht _ _ z.2.1, z.2.2⟩

section
variable {P : Program} {w : World} {H : Hp} {h : Heap} {a : Addr}
theorem rd_of {u : HO} (ok : HOk P w H h) (e : Rd H a u) : ObjOk P w H h a u := e.ok ok
theorem dk_rd {kvs : List (Key × V)} (ok : HOk P w H h) (e : Rd H a (.dK kvs)) : kvs.length ≤ sizeLine ∧ (a == sysModules) = false ∧ ∃ vs, KV kvs vs ∧ h.DictOf (mixKind P w) a vs :=
  show ObjOk P w H h a (.dK kvs) from rd_of ok e
theorem dk_of {kvs : List (Key × V)} (ok : HOk P w H h) (e : H a = some (.dK kvs)) : kvs.length ≤ sizeLine ∧ (a == sysModules) = false ∧ ∃ vs, KV kvs vs ∧ h.DictOf (mixKind P w) a vs := dk_rd ok (.inl e)

theorem key_of {ks : List Key} (ok : HOk P w H h) (e : H a = some (.tup (ks.map kV))) : (tupleKind (mixKind P w)).is h ks a := by
  obtain ⟨_, its, r, o, h1, h2, n, h3⟩ := (show ObjOk P w H h a (.tup (ks.map kV)) from ok a _ e)
  exact ⟨o, its.toArray, n, h1, h2, h3, by simpa using items_are r⟩
theorem dt_rd {kvs : List (List Key × V)} (ok : HOk P w H h) (e : Rd H a (.dT kvs)) : kvs.length ≤ sizeLine ∧ (a == sysModules) = false ∧
    ∃ xs, KT H kvs xs ∧ h.DictOfH (tupleKind (mixKind P w)) a xs := by
  obtain ⟨z, y, xs, r, o, es, ep, h1, h2, h3, h4, h5⟩ := (show ObjOk P w H h a (.dT kvs) from rd_of ok e)
  refine ⟨z, y, xs, r, o, es, ep, h1, h2, h3, h4, fun x hx => ?_, h5⟩
  have all : ∀ {l : List (List Key × V)} {m : List (List Key × Addr × Value)}, KT H l m → ∀ x ∈ m, (tupleKind (mixKind P w)).is h x.1 x.2.1 := by
    intro l m q
    induction q with
    | nil => intro x hx; exact nomatch hx
    | @cons p q ps qs hq t ih =>
      intro x hx
      rcases List.mem_cons.mp hx with e | hx
      · subst e
        exact key_of ok (by rw [← hq.1]; exact hq.2.1)
      · exact ih x hx
  exact all r x hx
theorem dt_of {kvs : List (List Key × V)} (ok : HOk P w H h) (e : H a = some (.dT kvs)) : kvs.length ≤ sizeLine ∧ (a == sysModules) = false ∧
    ∃ xs, KT H kvs xs ∧ h.DictOfH (tupleKind (mixKind P w)) a xs := dt_rd ok (.inl e)
end


noncomputable def DGet (H : Hp) (a : Addr) (y : V) (r : Option V) : Prop :=
  (∃ kvs k, Rd H a (.dK kvs) ∧ y = kV k ∧ r = valV kvs k) ∨ ∃ kvs k b, Rd H a (.dT kvs) ∧ y = .ref b ∧ H b = some (.tup (k.map kV)) ∧ r = valV kvs k

noncomputable def DPut (H : Hp) (a : Addr) (y v : V) (H' : Hp) : Prop :=
  (∃ kvs k, H a = some (.dK kvs) ∧ y = kV k ∧ kvs.length < sizeLine ∧ H' = upd H a (.dK (putK kvs k v))) ∨
  ∃ kvs k b, H a = some (.dT kvs) ∧ y = .ref b ∧ H b = some (.tup (k.map kV)) ∧ kvs.length < sizeLine ∧ H' = upd H a (.dT (putK kvs k v))
theorem DGet.k {H : Hp} {a : Addr} {kvs : List (Key × V)} {k : Key} (e : H a = some (.dK kvs)) : DGet H a (kV k) (valV kvs k) := .inl ⟨kvs, k, .inl e, rfl, rfl⟩
theorem DGet.t {H : Hp} {a b : Addr} {kvs : List (List Key × V)} {k : List Key} (e : H a = some (.dT kvs)) (eb : H b = some (.tup (k.map kV))) : DGet H a (.ref b) (valV kvs k) := .inr ⟨kvs, k, b, .inl e, rfl, eb, rfl⟩
theorem DPut.k {H : Hp} {a : Addr} {kvs : List (Key × V)} {k : Key} {v : V} (e : H a = some (.dK kvs)) (hl : kvs.length < sizeLine) : DPut H a (kV k) v (upd H a (.dK (putK kvs k v))) := .inl ⟨kvs, k, e, rfl, hl, rfl⟩
theorem DPut.t {H : Hp} {a b : Addr} {kvs : List (List Key × V)} {k : List Key} {v : V} (e : H a = some (.dT kvs)) (eb : H b = some (.tup (k.map kV))) (hl : kvs.length < sizeLine) :
    DPut H a (.ref b) v (upd H a (.dT (putK kvs k v))) := .inr ⟨kvs, k, b, e, rfl, eb, hl, rfl⟩


section
variable {X : Cx} {pins : List (Addr × Obj)} {σ : St} {H : Hp} {s : Shared} {a : Addr} {y v : V} {u r : Value} {o : Option V} {A : Around} {E : Value → Shared → Prop}

theorem Inv.big (I : Inv X pins σ H s) : sysModules < s.heap.objs.size := by
  have h : mainGlobals < s.heap.objs.size := (I.mod.glob.keeps I.bk).lt
  exact Nat.lt_trans (by decide) h


theorem d_getItem {Q : Value → Shared → Prop} (hu : A.units + 1 < cLine) (I : Inv X pins σ H s) (g : DGet H a y (some v)) (ry : RelV y u) (h : ∀ w' s', Inv X pins σ H s' → RelV v w' → Q w' s') :
    wpAny (model X.prog X.w) A (getItem (.ref a) u) Q E s := by
  rcases g with ⟨kvs, k, e, ey, l⟩ | ⟨kvs, k, b, e, ey, eb, l⟩
  · subst ey
    obtain ⟨z, hd, vs, rel, dd⟩ := dk_rd I.hok e
    obtain ⟨w', hw, rw'⟩ := RelO.some_of (v := v) (o := valueAt vs k) (by rw [l]; exact rel.val k)
    exact wpAny_getItem_of (kV_is ry) dd.mapOf hw (h w' _ (I.tok _) rw')
  · subst ey
    cases (show u = Value.ref b from ry)
    obtain ⟨z, hd, xs, rel, dd⟩ := dt_rd I.hok e
    obtain ⟨w', hw, rw'⟩ := RelO.some_of (v := v) (o := (atKey xs k).map (·.2)) (by rw [l]; exact rel.val k)
    obtain ⟨p, hp, hp2⟩ := Option.map_eq_some_iff.mp hw
    refine wpAny_getItem_heap (tupleKind_room_in1 hu) (key_of I.hok eb) dd hp ?_
    rw [hp2]
    exact h w' _ (I.tok _) rw'

theorem d_write {h' : Heap} {t' : Nat} {ob : HO} (I : Inv X pins σ H s) (mu : Mut (H a)) (hs : Heap.SameBut a s.heap h') (he : ∃ q, h'.get? a = some q) (new : ObjOk X.prog X.w (upd H a ob) h' a ob) :
    Inv X pins σ (upd H a ob) { s with heap := h', toks := t' } :=
  I.write (x := a) (e := a) mu (.inl rfl) (fun b q hb z => (hs.2 b hb).trans z) he new
theorem dk_new {P : Program} {w : World} {H' : Hp} {h' : Heap} {kvs : List (Key × V)} {vs : List (Key × Value)} (z : kvs.length ≤ sizeLine) (hd : (a == sysModules) = false) (rel : KV kvs vs) (dd : h'.DictOf (mixKind P w) a vs) :
    ObjOk P w H' h' a (.dK kvs) := ⟨z, hd, vs, rel, dd⟩

theorem d_setItem {H' : Hp} {Q : Unit → Shared → Prop} (hu : A.units + 1 < cLine) (I : Inv X pins σ H s) (g : DPut H a y v H') (ry : RelV y u) (rv : RelV v r) (h : ∀ s', Inv X pins σ H' s' → Q () s') :
    wpAny (model X.prog X.w) A (setItem (.ref a) u r) Q E s := by
  rcases g with ⟨kvs, k, e, ey, l, eH⟩ | ⟨kvs, k, b, e, ey, eb, l, eH⟩
  · subst ey eH
    obtain ⟨z, hd, vs, rel, dd⟩ := dk_of I.hok e
    have hz : vs.length ≤ sizeLine := by rw [← rel.length]; exact z
    have hl : (putK kvs k v).length ≤ sizeLine := by have := length_putK kvs k v; omega
    refine wpAny_setItem_pairs (hsz := hz) (kV_is ry) dd fun h' dd' hs => h _ ?_
    have he : ∃ q, h'.get? a = some q := let ⟨q, _, _, hq, _⟩ := dd'; ⟨q, hq⟩
    exact d_write I (by rw [e]; exact True.intro) hs he (dk_new hl hd (rel.put k rv) dd')
  · subst ey eH
    cases (show u = Value.ref b from ry)
    obtain ⟨z, hd, xs, rel, dd⟩ := dt_of I.hok e
    have hz : xs.length ≤ sizeLine := by rw [← Paired.length rel]; exact z
    have hl : (putK kvs k v).length ≤ sizeLine := by have := length_putK kvs k v; omega
    refine wpAny_setItem_heap (hsz := hz) (tupleKind_room_in1 hu) (key_of I.hok eb) dd fun h' dd' hs => h _ ?_
    obtain ⟨q, es, ep, hq, h2, h3, h4, _, h5⟩ := dd'
    refine d_write I (by rw [e]; exact True.intro) hs ⟨q, hq⟩ ⟨hl, hd, _, (rel.put k eb rv).keeps fun c ys ec => ?_, q, es, ep, hq, h2, h3, h4, h5⟩
    rw [upd_ne (ne_of ec e (fun z => nomatch z))]
    exact ec
end

section
variable {X : Cx} {pins : List (Addr × Obj)} {σ : St} {H : Hp} {s : Shared} {a : Addr} {kvs : List (Key × V)} {k : Key} {u : Value} {A : Around} {E : Value → Shared → Prop}

end




noncomputable def NoSl (i : Expr) : Prop := ∀ ov iv, subscripted i false ov iv = operate [ov, iv] (getItem ov iv)
theorem subD_of {prog : Program} {w : World} {A : Around} {E : Value → Shared → Prop} {s : Shared} {env : Env} {value slice : Expr} {pos : Pos} {T id : String} {Q : Value → Shared → Prop}
    (hl : typeLookup (.type T) "__getitem__" = pure (some (.builtin id))) (hs : NoSl slice)
    (h : wpAny (model prog w) A (eval value env) (fun o s₁ => wpAny (model prog w) A (eval slice env) (fun i s₂ => s₂.TypeIs o T ∧ wpAny (model prog w) A (getItem o i) Q E s₂) E s₁) E s) :
    wpAny (model prog w) A (eval (.Subscript value slice pos) env) Q E s := by
  refine Subscript_ (wpAny_mono h (fun o s₁ h₁ => wpAny_mono h₁ (fun i s₂ h₂ => ?_) fun _ _ x => x) fun _ _ x => x)
  obtain ⟨hT, h₂⟩ := h₂
  unfold subscriptTail
  refine wpAny_bind ?_
  rw [getitemInPython_of_ne hT.not_modules]
  refine wpAny_bind (wpAny_specialOf hT hl ?_)
  have fin : wpAny (model prog w) A (subscripted slice false o i) (fun r s₃ => wpAny (model prog w) A (letTemporaryGo value o r >>= fun _ => pure r) Q E s₃) E s₂ := by
    rw [hs o i]
    exact wpAny_operating (wpAny_mono h₂ (fun r s₃ h₃ => wpAny_bind (wpAny_letTemporaryGo (wpAny_pure h₃))) fun _ _ x => x)
  first
    | exact wpAny_pure (wpAny_bind fin)
    | exact wpAny_bind (wpAny_pure (wpAny_bind fin))
    | exact wpAny_bind fin

theorem dict_typeIs {X : Cx} {pins : List (Addr × Obj)} {σ : St} {H : Hp} {s : Shared} {a : Addr} {y : V} {o : Option V} (I : Inv X pins σ H s) (g : DGet H a y o) : s.TypeIs (.ref a) "dict" := by
  rcases g with ⟨kvs, k, e, _, _⟩ | ⟨kvs, k, b, e, _, _, _⟩
  · obtain ⟨_, _, vs, _, dd⟩ := dk_rd I.hok e
    exact dd.typeIs
  · obtain ⟨_, _, xs, _, dd⟩ := dt_rd I.hok e
    exact dd.typeIs
noncomputable def tDGet (td ty : TE) : TE := fun σ H Q => td σ H fun x H1 => ty σ H1 fun y H2 => ∃ a v, x = .ref a ∧ DGet H2 a y (some v) ∧ Q v H2

noncomputable def tDIn (ty td : TE) : TE := fun σ H Q => ty σ H fun y H1 => td σ H1 fun x H2 => ∃ a o, x = .ref a ∧ DGet H2 a y o ∧ Q (.bl o.isSome) H2
noncomputable def tDNotIn (ty td : TE) : TE := fun σ H Q => ty σ H fun y H1 => td σ H1 fun x H2 => ∃ a o, x = .ref a ∧ DGet H2 a y o ∧ Q (.bl (!o.isSome)) H2

noncomputable def sDPut (td ty tv : TE) : TS := fun D σ H => tv σ H fun v H1 => td σ H1 fun x H2 => ty σ H2 fun y H3 => ∃ a H4, x = .ref a ∧ DPut H3 a y v H4 ∧ D.nx σ H4

section
variable {X : Cx} {o i e value : Expr} {pos pos' tpos : Pos} {td ty tv : TE}
theorem pe_dget (hu : X.A.units + 1 < cLine) (ho : PE X o td) (hi : PE X i ty) (hs : NoSl i) : PE X (.Subscript o i pos) (tDGet td ty) := by
  intro pins s σ H Q I h
  refine subD_of PySem.F.slot_dict_getitem.lookup hs (thn (ho pins s σ H _ I h) fun u s1 ⟨x, H1, I1, rx, q1⟩ => thn (hi pins s1 σ H1 _ I1 q1) fun iv s2 hh9 => ?_)
  obtain ⟨y, H2, I2, ry, a, v, ex, g, q2⟩ := hh9
  subst ex
  obtain rfl : u = Value.ref a := rx
  exact ⟨dict_typeIs I2 g, d_getItem hu I2 g ry fun w' s3 I3 rw' => ⟨v, H2, I3, rw', q2⟩⟩
theorem ps_dput (hu : X.A.units + 1 < cLine) (ho : PE X o td) (hi : PE X i ty) (hv : PE X value tv) (hs : swapsWith value (some (.Subscript o i pos')) pos.line X.env = pure false) :
    PS X (.Assign [.Subscript o i pos'] value pos) (sDPut td ty tv) := by
  intro pins s σ H D I h
  refine wpAny_Assign_Subscript (thn (hv pins s σ H _ I h) fun r s1 ⟨v, H1, I1, rv, q1⟩ => thn (ho pins s1 σ H1 _ I1 q1) fun u s2 ⟨x, H2, I2, rx, q2⟩ => thn (hi pins s2 σ H2 _ I2 q2) fun iv s3 hh9 => ?_) hs
  obtain ⟨y, H3, I3, ry, a, H4, ex, g, q3⟩ := hh9
  subst ex
  obtain rfl : u = Value.ref a := rx
  exact d_setItem hu I3 g ry rv fun s4 I4 => ⟨σ, H4, I4, q3⟩
end



theorem dt_empty {P : Program} {w : World} {H : Hp} (h : Heap) (hb : sysModules < h.objs.size) : ObjOk P w H (h.push { cls := .type "dict", data := .dict #[] }) h.objs.size (.dT []) :=
  ⟨Nat.zero_le _, beq_eq_false_iff_ne.mpr (Ne.symm (Nat.ne_of_lt hb)), [], .nil, _, #[], 0, Heap.get?_push_size _ rfl, ⟨rfl, rfl, rfl⟩, rfl, rfl, List.nodup_nil⟩

noncomputable def tDNewT : TE := fun _ H Q => ∀ p, H p = none → Q (.ref p) (upd H p (.dT []))
section
variable {X : Cx} {pos : Pos}
theorem pe_dnewT : PE X (.Dict [] [] pos) tDNewT := fun pins s σ H Q I h =>
  wpAny_Dict_empty ⟨.ref s.heap.objs.size, _, I.laid (a := s.heap.objs.size) (o := .dT []) (t' := s.toks) (fun _ _ q => Heap.get?_push_of_some _ q) (Nat.le_refl _) (dt_empty s.heap I.big), rfl, h _ (I.hok.fresh (Nat.le_refl _))⟩
end


noncomputable def tPairs : List (TE × TE) → St → Hp → (List (V × V) → Hp → Prop) → Prop
  | [], _, H, Q => Q [] H
  | (tk, tv) :: r, σ, H, Q => tk σ H fun x H1 => tv σ H1 fun y H2 => tPairs r σ H2 fun ps H3 => Q ((x, y) :: ps) H3
noncomputable def mergeK (kvs more : List (Key × V)) : List (Key × V) := more.foldl (fun acc kv => putK acc kv.1 kv.2) kvs
noncomputable def tDisp (trs : List (TE × TE)) : TE := fun σ H Q => ∀ p, H p = none → tPairs trs σ (upd H p (.dK [])) fun ps H2 => H2 p = some (.dK []) ∧ ∃ kvs : List (Key × V), ps = kvs.map (fun kv => (kV kv.1, kv.2)) ∧ kvs.length ≤ 15 ∧ Q (.ref p) (upd H2 p (.dK (mergeK [] kvs)))
structure M1 (X : Cx) (o : Expr) (m : Str) (apos : Pos) (e : Expr) (cpos : Pos) : Prop where
  base : attributeBase o m X.env (eval o X.env) = eval o X.env
  few : ((backTo cpos (starEach [e] X.env)).all (fun x => !x.1) && (backToKw cpos (keywordEach [] X.env)).all (fun x => x.1.isSome)
    && decide (([e] : List Expr).length + ([] : List Keyword).length + (if ([] : List Keyword).isEmpty then 0 else 1) < 30)) = true
  line : (apos.endLine == cpos.line) = true
  trees : backTo cpos (starEach [e] X.env) = [(false, eval e X.env)]
structure M2 (X : Cx) (o : Expr) (m : Str) (apos : Pos) (e f : Expr) (cpos : Pos) : Prop where
  base : attributeBase o m X.env (eval o X.env) = eval o X.env
  few : ((backTo cpos (starEach [e, f] X.env)).all (fun x => !x.1) && (backToKw cpos (keywordEach [] X.env)).all (fun x => x.1.isSome)
    && decide (([e, f] : List Expr).length + ([] : List Keyword).length + (if ([] : List Keyword).isEmpty then 0 else 1) < 30)) = true
  line : (apos.endLine == cpos.line) = true
  trees : backTo cpos (starEach [e, f] X.env) = [(false, eval e X.env), (false, eval f X.env)]


noncomputable def IsD (H : Hp) (a : Addr) : Prop := (∃ kvs, Rd H a (.dK kvs)) ∨ ∃ kvs, Rd H a (.dT kvs)
section
variable {X : Cx} {pins : List (Addr × Obj)} {σ : St} {H : Hp} {s : Shared} {a : Addr} {y d : V} {u r : Value} {o : Option V} {A : Around} {E : Value → Shared → Prop}

end

noncomputable def tDGet1 (td ty : TE) : TE := fun σ H Q => td σ H fun x H1 => ∃ a, x = .ref a ∧ IsD H1 a ∧ ty σ H1 fun y H2 => ∃ o, DGet H2 a y o ∧ Q (o.getD .non) H2
section
variable {X : Cx} {o e f : Expr} {apos cpos : Pos} {td ty tx : TE}
end


section
variable {X : Cx} {pins : List (Addr × Obj)} {σ : St} {H : Hp} {s : Shared} {a : Addr} {kvs : List (Key × V)} {A : Around} {E : Value → Shared → Prop}
end


section
variable {X : Cx} {pins : List (Addr × Obj)} {σ : St} {H : Hp} {s : Shared} {a : Addr} {y : V} {u : Value} {A : Around} {E : Value → Shared → Prop}

end
end L2

namespace Att
open PySem PySem.W PySem.Calls PyProof.Rows


theorem ints_of_wellAll {P : Params} {h : Heap} : ∀ (ns : List Int) (vs : List Value), WellAll P h vs (ns.map WData.int) → IntsAre vs ns := by
  intro ns
  induction ns with
  | nil =>
    intro vs w
    rw [List.map_nil] at w
    cases w
    exact .nil
  | cons n ns ih =>
    intro vs w
    rw [List.map_cons] at w
    cases w with
    | cons a b =>
      cases a
      exact .cons _ _ (ih _ b)

theorem script_of {l : OpenLaw} {n : Nat} (hn : l.most = some n) {P : Params} {h : Heap} {args : List WData} {vals : List Value}
    (hpre : l.row.toRowW.claim.pre args = true) (hwl : WellAll P h vals args) :
    ∃ a vs ns, vals = [Value.ref a] ∧ args = [WData.list (ns.map WData.int)] ∧ h.get? a = some { cls := .type "list", data := .seq vs.toArray } ∧ IntsAre vs ns ∧ ns.length ≤ n := by
  have hsh : WShape.hasAll [] args [.list .int] = true := (pre_splitW hpre).1
  have hc : l.pre.holds [] { args := args } = true := (pre_splitW hpre).2
  obtain ⟨d, r, rfl, h1, h2⟩ := hasAllW_cons hsh
  obtain rfl := hasAllW_nil h2
  obtain ⟨xs, rfl, h3⟩ := hasW_list h1
  obtain ⟨ns, rfl⟩ := items_int h3
  have hlen : ns.length ≤ n := by
    unfold OpenLaw.pre at hc
    have h4 : (WTm.not (.lt (.lit (.int (n : Int))) (.len (.arg 0)))).holds [] { args := [.list (ns.map .int)] } = true := by
      have h4 := (holds_andW hc).1
      rw [hn] at h4
      exact h4
    have h5 := condW_of h4 (w_not (w_lt w_lit (w_len_list (w_arg rfl))))
    rw [List.length_map] at h5
    refine Nat.le_of_not_lt fun q => ?_
    have q' : (n : Int) < ((ns.length : Nat) : Int) := by omega
    first
      | (rw [decide_eq_true q'] at h5; exact absurd h5 (by decide))
      | (simp at h5; omega)
  cases hwl with
  | cons w1 w2 =>
    cases w2
    cases w1 with
    | list ho hall => exact ⟨_, _, ns, rfl, rfl, ho, ints_of_wellAll ns _ hall, hlen⟩

theorem post_true (l : OpenLaw) (args : List WData) : l.row.toRowW.claim.post args (.bool true) args = true :=
  postW_of (r := l.row.toRowW) (X := (true == true))
    (show WShape.has [] (.bool true) .bool = true by first | rfl | decide | simp [WShape.has, WShape.arms, WShape.armsAll])
    (show (WTm.eq .res (.lit (.bool true))).value [] { args := args, res := some (.bool true), after := args } = some (.bool (true == true)) from w_eq_bool (w_res rfl) w_lit) rfl


theorem attach_call {l : OpenLaw} {n : Nat} {q : Program} {loose : List Str} {XP : (Str → Option Value) → Heap → Prop} {YP : World → Heap → Prop} {d : DefRec}
    (hn : l.most = some n) (hdf : d.params.defaults = [])
    (call : ∀ (w : World) (s₀ s₁ : Shared) (mg mb : Str → Option Value) (fa : Addr) (o : Obj) (pm cd doc : Value) (a : Addr) (vs : List Value) (ns : List Int),
      Ground q loose [] XP w s₀ mg mb s₁.heap → YP w s₁.heap →
      s₁.heap.get? fa = some o → o.data = .func (docDef d.name d.params d.body d.scope pm cd doc) → s₁.heap.CodeRec cd d.name → mg d.name = some (.ref fa) →
      s₁.heap.get? a = some { cls := .type "list", data := .seq vs.toArray } → IntsAre vs ns → ns.length ≤ n → s₁.gens = #[] →
      codeAny (model l.prog w) callerA (.call (.ref fa) ⟨[.ref a], []⟩) (fun r s' => r = .ok (.ret (.bool true)) ∧ OldK s₁.heap s'.heap ∧ s'.os = s₁.os ∧ AllBare s'.gens) s₁) :
    WalkO q loose XP YP l.row.toRowW d [] (fun f vs => PySem.call f vs) := by
  intro w s₀ s₁ mg mb G Y fa o pm cd doc dV kV ho hd hcd hD hmg hg args vals as hpre hlay hrd hwl hlo
  obtain rfl : dV = .none := Dflts.none hD hdf
  obtain rfl : kV = .none := Dflts.noKw hD
  obtain ⟨a, vs, ns, rfl, rfl, hobj, hints, hlen⟩ := script_of hn hpre hwl
  refine enter_call (codeAny_mono (call w s₀ s₁ mg mb fa o pm cd doc a vs ns G Y ho (fd_plain hd) hcd hmg hobj hints hlen hg) fun r s' hq => ?_)
  obtain ⟨rfl, h2, h3, h4⟩ := hq
  exact ⟨.inl ⟨.bool true, .bool true, [], rfl, fun _ => rfl, .bool true, post_true l _, fun _ => ⟨List.Pairwise.nil, fun _ hm => (nomatch hm)⟩⟩, h2, h3, h4⟩


section
variable {prog : Program} {w : World} {A : Around} {E : Value → Shared → Prop} {s : Shared} {K : Frag}


end
end Att

namespace L2
open PySem PySem.Spec PyProof.Rows

theorem vals_ints : ∀ {vs : List Value} {ns : List Int}, IntsAre vs ns → Vals (ns.map V.int) vs
  | _, _, .nil => .nil
  | _, _, .cons n t h => .cons ⟨t, rfl⟩ (vals_ints h)


noncomputable def Only (H : Hp) : Prop := ∀ b, H b = none ∨ ∃ o xs, H b = some (.frz o (.lst xs))


theorem law_call {P : Program} {w : World} {K : PySem.W.Frag} {mg mb : Str → Option Value} {CX : CXT} {k : Nat} {fa a : Addr} {fd : FuncData} {x : Str} {sp : Sp} {s₁ : Shared} {vs : List Value} {ns : List Int}
    (KX : K.In s₁.heap) (hns : s₁.heap.Ns mainGlobals mg) (hb : s₁.heap.Ns builtinsNs mb) (hbb : ∀ x : Str, x ≠ "__name__" → mb x = bootBuiltins x) (hlim : s₁.heap.NoLimit) (hg : s₁.gens = #[])
    (ha : s₁.heap.get? a = some { cls := .type "list", data := .seq vs.toArray }) (hi : IntsAre vs ns) (hl : ns.length ≤ sizeLine) (hr : Room k callerA)
    (F : ∀ base : Heap, K.In base → base.Ns mainGlobals mg → FnOk P w K mg base CX k fa fd [x] sp) (hbind : ∀ (s : Shared) (u : Value), BindsTo s fd ⟨[u], []⟩ [(x, u)])
    (hsp : ∀ H : Hp, Only H → SqL K H a (ns.map V.int) → sp [.ref a] H (fun v _ => v = .bl true) fun _ _ _ => False)
    (hCX : ∀ H e s', CX [] H s₁ (fun _ _ _ => False) e s' → False) :
    codeAny (model P w) callerA (.call (.ref fa) ⟨[.ref a], []⟩) (fun r s' => r = .ok (.ret (.bool true)) ∧ OldK s₁.heap s'.heap ∧ s'.os = s₁.os ∧ AllBare s'.gens) s₁ := by
  have rv := vals_ints hi
  have lenV := hi.length
  -- from an abstract heap in which nothing but the script may be tracked
  have core : ∀ H : Hp, Only H → SqL K H a (ns.map V.int) → HOk P w H s₁.heap → (∀ b, H b ≠ none → b = a) → (H a ≠ none → K.lookup a = none) →
      codeAny (model P w) callerA (.call (.ref fa) ⟨[.ref a], []⟩) (fun r s' => r = .ok (.ret (.bool true)) ∧ OldK s₁.heap s'.heap ∧ s'.os = s₁.os ∧ AllBare s'.gens) s₁ := by
    intro H hO hS hok hA hK
    have base_of : ∀ {b : Addr} {o : Obj}, s₁.heap.get? b = some o → H b = none → (hidT s₁.heap H).get? b = some o := fun e n => hidT_get e n
    have noA : ∀ {b : Addr} {o : Obj} {es : Array DictEntry} {ep : Nat}, s₁.heap.get? b = some o → o.data = .dict es ep → H b = none := fun {b o es ep} e d => by
      cases q : H b with
      | none => rfl
      | some u =>
        have e' : b = a := hA b (by rw [q]; simp)
        subst e'
        rw [ha] at e; cases e
        have d' : Data.seq vs.toArray _ = Data.dict es ep := d
        cases d'
    have nsK : ∀ {b : Addr} {m : Str → Option Value}, s₁.heap.Ns b m → (hidT s₁.heap H).Ns b m := fun {b m} ⟨o, es, ep, e, d, r⟩ => ⟨o, es, ep, base_of e (noA e d), d, r⟩
    have hKb : K.In (hidT s₁.heap H) := fun b o e => base_of (KX b o e) (by
      cases q : H b with
      | none => rfl
      | some u =>
        have e' : b = a := hA b (by rw [q]; simp)
        subst e'
        rw [hK (by rw [q]; simp)] at e; cases e)
    have hM : Mod K mg (hidT s₁.heap H) := ⟨hKb, nsK hns, ⟨mb, nsK hb, hbb⟩, let ⟨mc, h1, h2⟩ := hlim; ⟨mc, nsK h1, h2⟩⟩
    have e0 : Env0 P w K mg (hidT s₁.heap H) callerA [] s₁ H := ⟨rfl, hM, fun b o e => of_hidT e, Nat.le_of_eq (hidT_size _ _), trivial, fun b hb => absurd (show b ∈ ([] : List Addr) from hb) (by simp), hok, .of_eq hg⟩
    refine codeAny_mono ((F _ hKb (nsK hns)).run callerA [] s₁ H ⟨[.ref a], []⟩ [.ref a] [.ref a] _ _ hr e0 (hbind s₁ (.ref a)) (.cons rfl .nil) (hsp H hO hS)) fun r s' h => ?_
    cases r with
    | error e => exact (hCX H e s' h).elim
    | ok fl =>
      cases fl with
      | next => exact False.elim h
      | brk => exact False.elim h
      | cont => exact False.elim h
      | ret u =>
        obtain ⟨v, H', os, bare, un, hok', r', q⟩ := h
        have q' : v = .bl true := q
        subst q'
        obtain rfl : u = Value.bool true := r'
        refine ⟨rfl, OldK.of_keep fun b o e => ?_, os, bare⟩
        cases q : H b with
        | none => exact un.keep b o e q (by intro z; exact absurd (show b ∈ ([] : List Addr) from z) (by simp)) (by simp)
        | some u =>
          rcases hO b with z | ⟨ob, xs, z⟩
          · rw [q] at z; cases z
          · have z2 := un.frzs b ob _ z
            obtain ⟨e1, _⟩ := hok b _ z
            obtain ⟨e2, _⟩ := hok' b _ z2
            rw [e] at e1; cases e1
            exact e2
  cases hk : K.lookup a with
  | some o =>
    -- the script is one of the module's own objects
    have e := KX a o hk
    rw [ha] at e
    cases e
    refine core (fun _ => none) (fun _ => .inl rfl) (.inr ⟨_, vs.toArray, _, hk, rfl, rfl, rfl, by rw [List.size_toArray, lenV]; exact hl, by simpa using rv⟩) (fun b u z => by have z' : (none : Option HO) = some u := z; cases z') (fun b z => absurd rfl z) fun z => absurd rfl z
  | none =>
    refine core (fun b => if b = a then some (.frz { cls := .type "list", data := .seq vs.toArray } (.lst (ns.map V.int))) else none) (fun b => ?_) (.inl (.inr ⟨{ cls := .type "list", data := .seq vs.toArray }, if_pos rfl⟩)) (fun b u z => ?_) (fun b z => ?_) fun _ => hk
    · by_cases hb : b = a
      · exact .inr ⟨_, _, if_pos hb⟩
      · exact .inl (if_neg hb)
    · by_cases hb : b = a
      · have z' := (if_pos hb).symm.trans z
        cases z'
        subst hb
        exact ⟨ha, by rw [List.length_map]; exact hl, vs, _, rv, ha⟩
      · have z' := (if_neg hb).symm.trans z
        cases z'
    · by_cases hb : b = a
      · exact hb
      · exact absurd (if_neg hb) z
end L2

namespace L2
open PySem PySem.Spec PyProof.Rows

theorem walk_of {l : PySem.W.OpenLaw} {n k : Nat} {q : Program} {loose : List Str} {XP : (Str → Option Value) → Heap → Prop} {YP : World → Heap → Prop} {d : DefRec} {K : Params → PySem.W.Frag} {CX : World → CXT} {sp : World → Sp} {x : Str}
    (hn : l.most = some n) (hn2 : n ≤ sizeLine) (hdf : d.params.defaults = []) (hr : Room k callerA)
    (hY : ∀ (w : World) (h : Heap), YP w h → (K w.params).In h)
    (F : ∀ (w : World) (mg : Str → Option Value) (fa : Addr) (h : Heap), (K w.params).In h → h.Ns mainGlobals mg → mg d.name = some (.ref fa) →
      ∃ fd : FuncData, (∀ (s : Shared) (u : Value), BindsTo s fd ⟨[u], []⟩ [(x, u)]) ∧
        ∀ base : Heap, (K w.params).In base → base.Ns mainGlobals mg → FnOk l.prog w (K w.params) mg base (CX w) k fa fd [x] (sp w))
    (hsp : ∀ (w : World) (H : Hp) (a : Addr) (ns : List Int), ns.length ≤ n → Only H → SqL (K w.params) H a (ns.map V.int) → sp w [.ref a] H (fun v _ => v = .bl true) fun _ _ _ => False)
    (hCX : ∀ (w : World) (H : Hp) (s : Shared) (e : Value) (s' : Shared), CX w [] H s (fun _ _ _ => False) e s' → False) :
    PySem.W.WalkO q loose XP YP l.row.toRowW d [] (fun f vs => PySem.call f vs) := by
  refine Att.attach_call hn hdf fun w s₀ s₁ mg mb fa o pm cd doc a vs ns G Y ho hd hcd hmg hobj hints hlen hg => ?_
  have KX := hY w _ Y
  obtain ⟨fd, hb, hF⟩ := F w mg fa _ KX G.T.g hmg
  exact law_call KX G.T.g G.T.b G.T.builtins G.T.nolimit hg hobj hints (Nat.le_trans hlen hn2) hr hF hb (fun H hO hS => hsp w H a ns hlen hO hS) fun H e s' => hCX w H s₁ e s'

end L2




namespace L2
open PySem PySem.Spec PyProof.Rows



noncomputable def inClass (s : Stmt) (j : Nat) : Stmt := match s with
  | .ClassDef _ _ _ body _ _ _ _ _ _ _ => body.getD j (.Pass ⟨0, 0, 0, 0⟩)
  | _ => .Pass ⟨0, 0, 0, 0⟩
noncomputable def defArgs (s : Stmt) : Arguments := match s with
  | .FunctionDef _ a _ _ _ _ _ _ _ _ => a
  | _ => { posonlyargs := [], args := [], vararg := none, kwonlyargs := [], kw_defaults := [], kwarg := none, defaults := [] }
noncomputable def defBody (s : Stmt) : List Stmt := match s with
  | .FunctionDef _ _ b _ _ _ _ _ _ _ => b
  | _ => []
noncomputable def defScope (s : Stmt) : Scope := match s with
  | .FunctionDef _ _ _ _ _ _ sc _ _ _ => sc
  | _ => { kind := .function, names := [], isGenerator := false, isCoroutine := false }


noncomputable abbrev CX0 : CXT := fun _ _ _ _ _ _ => False
noncomputable abbrev E0 : XK := fun _ _ _ => False
theorem pass0 {X : Cx} : Passes CX0 X E0 := fun _ _ _ _ _ _ _ h => h.elim


structure Fun (K : PySem.W.Frag) (x qual : Str) (st : Stmt) (f : Addr) (fd : FuncData) : Prop where
  ex : ∃ (oc : Value) (od : Option Addr) (kV doc pm : Value) (an : Option Addr) (cdv ct : Value) (osl : Array (Option Value)),
    fd = PySem.W.fnOf x qual (defArgs st) (defBody st) (defScope st) .none kV doc pm an cdv ct ∧ K.lookup f = some ⟨oc, od, .func fd, osl⟩ ∧ PySem.W.codeIn K cdv qual = true
  kp : PySem.W.keepIn K (.ref f) = true
section
variable {P : Program} {w : World} {K : PySem.W.Frag} {mg : Str → Option Value} {base : Heap}

theorem Fun.ok {x qual : Str} {st : Stmt} {f : Addr} {fd : FuncData} {N ps : List Str} {k : Nat} {sp : Sp} (F : Fun K x qual st f fd) (S : FnScope N ps (defScope st)) (len : ∀ vs H Q E, sp vs H Q E → vs.length = ps.length)
    (hbody : ∀ (cdv : Value) (A : Around) (outer : List Env) (s : Shared) (H : Hp) (vs : List V) (Q : VK) (E : XK), Room k (A.deeper (envOfC qual (defScope st) s.heap.objs.size f cdv)) → sp vs H Q E →
      ∃ t, PSs (cxOf CX0 P w K mg base N qual (defScope st) f cdv A outer s H E).nox (defBody st) t ∧ t { nx := fun _ H' => Q .non H', rt := Q } (start N vs) H) : FnOk P w K mg base CX0 (k + 1) f fd ps sp := by
  obtain ⟨oc, od, kV, doc, pm, an, cdv, ct, osl, rfl, lk, hcd⟩ := F.ex
  refine fn_of lk hcd S len fun A outer s H vs Q E hr hsp => ?_
  obtain ⟨t, h, q⟩ := hbody cdv A outer s H vs Q E hr hsp
  exact ⟨t, h.nox, q⟩

theorem Fun.binds {x qual : Str} {st : Stmt} {f : Addr} {fd : FuncData} {ps : List Str} (F : Fun K x qual st f fd)
    (h : ∀ (kV doc pm : Value) (an : Option Addr) (cdv ct : Value) (us : List Value), us.length = ps.length → bindArgs (PySem.W.fnOf x qual (defArgs st) (defBody st) (defScope st) .none kV doc pm an cdv ct) ⟨us, []⟩ = pure (ps.zip us)) : Binds K fd ps [] := by
  obtain ⟨oc, od, kV, doc, pm, an, cdv, ct, osl, rfl, lk, hcd⟩ := F.ex
  exact .all (h kV doc pm an cdv ct)
theorem fun_mk {x qual : Str} {st : Stmt} {f : Addr} {oc : Value} {od an : Option Addr} {osl : Array (Option Value)} {kV doc pm cdv ct : Value} (l : K.lookup f = some ⟨oc, od, .func (PySem.W.fnOf x qual (defArgs st) (defBody st) (defScope st) .none kV doc pm an cdv ct), osl⟩)
    (c : PySem.W.codeIn K cdv qual = true) (k : PySem.W.keepIn K (.ref f) = true) : Fun K x qual st f (PySem.W.fnOf x qual (defArgs st) (defBody st) (defScope st) .none kV doc pm an cdv ct) := ⟨⟨oc, od, kV, doc, pm, an, cdv, ct, osl, rfl, l, c⟩, k⟩
end
theorem hu_of {A : Around} {k : Nat} (hr : Room k A) : A.units + 1 < cLine := Nat.lt_of_le_of_lt (Nat.add_le_add_left (by decide : 1 ≤ 64) _) hr.units
theorem small1000 {n : Nat} (h : n ≤ 1000) : n < sizeLine := Nat.lt_of_le_of_lt h (by decide)


section
variable {X : Cx}
theorem pv (i : Nat) {x : Str} {pos : Pos} (hN : X.N[i]? = some x := by rfl) (hv : Vis X.env.scope x := by first | exact Or.inl rfl | exact Or.inr (Or.inl rfl) | exact Or.inr (Or.inr rfl)) (hd : (x == ("__debug__" : Str)) = false := by decide)
    (hcd : (x == ("__classdict__" : Str)) = false := by decide) : PE X (.Name x pos) (tVar i) := pe_var hN hv hd hcd

end


noncomputable def Same (H H' : Hp) : Prop := ∀ b o, H b = some o → H' b = some o
theorem Same.refl (H : Hp) : Same H H := fun _ _ h => h
theorem Same.trans {H H1 H2 : Hp} (a : Same H H1) (b : Same H1 H2) : Same H H2 := fun c o h => b c o (a c o h)
theorem Same.free {H H' : Hp} (e : Same H H') {l : Addr} (h : H' l = Option.none) : H l = Option.none := by
  cases q : H l with
  | none => rfl
  | some o =>
    rw [e l o q] at h
    cases h
theorem Same.seq {K : PySem.W.Frag} {H H' : Hp} {a : Addr} {xs : List V} (e : Same H H') (h : SqL K H a xs) : SqL K H' a xs := by
  rcases h with (h | ⟨o, h⟩) | h
  · exact .inl (.inl (e _ _ h))
  · exact .inl (.inr ⟨o, e _ _ h⟩)
  · exact .inr h


section
variable {κ : Type} [DecidableEq κ]
end
end L2


set_option maxHeartbeats 1000000

namespace HwSort
open PySem PySem.W PyProof.Rows


noncomputable abbrev at0 (p : Array Nat) (i : Nat) : Nat := p.getD i 0

section
variable (cmp : Nat → Nat → (Bool → Shared → Prop) → Shared → Prop) (s : Shared) (lt : Nat → Nat → Bool) (N : Nat)

structure Ord : Prop where
  ask : ∀ i j C, i < N → j < N → C (lt i j) s → cmp i j C s
  trans : ∀ i j k, i < N → j < N → k < N → lt i j = true → lt j k = true → lt i k = true
  asym : ∀ i j, i < N → j < N → lt i j = true → lt j i = false
  tot : ∀ i j, i < N → j < N → i ≠ j → lt i j = true ∨ lt j i = true
end


structure Arr (N : Nat) (p : Array Nat) : Prop where
  size : p.size = N
  low : ∀ i, i < N → at0 p i < N
  inj : ∀ i j, i < N → j < N → at0 p i = at0 p j → i = j
  perm : p.Perm (List.toArray (List.range N))

theorem at0_get {p : Array Nat} {i : Nat} (h : i < p.size) : p[i]? = some (at0 p i) := by
  simp [at0, Array.getD, h]
theorem at0_of {p : Array Nat} {i v : Nat} (h : p[i]? = some v) : at0 p i = v := by
  have hi : i < p.size := (Array.getElem?_eq_some_iff.mp h).1
  rw [at0_get hi] at h
  exact Option.some.inj h
theorem arr_of {N : Nat} {p : Array Nat} (h : p.Perm (List.toArray (List.range N))) : Arr N p := by
  have hs : p.size = N := by have := h.size_eq; simpa using this
  have hl : p.toList.Perm (List.range N) := by simpa using h.toList
  have hn : p.toList.Nodup := hl.nodup_iff.mpr List.nodup_range
  refine ⟨hs, fun i hi => ?_, fun i j hi hj e => ?_, h⟩
  · have h1 : p[i]? = some (at0 p i) := at0_get (by omega)
    have h2 : at0 p i ∈ p.toList := List.mem_of_getElem? (i := i) (by rw [Array.getElem?_toList]; exact h1)
    exact List.mem_range.mp (hl.mem_iff.mp h2)
  · have h1 : p.toList[i]? = some (at0 p i) := by rw [Array.getElem?_toList]; exact at0_get (by omega)
    have h2 : p.toList[j]? = some (at0 p j) := by rw [Array.getElem?_toList]; exact at0_get (by omega)
    rw [← e] at h2
    obtain ⟨b1, e1⟩ := List.getElem?_eq_some_iff.mp h1
    obtain ⟨b2, e2⟩ := List.getElem?_eq_some_iff.mp h2
    exact (List.getElem_inj hn).mp (e1.trans e2.symm)
theorem arr_range (N : Nat) : Arr N (List.toArray (List.range N)) := arr_of (Array.Perm.refl _)

noncomputable def Asc (lt : Nat → Nat → Bool) (p : Array Nat) (m : Nat) : Prop := ∀ i j, i < j → j < m → lt (at0 p i) (at0 p j) = true
noncomputable def Desc (lt : Nat → Nat → Bool) (p : Array Nat) (m : Nat) : Prop := ∀ i j, i < j → j < m → lt (at0 p j) (at0 p i) = true

section
variable {cmp : Nat → Nat → (Bool → Shared → Prop) → Shared → Prop} {s : Shared} {lt : Nat → Nat → Bool} {N : Nat}

theorem asc_more (o : Ord cmp s lt N) {p : Array Nat} (a : Arr N p) {n : Nat} (h1 : 1 ≤ n) (hn : n < N) (h : Asc lt p n) (hl : lt (at0 p (n - 1)) (at0 p n) = true) : Asc lt p (n + 1) := by
  intro i j hij hj
  by_cases e : j = n
  · subst e
    by_cases e2 : i = j - 1
    · subst e2; exact hl
    · exact o.trans _ (at0 p (j - 1)) _ (a.low i (by omega)) (a.low _ (by omega)) (a.low j (by omega)) (h i (j - 1) (by omega) (by omega)) hl
  · exact h i j hij (by omega)
theorem desc_more (o : Ord cmp s lt N) {p : Array Nat} (a : Arr N p) {n : Nat} (h1 : 1 ≤ n) (hn : n < N) (h : Desc lt p n) (hl : lt (at0 p n) (at0 p (n - 1)) = true) : Desc lt p (n + 1) := by
  intro i j hij hj
  by_cases e : j = n
  · subst e
    by_cases e2 : i = j - 1
    · subst e2; exact hl
    · exact o.trans _ (at0 p (j - 1)) _ (a.low j (by omega)) (a.low _ (by omega)) (a.low i (by omega)) hl (h i (j - 1) (by omega) (by omega))
  · exact h i j hij (by omega)
theorem not_lt (o : Ord cmp s lt N) {p : Array Nat} (a : Arr N p) {i j : Nat} (hi : i < N) (hj : j < N) (hne : i ≠ j) (h : ¬ lt (at0 p i) (at0 p j) = true) : lt (at0 p j) (at0 p i) = true := by
  rcases o.tot _ _ (a.low i hi) (a.low j hj) (fun e => hne (a.inj i j hi hj e)) with z | z
  · exact absurd z h
  · exact z

theorem wp_asc (o : Ord cmp s lt N) {p : Array Nat} (a : Arr N p) {G : Nat → Shared → Prop} : ∀ (f n : Nat), 1 ≤ n → n + f ≤ N → Asc lt p n →
    (∀ m, n ≤ m → m ≤ n + f → Asc lt p m → (m < n + f → lt (at0 p m) (at0 p (m - 1)) = true) → G m s) → (kas_asc p f n).kasWp cmp G s
  | 0, n, _, _, ha, hG => hG n (Nat.le_refl _) (by omega) ha (by omega)
  | f + 1, n, h1, hn, ha, hG => by
    refine o.ask _ _ _ (a.low n (by omega)) (a.low _ (by omega)) ?_
    by_cases hc : lt (at0 p n) (at0 p (n - 1)) = true
    · rw [hc]
      exact hG n (Nat.le_refl _) (by omega) ha fun _ => hc
    · have hc' : lt (at0 p n) (at0 p (n - 1)) = false := by simpa using hc
      rw [hc']
      exact wp_asc o a f (n + 1) (by omega) (by omega) (asc_more o a h1 (by omega) ha (not_lt o a (by omega) (by omega) (by omega) hc)) fun m h2 h3 h4 h5 => hG m (by omega) (by omega) h4 fun h6 => h5 (by omega)

theorem wp_desc (o : Ord cmp s lt N) {p : Array Nat} (a : Arr N p) {G : Array Nat × Nat × Nat → Shared → Prop} : ∀ (f n : Nat), 1 ≤ n → n + f ≤ N → Desc lt p n →
    (∀ m, n ≤ m → m ≤ n + f → Desc lt p m → G (p, m, 0) s) → (kas_desc f p n 0).kasWp cmp G s
  | 0, n, _, _, ha, hG => hG n (Nat.le_refl _) (by omega) ha
  | f + 1, n, h1, hn, ha, hG => by
    refine o.ask _ _ _ (a.low n (by omega)) (a.low _ (by omega)) ?_
    by_cases hc : lt (at0 p n) (at0 p (n - 1)) = true
    · rw [hc]
      exact wp_desc o a f (n + 1) (by omega) (by omega) (desc_more o a h1 (by omega) ha hc) fun m h2 h3 h4 => hG m (by omega) (by omega) h4
    · have hc' : lt (at0 p n) (at0 p (n - 1)) = false := by simpa using hc
      have hd : lt (at0 p (n - 1)) (at0 p n) = true := not_lt o a (by omega) (by omega) (by omega) hc
      rw [hc']
      refine o.ask _ _ _ (a.low _ (by omega)) (a.low n (by omega)) ?_
      rw [hd]
      exact hG n (Nat.le_refl _) (by omega) ha

theorem rev_at {p : Array Nat} {m i : Nat} (hm : m ≤ p.size) (hi : i < m) : at0 (kas_rev p 0 m) i = at0 p (m - 1 - i) := by
  have h := getElem?_mirror_all (xs := p) (i := 0) (j := m) hm i
  rw [if_pos ⟨Nat.zero_le _, hi⟩] at h
  refine at0_of ?_
  show (mirror p 0 m ((m - 0) / 2))[i]? = _
  rw [h, Nat.zero_add]
  exact at0_get (by omega)
theorem rev_arr {p : Array Nat} (a : Arr N p) (m : Nat) : Arr N (kas_rev p 0 m) := arr_of ((mirror_perm _ _ _ _).trans a.perm)
theorem rev_asc {p : Array Nat} {m : Nat} (hm : m ≤ p.size) (h : Desc lt p m) : Asc lt (kas_rev p 0 m) m := by
  intro i j hij hj
  rw [rev_at hm (by omega), rev_at hm hj]
  exact h _ _ (by omega) (by omega)

theorem wp_tail (o : Ord cmp s lt N) {p : Array Nat} (a : Arr N p) {n : Nat} (h1 : 1 ≤ n) (hn : n ≤ N) (hd : Desc lt p n) {G : Nat × Array Nat → Shared → Prop}
    (hG : ∀ m p', 1 ≤ m → m ≤ N → Arr N p' → Asc lt p' m → G (m, p') s) : (kas_tail3 n N p).kasWp cmp G s := by
  unfold kas_tail3
  rw [KasT.kasWp_bind]
  refine wp_asc o (rev_arr a n) (N - n) n h1 (by omega) (rev_asc (by rw [a.size]; exact hn) hd) fun m h2 h3 h4 _ => ?_
  exact hG m _ (by omega) (by omega) (rev_arr a n) h4

theorem wp_count (o : Ord cmp s lt N) {p : Array Nat} (a : Arr N p) (h1 : 1 ≤ N) {G : Nat × Array Nat → Shared → Prop} (hG : ∀ m p', 1 ≤ m → m ≤ N → Arr N p' → Asc lt p' m → G (m, p') s) : (kas_count N p).kasWp cmp G s := by
  unfold kas_count
  rw [KasT.kasWp_bind]
  refine wp_asc o a (N - 1) 1 (Nat.le_refl _) (by omega) (fun i j hij hj => by omega) fun m h2 h3 h4 h5 => ?_
  by_cases e1 : (m == N) = true
  · rw [if_pos e1]
    exact hG m p (by omega) (by omega) a h4
  · rw [if_neg e1]
    have hmN : m ≠ N := fun e => e1 (by rw [e]; exact beq_self_eq_true _)
    by_cases e2 : m > 1
    · rw [if_pos e2]
      refine o.ask _ _ _ (a.low 0 (by omega)) (a.low _ (by omega)) ?_
      rw [h4 0 (m - 1) (by omega) (by omega)]
      exact hG m p (by omega) (by omega) a h4
    · rw [if_neg e2]
      have em : m = 1 := by omega
      subst em
      unfold kas_descPart
      rw [KasT.kasWp_bind]
      have hd : lt (at0 p 1) (at0 p 0) = true := h5 (by omega)
      refine wp_desc o a (N - (1 + 1)) (1 + 1) (by omega) (by omega) (fun i j hij hj => ?_) fun m h6 h7 h8 => ?_
      · have : i = 0 ∧ j = 1 := by omega
        obtain ⟨rfl, rfl⟩ := this
        exact hd
      · show (if 0 > 0 then _ else kas_tail3 m N p : KasT _).kasWp cmp G s
        rw [if_neg (Nat.lt_irrefl 0)]
        exact wp_tail o a (by omega) (by omega) h8 hG

theorem wp_place (o : Ord cmp s lt N) {p : Array Nat} (a : Arr N p) {k : Nat} (hk : k < N) (ha : Asc lt p k) {G : Nat → Shared → Prop} : ∀ (f l r : Nat), l ≤ r → r ≤ k → r ≤ l + f →
    (∀ i, i < l → lt (at0 p i) (at0 p k) = true) → (∀ i, r ≤ i → i < k → lt (at0 p k) (at0 p i) = true) →
    (∀ l, l ≤ k → (∀ i, i < l → lt (at0 p i) (at0 p k) = true) → (∀ i, l ≤ i → i < k → lt (at0 p k) (at0 p i) = true) → G l s) → (kas_place p k f l r).kasWp cmp G s
  | 0, l, r, h1, h2, h3, hl, hr, hG => by
    have e : l = r := by omega
    subst e
    exact hG l h2 hl hr
  | f + 1, l, r, h1, h2, h3, hl, hr, hG => by
    unfold kas_place
    by_cases h : l ≥ r
    · rw [if_pos h]
      have e : l = r := by omega
      subst e
      exact hG l h2 hl hr
    · rw [if_neg h]
      refine o.ask _ _ _ (a.low k hk) (a.low _ (by omega)) ?_
      by_cases hc : lt (at0 p k) (at0 p ((l + r) / 2)) = true
      · rw [hc]
        refine wp_place o a hk ha f l ((l + r) / 2) (by omega) (by omega) (by omega) hl (fun i hi hik => ?_) hG
        by_cases e : i = (l + r) / 2
        · subst e; exact hc
        · exact o.trans _ _ _ (a.low k hk) (a.low ((l + r) / 2) (by omega)) (a.low i (by omega)) hc (ha _ _ (by omega) hik)
      · have hc' : lt (at0 p k) (at0 p ((l + r) / 2)) = false := by simpa using hc
        have hd : lt (at0 p ((l + r) / 2)) (at0 p k) = true := not_lt o a hk (by omega) (by omega) hc
        rw [hc']
        refine wp_place o a hk ha f ((l + r) / 2 + 1) r (by omega) (by omega) (by omega) (fun i hi => ?_) hr hG
        by_cases e : i = (l + r) / 2
        · subst e; exact hd
        · exact o.trans _ _ _ (a.low i (by omega)) (a.low ((l + r) / 2) (by omega)) (a.low k hk) (ha _ _ (by omega) (by omega)) hd

theorem bub_at {p : Array Nat} {k l i : Nat} (hk : k < p.size) (hl : l ≤ k) (hi : i < p.size) : at0 (bubble p k (k - l)) i = if i = l then at0 p k else if l < i ∧ i ≤ k then at0 p (i - 1) else at0 p i := by
  have h := getElem?_bubble hk (k - l) (by omega) i
  have e : k - (k - l) = l := by omega
  rw [e] at h
  refine at0_of ?_
  rw [h]
  by_cases c1 : i = l
  · rw [if_pos c1, if_pos c1]
    exact at0_get hk
  · rw [if_neg c1, if_neg c1]
    by_cases c2 : l < i ∧ i ≤ k
    · rw [if_pos c2, if_pos c2]
      exact at0_get (by omega)
    · rw [if_neg c2, if_neg c2]
      exact at0_get hi
theorem bub_asc {p : Array Nat} (a : Arr N p) {k l : Nat} (hk : k < N) (hl : l ≤ k) (ha : Asc lt p k) (h1 : ∀ i, i < l → lt (at0 p i) (at0 p k) = true) (h2 : ∀ i, l ≤ i → i < k → lt (at0 p k) (at0 p i) = true) :
    Asc lt (bubble p k (k - l)) (k + 1) := by
  have hs := a.size
  intro i j hij hj
  rw [bub_at (by omega) hl (by omega), bub_at (by omega) hl (by omega)]
  by_cases c1 : i = l
  · subst c1
    rw [if_pos rfl, if_neg (by omega), if_pos ⟨hij, by omega⟩]
    exact h2 _ (by omega) (by omega)
  · rw [if_neg c1]
    by_cases c2 : j = l
    · subst c2
      rw [if_neg (by omega), if_pos rfl]
      exact h1 i hij
    · rw [if_neg c2]
      by_cases c3 : l < i ∧ i ≤ k
      · rw [if_pos c3, if_pos ⟨by omega, by omega⟩]
        exact ha _ _ (by omega) (by omega)
      · rw [if_neg c3]
        by_cases c4 : l < j ∧ j ≤ k
        · rw [if_pos c4]
          exact ha _ _ (by omega) (by omega)
        · rw [if_neg c4]
          exact ha _ _ hij (by omega)
theorem bub_arr {p : Array Nat} (a : Arr N p) (k d : Nat) : Arr N (bubble p k d) := arr_of ((bubble_perm _ _ _).trans a.perm)

theorem wp_bin (o : Ord cmp s lt N) {G : Array Nat → Shared → Prop} : ∀ (f : Nat) (p : Array Nat) (k : Nat), Arr N p → k + f = N → Asc lt p k → (∀ p', Arr N p' → Asc lt p' N → G p' s) → (kas_bin f p k).kasWp cmp G s
  | 0, p, k, a, hk, ha, hG => hG p a (by have e : k = N := by omega
                                         subst e; exact ha)
  | f + 1, p, k, a, hk, ha, hG => by
    unfold kas_bin
    rw [KasT.kasWp_bind]
    refine wp_place o a (by omega) ha k 0 k (Nat.zero_le _) (Nat.le_refl _) (by omega) (fun i hi => absurd hi (Nat.not_lt_zero _)) (fun i h1 h2 => by omega) fun l hl h1 h2 => ?_
    exact wp_bin o f _ (k + 1) (bub_arr a k _) (by omega) (bub_asc a (by omega) hl ha h1 h2) hG

theorem wp_sort (o : Ord cmp s lt N) (h1 : 1 ≤ N) {G : Array Nat → Shared → Prop} (hG : ∀ p', Arr N p' → Asc lt p' N → G p' s) : (kas_sort N).kasWp cmp G s := by
  unfold kas_sort
  rw [KasT.kasWp_bind]
  refine wp_count o (arr_range N) h1 fun m p' h2 h3 h4 h5 => ?_
  by_cases hlt : m < N
  · show (if m < N then kas_bin (N - max m 1) p' (max m 1) else KasT.ret p').kasWp cmp G s
    rw [if_pos hlt]
    have e : max m 1 = m := by omega
    rw [e]
    exact wp_bin o _ p' m h4 (by omega) h5 hG
  · show (if m < N then kas_bin (N - max m 1) p' (max m 1) else KasT.ret p').kasWp cmp G s
    rw [if_neg hlt]
    have e : m = N := by omega
    subst e
    exact hG p' h4 h5

theorem wp_count_asc (o : Ord cmp s lt N) {p : Array Nat} (a : Arr N p) (h1 : 1 ≤ N) (ha : Asc lt p N) {G : Nat × Array Nat → Shared → Prop} (hG : G (N, p) s) : (kas_count N p).kasWp cmp G s := by
  unfold kas_count
  rw [KasT.kasWp_bind]
  refine wp_asc o a (N - 1) 1 (Nat.le_refl _) (by omega) (fun i j hij hj => by omega) fun m h2 h3 h4 h5 => ?_
  have e : m = N := by
    rcases Nat.lt_or_ge m (1 + (N - 1)) with hlt | hge
    · have h6 := h5 hlt
      have h7 := ha (m - 1) m (by omega) (by omega)
      rw [o.asym _ _ (a.low _ (by omega)) (a.low _ (by omega)) h7] at h6
      cases h6
    · omega
  subst e
  rw [if_pos (beq_self_eq_true _)]
  exact hG
end

theorem minRun_64 : ∀ (f n r : Nat), r ≤ 1 → n ≤ f → minRun' f n r ≤ 64
  | 0, n, r, hr, hn => by
    show n + r ≤ 64
    omega
  | f + 1, n, r, hr, hn => by
    rw [minRun'_succ]
    split
    · omega
    · exact minRun_64 f _ _ (by omega) (by omega)
theorem minRun_le (n : Nat) (h : 1 ≤ n) : minRun' n n 0 ≤ n := by
  by_cases h64 : n < 64
  · obtain ⟨f, rfl⟩ : ∃ f, n = f + 1 := ⟨n - 1, by omega⟩
    rw [minRun'_succ, if_pos h64]
    omega
  · exact Nat.le_trans (minRun_64 n n 0 (by omega) (Nat.le_refl _)) (by omega)

section
variable {prog : Program} {w : World} {A : Around} {E : Value → Shared → Prop} {κ : SortKind} {it : Array Keyed} {s : Shared} {lt : Nat → Nat → Bool}
theorem run_asc {n : Nat} {Q : Unit → SortSt → Shared → Prop} (h2 : 2 ≤ n) (o : Ord (kas_cmp prog w A κ it) s lt n) (ha : Asc lt (List.toArray (List.range n)) n)
    (hQ : ∀ st', arrOf st' = (List.toArray (List.range n)).map (kas_item it) → failedOf st' = none → Q () st' s) : kasC (model prog w) A E sortRuns' Q (kas_st κ it (List.toArray (List.range n))) s := by
  have hmr := minRun_le n (by omega)
  obtain ⟨r, rfl⟩ : ∃ r, n = r + 2 := ⟨n - 2, by omega⟩
  have hrs : (List.toArray (List.range (r + 2))).size = r + 2 := by simp
  rw [sortRuns'_eq]
  refine kasC_bind (kasC_get ?_)
  dsimp only
  have hsz : (arrOf (kas_st κ it (List.toArray (List.range (r + 2))))).size = r + 2 := by
    show ((List.toArray (List.range (r + 2))).map (kas_item it)).size = _
    rw [Array.size_map, hrs]
  simp only [hsz]
  refine kasC_bind (kasC_range ?_)
  show kasC _ _ _ (forIn (0 :: 1 :: List.range' 2 r) _ _) _ _ _
  refine kasC_cons ?_
  dsimp only
  rw [if_neg (by omega)]
  simp only [Nat.sub_zero, Nat.zero_add]
  refine kasC_bind (kas_count_ (G := fun r' s' => s' = s ∧ r' = (r + 2, List.toArray (List.range (r + 2)))) (by omega) (by rw [hrs]; exact Nat.le_refl _) (fun m p' s' hm1 hm2 hp hg => ?_) (wp_count_asc o (arr_range _) (by omega) ha ⟨rfl, rfl⟩))
  obtain ⟨rfl, e⟩ := hg
  cases e
  dsimp only
  rw [if_neg (by omega)]
  refine kasC_bind (kasC_get ?_)
  rw [show (pendingOf (kas_st κ it (List.toArray (List.range (r + 2))))).back? = none from rfl]
  dsimp only
  refine kasC_bind (kasC_modify (kasC_pure ?_))
  show kasC _ _ _ (forIn (1 :: List.range' 2 r) _ _) _ _ _
  refine kasC_cons ?_
  dsimp only
  rw [if_pos (Nat.le_refl _)]
  refine kasC_pure ?_
  dsimp only
  refine kasC_bind (kasC_range ?_)
  show kasC _ _ _ (forIn (0 :: 1 :: List.range' 2 r) _ _) _ _ _
  refine kasC_cons (kasC_bind (kasC_get ?_))
  rw [if_pos (show (pendingOf (setPending (kas_st κ it (List.toArray (List.range (r + 2)))) ((pendingOf (kas_st κ it (List.toArray (List.range (r + 2))))).push (0, r + 2, 0)))).size ≤ 1 from Nat.le_refl 1)]
  refine kasC_pure ?_
  dsimp only
  exact kasC_pure (hQ _ rfl rfl)
end
end HwSort

set_option maxHeartbeats 1000000

namespace L2
open PySem PySem.Spec PyProof.Rows


structure Cz where
  C : Addr
  s : Shared
  H : Hp
  fp : List Addr


noncomputable def cxComp (X : Cx) (N' : List Str) (scope : Scope) (cl : List (Str × Addr)) (z : Cz) : Cx where
  prog := X.prog
  w := X.w
  K := X.K
  mg := X.mg
  base := X.base
  A := X.A
  N := N'
  s₀ := z.s
  H₀ := z.H
  env := compEnvC scope cl z.C X.env
  outer := X.stack
  stack := X.stack
  ex := z.fp
  fn := fun _ => false
  calm := X.calm
  pn := []
  xe := fun _ _ => False


noncomputable def cloOf (env : Env) (names : List (Str × NameKind)) (acc : List (Str × Addr)) : List (Str × Addr) :=
  match names with
  | [] => acc
  | (n, k) :: r => cloOf env r (if k == .free then (n, (env.cells.lookup n).getD 0) :: acc else acc)

theorem clo_loop {env : Env} : ∀ (names : List (Str × NameKind)) (acc : List (Str × Addr)), (∀ x ∈ names, x.2 = .free → ∃ c, env.cells.lookup x.1 = some c) →
    (forIn (m := Sem) names acc fun x cs => (if x.2 == .free then do let c ← cellOf env x.1; pure (ForInStep.yield ((x.1, c) :: cs)) else pure (ForInStep.yield cs))) = pure (cloOf env names acc)
  | [], acc, _ => rfl
  | (n, k) :: r, acc, h => by
    rw [List.forIn_cons]
    have hr : ∀ x ∈ r, x.2 = .free → ∃ c, env.cells.lookup x.1 = some c := fun x hx => h x (List.mem_cons_of_mem _ hx)
    by_cases hk : k = .free
    · subst hk
      obtain ⟨c, e⟩ := h (n, .free) List.mem_cons_self rfl
      have e2 : cellOf env n = pure c := by unfold cellOf; rw [e]
      simp only [beq_self_eq_true, if_true, e2, pure_bind]
      rw [clo_loop r _ hr]
      simp only [cloOf, beq_self_eq_true, if_true, e, Option.getD_some]
    · have hb : (k == NameKind.free) = false := by simpa using hk
      simp only [hb, Bool.false_eq_true, if_false, pure_bind]
      rw [clo_loop r _ hr]
      simp only [cloOf, hb, Bool.false_eq_true, if_false]

theorem closureFor_eq {scope : Scope} {env : Env} (h : ∀ x ∈ scope.names, x.2 = .free → ∃ c, env.cells.lookup x.1 = some c) : closureFor scope env = pure (cloOf env scope.names []) := by
  have e := clo_loop scope.names [] h
  have e2 : closureFor scope env = (forIn (m := Sem) scope.names ([] : List (Str × Addr)) fun x cs => (if x.2 == .free then do let c ← cellOf env x.1; pure (ForInStep.yield ((x.1, c) :: cs)) else pure (ForInStep.yield cs))) >>= fun r => pure r := rfl
  rw [e2, e, pure_bind]

theorem clo_sub {env : Env} : ∀ (names : List (Str × NameKind)) (acc : List (Str × Addr)) (x : Str) (c : Addr), (∀ y ∈ names, y.2 = .free → ∃ c, env.cells.lookup y.1 = some c) →
    (∀ y d, acc.lookup y = some d → env.cells.lookup y = some d) → (cloOf env names acc).lookup x = some c → env.cells.lookup x = some c
  | [], acc, x, c, _, ha, h => ha x c h
  | (n, k) :: r, acc, x, c, hn, ha, h => by
    have hr : ∀ y ∈ r, y.2 = .free → ∃ c, env.cells.lookup y.1 = some c := fun y hy => hn y (List.mem_cons_of_mem _ hy)
    unfold cloOf at h
    by_cases hk : k = .free
    · subst hk
      obtain ⟨d, e⟩ := hn (n, .free) List.mem_cons_self rfl
      simp only [beq_self_eq_true, if_true] at h
      refine clo_sub r _ x c hr (fun y d' hy => ?_) h
      rw [List.lookup_cons] at hy
      by_cases hyn : (y == n) = true
      · rw [hyn] at hy
        have hy' : (env.cells.lookup n).getD 0 = d' := by simpa using hy
        rw [e] at hy'
        rw [beq_iff_eq.mp hyn, e]
        simpa using hy'
      · have hyn' : (y == n) = false := by simpa using hyn
        rw [hyn'] at hy
        exact ha y d' hy
    · have hb : (k == NameKind.free) = false := by simpa using hk
      simp only [hb, Bool.false_eq_true, if_false] at h
      exact clo_sub r _ x c hr ha h
theorem clo_has {env : Env} : ∀ (names : List (Str × NameKind)) (acc : List (Str × Addr)) (x : Str), ((x, NameKind.free) ∈ names ∨ ∃ c, acc.lookup x = some c) → ∃ c, (cloOf env names acc).lookup x = some c
  | [], acc, x, h => by
    rcases h with h | h
    · cases h
    · exact h
  | (n, k) :: r, acc, x, h => by
    unfold cloOf
    by_cases hk : k = .free
    · subst hk
      simp only [beq_self_eq_true, if_true]
      refine clo_has r _ x ?_
      rcases h with h | ⟨c, h⟩
      · rcases List.mem_cons.mp h with e | e
        · cases e
          exact .inr ⟨_, by rw [List.lookup_cons, beq_self_eq_true]⟩
        · exact .inl e
      · rw [List.lookup_cons]
        by_cases hyn : (x == n) = true
        · exact .inr ⟨_, by rw [hyn]⟩
        · have hyn' : (x == n) = false := by simpa using hyn
          exact .inr ⟨c, by rw [hyn']; exact h⟩
    · have hb : (k == NameKind.free) = false := by simpa using hk
      simp only [hb, Bool.false_eq_true, if_false]
      refine clo_has r _ x ?_
      rcases h with h | h
      · rcases List.mem_cons.mp h with e | e
        · cases e
          exact absurd rfl hk
        · exact .inl e
      · exact .inr h

theorem lookup_relabel {env : Env} (x : Str) : ∀ (names : List (Str × NameKind)),
    (names.map fun (n, k) => if (k == NameKind.free && env.scope.kind == .function && env.kindOf n == some .cell) then (n, NameKind.cell) else (n, k)).lookup x =
      (names.lookup x).map fun k => if (k == NameKind.free && env.scope.kind == .function && env.kindOf x == some .cell) then NameKind.cell else k
  | [] => rfl
  | (n, k) :: r => by
    have ih := lookup_relabel (env := env) x r
    rw [List.map_cons]
    dsimp only
    by_cases hxn : (x == n) = true
    · have e : x = n := beq_iff_eq.mp hxn
      subst e
      by_cases hc : (k == NameKind.free && env.scope.kind == .function && env.kindOf x == some .cell) = true
      · rw [if_pos hc, List.lookup_cons, List.lookup_cons, beq_self_eq_true]
        simp only [Option.map_some, if_pos hc]
      · rw [if_neg hc, List.lookup_cons, List.lookup_cons, beq_self_eq_true]
        simp only [Option.map_some, if_neg hc]
    · have hxn' : (x == n) = false := by simpa using hxn
      by_cases hc : (k == NameKind.free && env.scope.kind == .function && env.kindOf n == some .cell) = true
      · rw [if_pos hc, List.lookup_cons, List.lookup_cons, hxn']
        exact ih
      · rw [if_neg hc, List.lookup_cons, List.lookup_cons, hxn']
        exact ih


noncomputable def chkComp (osc : Scope) (N N' : List Str) (scope : Scope) : Bool :=
  scope.kind == .function &&
  scope.names.all (fun x => x.2 != .cell && (x.2 != .local || scope.names.lookup x.1 == some .local) && (x.2 != .free || osc.names.lookup x.1 == some .cell || osc.names.lookup x.1 == some .free)) &&
  decide (N.length ≤ N'.length) &&
  (List.range N.length).all fun i => match N'[i]? with
    | some x => match scope.names.lookup x with
      | some .local => false
      | some .cell => false
      | some .free => N[i]? == some x
      | _ => true
    | none => true

structure NamesOk (osc : Scope) (N N' : List Str) (scope : Scope) : Prop where
  kind : scope.kind = .function
  cell : ∀ x ∈ scope.names, x.2 ≠ .cell
  loc : ∀ x ∈ scope.names, x.2 = .local → scope.names.lookup x.1 = some .local
  free : ∀ x ∈ scope.names, x.2 = .free → osc.names.lookup x.1 = some .cell ∨ osc.names.lookup x.1 = some .free
  len : N.length ≤ N'.length
  old : ∀ (i : Nat) (x : Str), i < N.length → N'[i]? = some x → scope.names.lookup x ≠ some .local ∧ scope.names.lookup x ≠ some .cell ∧ (scope.names.lookup x = some .free → N[i]? = some x)

theorem names_ok {osc : Scope} {N N' : List Str} {scope : Scope} (h : chkComp osc N N' scope = true) : NamesOk osc N N' scope := by
  unfold chkComp at h
  simp only [Bool.and_eq_true, List.all_eq_true, decide_eq_true_eq, beq_iff_eq, Bool.or_eq_true, bne_iff_ne, List.mem_range] at h
  obtain ⟨⟨⟨h1, h2⟩, h3⟩, h4⟩ := h
  refine ⟨h1, fun x hx => (h2 x hx).1.1, fun x hx e => ?_, fun x hx e => ?_, h3, fun i x hi e => ?_⟩
  · rcases (h2 x hx).1.2 with z | z
    · exact absurd e z
    · exact z
  · rcases (h2 x hx).2 with (z | z) | z
    · exact absurd e z
    · exact .inl z
    · exact .inr z
  · have q := h4 i hi
    rw [e] at q
    cases hl : scope.names.lookup x with
    | none => simp
    | some k =>
      simp only [hl] at q
      cases k <;> simp_all

section
variable {X : Cx} {pins : List (Addr × Obj)} {σ : St} {H : Hp} {s : Shared}


theorem cells_of (I : Inv X pins σ H s) {osc : Scope} {N N' : List Str} {scope : Scope} (ho : X.env.scope = osc) (hn : NamesOk osc N N' scope) : ∀ x ∈ scope.names, x.2 = .free → ∃ c, X.env.cells.lookup x.1 = some c := fun x hx e =>
  I.ok.has x.1 (by have z := hn.free x hx e; rw [← ho] at z; exact z)


theorem inv_comp {osc : Scope} {N' : List Str} {scope : Scope} {fp : List Addr} {h1 : Heap} {tk : Nat} {n0 : Nat} (I : Inv X pins σ H s) (ho : X.env.scope = osc) (hn : NamesOk osc X.N N' scope) (hl : N'.length = X.N.length + n0)
    (hf : ∀ b ∈ fp, FpOk X pins H b) (hthere : ∀ b ∈ fp, b < s.heap.objs.size) {m0 : Str → Option Value} (ns : h1.Ns s.heap.objs.size m0) (keep : ∀ b o, s.heap.get? b = some o → h1.get? b = some o) :
    Inv (cxComp X N' scope (cloOf X.env scope.names []) ⟨s.heap.objs.size, s, H, fp⟩) [] (σ ++ List.replicate n0 none) H { s with heap := h1, toks := tk } := by
  have hc := cells_of I ho hn
  have sub : ∀ x c, (cloOf X.env scope.names []).lookup x = some c → X.env.cells.lookup x = some c := fun x c => clo_sub scope.names [] x c hc fun y d e => by cases e
  have kl : ∀ x, (relabel scope X.env).names.lookup x = (scope.names.lookup x).map fun k => if (k == NameKind.free && X.env.scope.kind == .function && X.env.kindOf x == some .cell) then NameKind.cell else k := fun x => lookup_relabel x scope.names
  have kf : ∀ x, ((relabel scope X.env).names.lookup x = some .cell ∨ (relabel scope X.env).names.lookup x = some .free) → scope.names.lookup x = some .free := fun x hx => by
    rw [kl] at hx
    cases e : scope.names.lookup x with
    | none => rw [e] at hx; simp at hx
    | some k =>
      rw [e] at hx
      cases k with
      | free => rfl
      | cell => exact absurd rfl (hn.cell _ (PySem.mem_of_lookup e))
      | _ => simp at hx
  have fresh : H s.heap.objs.size = none := I.hok.fresh (Nat.le_refl _)
  refine ⟨⟨I.ok.mod, ?kind, I.ok.glob, I.ok.blt, Nat.le_refl _, fun x y c e1 e2 => I.ok.inj x y c (sub x c e1) (sub y c e2), fun x hx => ?has, fun x c e => ?cab, I.ok.hd, I.ok.frames, .inl rfl, fun b hb => ?exf, fun b o e => I.bs b o e,
    Nat.le_trans I.ok.bsz I.sz, fun b o e hb => ?noex, fun b hb hs => ?exfs, I.stack, I.stkFree⟩, rfl, I.bare, Un.kept keep, ⟨m0, ns, fun i x v e1 e2 e3 => ?loc⟩, fun x c e => ?cell, fresh, fun x c e => I.freeC x c (sub x c e), fun p hp => absurd hp (by intro z; cases z), I.hok.kept keep, ?len⟩
  case kind => exact hn.kind
  case has => exact clo_has scope.names [] x (.inl (PySem.mem_of_lookup (kf x hx)))
  case cab => exact absurd e (by intro z; cases z)
  case exf =>
    obtain ⟨_, _, _, _, f4, _⟩ := hf b hb
    exact ⟨Nat.ne_of_lt (hthere b hb), fun x c e => f4 x c (sub x c e)⟩
  case noex =>
    obtain ⟨_, _, _, f3, _, _⟩ := hf b hb
    rcases f3 with f3 | f3
    · exact I.ok.noex b o e f3
    · exact absurd (Nat.lt_of_lt_of_le (Heap.lt_size e) (Nat.le_trans I.ok.bsz f3)) (Nat.lt_irrefl _)
  case exfs =>
    obtain ⟨_, f1, f2, _⟩ := hf b hb
    rcases List.mem_cons.mp (I.stkSub b hs) with z | z
    · exact f1 z
    · exact f2 z
  case loc =>
    have hi : i < σ.length := by
      by_cases hi : i < σ.length
      · exact hi
      · rw [List.getElem?_append_right (by omega), List.getElem?_replicate] at e2
        split at e2 <;> cases e2
    rw [List.getElem?_append_left hi] at e2
    have hiN : i < X.N.length := by rw [← I.len]; exact hi
    obtain ⟨o1, o2, o3⟩ := hn.old i x hiN e1
    have hfr : scope.names.lookup x = some .free := by
      rcases e3 with e3 | e3
      · have e3' : (relabel scope X.env).names.lookup x = some .local := e3
        rw [kl] at e3'
        cases e : scope.names.lookup x with
        | none => rw [e] at e3'; simp at e3'
        | some k =>
          rw [e] at e3'
          cases k with
          | «local» => exact absurd e o1
          | cell => exact absurd e o2
          | free => rfl
          | _ => simp at e3'
      · exact kf x e3
    have hcx : X.env.kindOf x = some .cell ∨ X.env.kindOf x = some .free := by
      have z := hn.free (x, .free) (PySem.mem_of_lookup hfr) rfl
      rw [← ho] at z
      exact z
    obtain ⟨m, hm, hlk⟩ := I.loc
    obtain ⟨u, r, lk⟩ := hlk i x v (o3 hfr) e2 (.inr hcx)
    refine ⟨u, r, .inr ⟨?_, ?_⟩⟩
    · show (relabel scope X.env).names.lookup x = some .cell ∨ (relabel scope X.env).names.lookup x = some .free
      rw [kl, hfr, Option.map_some]
      split
      · exact .inl rfl
      · exact .inr rfl
    · rcases lk with ⟨k1, _⟩ | ⟨_, c, ec, ic⟩
      · rcases hcx with z | z <;> (rw [z] at k1; cases k1)
      · obtain ⟨c', ec'⟩ := clo_has (env := X.env) scope.names [] x (.inl (PySem.mem_of_lookup hfr))
        have e4 := sub x c' ec'
        rw [ec] at e4
        cases e4
        obtain ⟨oc, hoc, hd⟩ := ic
        exact ⟨c, ec', oc, keep c oc hoc, hd⟩
  case cell =>
    obtain ⟨v, oc, hoc, hd⟩ := I.cell x c (sub x c e)
    exact ⟨v, oc, keep c oc hoc, hd⟩
  case len =>
    show (σ ++ List.replicate n0 none).length = N'.length
    rw [List.length_append, List.length_replicate, I.len, hl]
end


noncomputable def PIf (X : Cx) (ifs : List Expr) (t : TT) : Prop :=
  ∀ (pins : List (Addr × Obj)) (s : Shared) (σ : St) (H : Hp) (Q : Bool → Hp → Prop), Inv X pins σ H s → t σ H Q →
    wpAny (model X.prog X.w) X.A (forIn ifs true fun c r => if r = true then do let ok ← isTrue c X.env (eval c X.env); pure (ForInStep.yield ok) else pure (ForInStep.yield r)) (TP X pins σ Q) X.xe s
noncomputable def tYes : TT := fun _ H Q => Q true H
theorem pif_nil {X : Cx} : PIf X [] tYes := fun _ _ _ H _ I h => wpAny_tests_nil ⟨H, I, h⟩
noncomputable def CompTurn (p : Addr) (J : It) (g : TG) (tt : TT) (te : TE) (W : Nat → Nat → St → Hp → Prop) (i m : Nat) (σ : St) (H : Hp) : Prop :=
  J.go i H ∧ ∃ N : St → Hp → Prop, (∀ σ' H', N σ' H' → ∃ m', m' < m ∧ W (i + 1) m' σ' H') ∧ ∀ x H', J.yld i H x H' → g x σ H' fun σ3 H3 => tt σ3 H3 fun b H4 =>
    if b = true then te σ3 H4 fun v H5 => ∃ ys, H5 p = some (.lst ys) ∧ ys.length < sizeLine ∧ N σ3 (upd H5 p (.lst (ys ++ [v])))
    else N σ3 H4
noncomputable def CompR (n0 : Nat) (g : Cz → TG) (tt : Cz → TT) (te : Cz → TE) (σ : St) (Q : VK) (J : It) (H1 : Hp) : Prop :=
  ∀ p, H1 p = none → ∃ W : Nat → Nat → St → Hp → Prop, (∃ m, W 0 m (σ ++ List.replicate n0 none) (upd H1 p (.lst []))) ∧
    ∀ z i m σ2 H, W i m σ2 H → (J.stop i H ∧ Q (.ref p) H) ∨ CompTurn p J (g z) (tt z) (te z) W i m σ2 H
noncomputable def tComp (n0 : Nat) (wi : TI) (g : Cz → TG) (tt : Cz → TT) (te : Cz → TE) : TE := fun σ H Q => wi σ H fun J H1 => CompR n0 g tt te σ Q J H1

section
variable {X : Cx} {tg elt iter : Expr} {ifs : List Expr} {scope : Scope} {pos : Pos} {osc : Scope} {N' : List Str} {n0 : Nat} {wi : TI} {g : Cz → TG} {tt : Cz → TT} {te : Cz → TE}


theorem comp_block {pins : List (Addr × Obj)} {σ : St} {Q : VK} {s2 : Shared} {H2 : Hp} {it : Addr} {fp : List Addr} {tn : Nat → Heap → Prop} {J : It} {E : Value → Shared → Prop} {RR : Value → Addr → Result → Shared → Prop}
    (hc : X.calm = true) (ho : X.env.scope = osc) (hn : NamesOk osc X.N N' scope) (hl : N'.length = X.N.length + n0)
    (hg : ∀ z, PG (cxComp X N' scope (cloOf X.env scope.names []) z) tg (g z)) (hf : ∀ z, PIf (cxComp X N' scope (cloOf X.env scope.names []) z) ifs (tt z)) (he : ∀ z, PE (cxComp X N' scope (cloOf X.env scope.names []) z) elt (te z))
    (I2 : Inv X pins σ H2 s2) (T : Turn X.prog X.w X.K tg J fp it tn) (st2 : tn 0 s2.heap) (f2 : ∀ b ∈ fp, FpOk X pins H2 b) (h : CompR n0 g tt te σ Q J H2)
    (hRR : ∀ p C s' H', Inv X pins σ H' s' → FpOk X pins H' C → (∃ m, s'.heap.Ns C m) → Q (.ref p) H' → RR (.ref p) C (.ok .next) s') :
    wpAny (model X.prog X.w) X.A (newList []) (fun acc s₃ => wpAny (model X.prog X.w) X.A (newFunctionEnv scope X.env.globals (cloOf X.env scope.names []) [] X.env.qual none .none (some X.env)) (fun cenv s₄ =>
      codeAny (model X.prog X.w) X.A (.compStart (.ListComp elt [⟨tg, iter, ifs, 0⟩] scope pos) 0 (.ref it) acc { cenv with scope := relabel scope X.env }) (RR acc cenv.locals) s₄) E s₃) E s2 := by
  refine wpAny_newList ?_ (Nat.zero_le _)
  have hp : H2 s2.heap.objs.size = none := I2.hok.fresh (Nat.le_refl _)
  obtain ⟨W, ⟨m0, w0⟩, turn⟩ := h s2.heap.objs.size hp
  have I3 : Inv X pins σ (upd H2 s2.heap.objs.size (.lst [])) { s2 with heap := s2.heap.push { cls := .type "list", data := .seq ([] : List Value).toArray }, toks := s2.toks } := I2.lnew (ys := []) .nil (Nat.zero_le _)
  generalize hs3 : ({ s2 with heap := s2.heap.push { cls := .type "list", data := .seq ([] : List Value).toArray }, toks := s2.toks } : Shared) = s3 at I3
  have up3 : ∀ b o, s2.heap.get? b = some o → s3.heap.get? b = some o := fun b o e => by rw [← hs3]; exact Heap.get?_push_of_some _ e
  have st3 : tn 0 s3.heap := T.keep _ _ _ st2 fun b _ o e => up3 b o e
  have ob2 : ∀ b ∈ fp, b < s2.heap.objs.size := fun b hb => by
    obtain ⟨o, e, _⟩ := T.obj _ _ st2 b hb
    exact Heap.lt_size e
  have ob3 : ∀ b ∈ fp, b < s3.heap.objs.size := fun b hb => by
    obtain ⟨o, e, _⟩ := T.obj _ _ st3 b hb
    exact Heap.lt_size e
  have f3 : ∀ b ∈ fp, FpOk X pins (upd H2 s2.heap.objs.size (.lst [])) b := fun b hb => ⟨by rw [upd_ne (Nat.ne_of_lt (ob2 b hb))]; exact (f2 b hb).1, (f2 b hb).2⟩
  refine wpAny_newFunctionEnv hn.cell (by intro y hy; cases hy) (fun h1 ns1 sb1 => ?_) hn.kind
  have up4 : ∀ b o, s3.heap.get? b = some o → h1.get? b = some o := fun b o e => sb1.extBut b o (Nat.ne_of_lt (Heap.lt_size e)) (Heap.get?_push_of_some _ e)
  have st4 : tn 0 h1 := T.keep _ _ _ st3 fun b _ o e => up4 b o e
  have I4 := inv_comp (tk := s3.toks + ([] : List (Str × Value)).length) (n0 := n0) I3 ho hn hl f3 ob3 ns1 up4
  generalize hs4 : ({ s3 with heap := h1, toks := s3.toks + ([] : List (Str × Value)).length } : Shared) = s4 at I4
  have st4' : tn 0 s4.heap := by rw [← hs4]; exact st4
  -- the loop
  have loop : codeAny (model X.prog X.w) X.A (.compLoop (.ListComp elt [⟨tg, iter, ifs, 0⟩] scope pos) 0 (.ref it) (.ref s2.heap.objs.size) (compEnvC scope (cloOf X.env scope.names []) s3.heap.objs.size X.env)) (RR (.ref s2.heap.objs.size) s3.heap.objs.size) s4 := by
    refine codeAny_loop rfl (fun n s' => ∃ i σ' H', Inv (cxComp X N' scope (cloOf X.env scope.names []) ⟨s3.heap.objs.size, s3, upd H2 s2.heap.objs.size (.lst []), fp⟩) [] σ' H' s' ∧ tn i s'.heap ∧ (∀ b ∈ fp, H' b = none) ∧ W i n σ' H')
      (fun n s5 hI => ?_) m0 ⟨0, _, _, I4, st4', fun b hb => (f3 b hb).1, w0⟩
    obtain ⟨i, σ5, H5, I5, st5, fr5, w5⟩ := hI
    show wpAny _ X.A ((compTurn (.ListComp elt [⟨tg, iter, ifs, 0⟩] scope pos) 0 (.ref it) (.ref s2.heap.objs.size) (compEnvC scope (cloOf X.env scope.names []) s3.heap.objs.size X.env)).onRaise (fun x => do noteFrame x (compEnvC scope (cloOf X.env scope.names []) s3.heap.objs.size X.env); theTreesLotGoes x)) _ _ s5
    refine wpAny_noted ?_
    rw [compTurn_list]
    generalize hz : (⟨s3.heap.objs.size, s3, upd H2 s2.heap.objs.size (.lst []), fp⟩ : Cz) = z at I4 I5
    have hzC : z.C = s3.heap.objs.size := by rw [← hz]
    have hzf : z.fp = fp := by rw [← hz]
    have stat : ∀ {H' : Hp}, (∀ b ∈ fp, H' b = none) → ∀ b ∈ fp, FpOk (cxComp X N' scope (cloOf X.env scope.names []) z) [] H' b := fun {H'} hn' b hb => by
      obtain ⟨_, q1, q2, q3, q4, q5⟩ := f3 b hb
      refine ⟨hn' b hb, ?_, fun hs => ?_, .inl (by show b ∈ z.fp; rw [hzf]; exact hb), fun x c e => ?_, fun p hp => absurd hp (by intro z; cases z)⟩
      · show b ≠ z.C
        rw [hzC]
        exact Nat.ne_of_lt (ob3 b hb)
      · rcases List.mem_cons.mp (I3.stkSub b hs) with z' | z'
        · exact q1 z'
        · exact q2 z'
      · exact q4 x c (clo_sub scope.names [] x c (cells_of I3 ho hn) (fun y d e => by cases e) e)
    refine wpAny_bind (wpAny_standAt (wpAny_bind ?_))
    rcases turn z i n σ5 H5 w5 with ⟨stop, qn⟩ | ⟨go, Nx, hNx, step⟩
    · refine wpAny_mono (T.done (cxComp X N' scope (cloOf X.env scope.names []) z) rfl rfl rfl hc i [] s5 σ5 H5 (fun _ _ => False) I5 (stat fr5) st5 stop) (fun r s6 ⟨hr, I6⟩ => ?_) fun _ _ f => f.elim
      subst hr
      have hns : ∃ m, s6.heap.Ns s3.heap.objs.size m := by
        obtain ⟨m, hm, _⟩ := I6.loc
        have hm' : s6.heap.Ns z.C m := hm
        rw [hzC] at hm'
        exact ⟨m, hm'⟩
      refine wpAny_pure (hRR _ _ s6 H5 (I3.call' (ch := fp) ?os ?un I6.hok I6.bare fun b hb => ?ch) ?fp hns qn)
      case os => rw [I6.os]; show z.s.os = s3.os; rw [← hz]
      case un =>
        have u : Un (frs X.stack) z.fp z.H H5 z.s.heap s6.heap := I6.base
        rw [← hz] at u
        exact u
      case ch =>
        obtain ⟨_, q1, q2, q3, q4, q5⟩ := f3 b hb
        exact ⟨q3, q1, q4, q5⟩
      case fp =>
        have q := I3.fpOk (H' := H5) (Nat.le_refl _) (by have z' : H5 z.C = none := I6.free; rw [hzC] at z'; exact z')
        exact q
    · refine wpAny_mono (T.item (cxComp X N' scope (cloOf X.env scope.names []) z) rfl rfl rfl hc i [] s5 σ5 H5 (fun _ _ => False) I5 (stat fr5) st5 go) (fun r s6 ⟨u, hr, h6⟩ => ?_) fun _ _ f => f.elim
      subst hr
      refine wpAny_bind (wpAny_mono h6 (fun _ s7 hh9 => ?_) fun _ _ f => f.elim)
      obtain ⟨x, H7, I7, r7, y7, st7, fr7⟩ := hh9
      have I7' := I7.pinned (stat fr7) (T.obj _ _ st7)
      have hg7 := hg z _ s7 σ5 H7 x u _ I7' r7 (step x H7 y7)
      have envz : (cxComp X N' scope (cloOf X.env scope.names []) z).env = compEnvC scope (cloOf X.env scope.names []) s3.heap.objs.size X.env := by
        show compEnvC scope (cloOf X.env scope.names []) z.C X.env = _
        rw [hzC]
      rw [envz] at hg7
      refine wpAny_bind (wpAny_mono hg7 (fun _ s8 hh9 => ?_) fun _ _ f => f.elim)
      obtain ⟨σ8, H8, I8, q8⟩ := hh9
      have hf8 := hf z _ s8 σ8 H8 _ I8 q8
      rw [envz] at hf8
      refine wpAny_bind (wpAny_mono hf8 (fun b s9 hh9 => ?_) fun _ _ f => f.elim)
      obtain ⟨H9, I9, q9⟩ := hh9
      have back : ∀ {s' : Shared} {H' : Hp}, Inv (cxComp X N' scope (cloOf X.env scope.names []) z) ([] ++ pinsAt fp s7.heap) σ8 H' s' → Nx σ8 H' →
          ∃ m, m < n ∧ ∃ i σ' H', Inv (cxComp X N' scope (cloOf X.env scope.names []) z) [] σ' H' s' ∧ tn i s'.heap ∧ (∀ b ∈ fp, H' b = none) ∧ W i m σ' H' := fun {s' H'} I' nx => by
        obtain ⟨m', hm, w'⟩ := hNx σ8 H' nx
        refine ⟨m', hm, i + 1, σ8, H', I'.unpinned, T.keep _ _ _ st7 fun b hb o e => (I'.pin (b, o) (List.mem_append_right _ (List.mem_append_right _ (mem_pinsAt hb e)))).1, fun b hb => ?_, w'⟩
        obtain ⟨o, e, d⟩ := T.obj _ _ st7 b hb
        exact (I'.pin (b, o) (List.mem_append_right _ (List.mem_append_right _ (mem_pinsAt hb e)))).2.1
      cases b with
      | false =>
        have q9' : Nx σ8 H9 := q9
        simp only [Bool.false_eq_true, if_false]
        have bk := back I9 q9'
        exact wpAny_pure ⟨rfl, bk⟩
      | true =>
        have he9 := he z _ s9 σ8 H9 _ I9 q9
        rw [envz] at he9
        simp only [if_true]
        refine wpAny_bind (wpAny_bind (wpAny_mono he9 (fun v s10 hh9 => ?_) fun _ _ f => f.elim))
        obtain ⟨y, H10, I10, r10, ys, hy, hyl, nx⟩ := hh9
        have ap := mt_append (X := cxComp X N' scope (cloOf X.env scope.names []) z) _ s10 σ8 H10 (.ref s2.heap.objs.size) [y] (.ref s2.heap.objs.size) [v] (fun _ H' => H' = upd H10 s2.heap.objs.size (.lst (ys ++ [y]))) I10 rfl (.cons r10 .nil) ⟨_, ys, y, rfl, rfl, hy, hyl, rfl⟩
        refine wpAny_bind (wpAny_mono ap (fun _ s11 hh9 => ?_) fun _ _ f => f.elim)
        obtain ⟨_, H11, I11, _, e11⟩ := hh9
        subst e11
        have bk := back I11 nx
        exact wpAny_pure (wpAny_pure ⟨rfl, bk⟩)
  have fin := codeAny_compStart_list (ifs := ifs) (rest := []) (target := tg) loop (T.self _ _ _ _ _ st4' loop)
  exact fin


theorem pe_comp (hi : PI X tg iter wi) (hg : ∀ z, PG (cxComp X N' scope (cloOf X.env scope.names []) z) tg (g z)) (hf : ∀ z, PIf (cxComp X N' scope (cloOf X.env scope.names []) z) ifs (tt z)) (he : ∀ z, PE (cxComp X N' scope (cloOf X.env scope.names []) z) elt (te z))
    (hc : X.calm = true) (ho : X.env.scope = osc) (hn : NamesOk osc X.N N' scope) (hl : N'.length = X.N.length + n0) (hs : ∀ x, foldedSetIterable iter X.env x = pure x := by intro _; rfl) :
    PE X (.ListComp elt [⟨tg, iter, ifs, 0⟩] scope pos) (tComp n0 wi g tt te) := by
  intro pins s σ H Q I h
  rw [eval_ListComp]
  refine wpAny_comprehension_free (use := none) rfl hs (closureFor_eq (cells_of I ho hn)) hn.kind hn.loc (thn (hi pins s σ H _ I h) fun v s1 h1 => thn h1 fun itv s2 h2 => ?_)
  obtain ⟨it, fp, tn, J, H2, rfl, I2, T, st2, f2, h3⟩ := h2
  refine comp_block (RR := fun acc C => compPost (model X.prog X.w) X.A X.xe none (EP X pins σ Q) acc C) hc ho hn hl hg hf he I2 T st2 f2 h3 fun p C s' H' I' fC hns q => ?_
  obtain ⟨m, hm⟩ := hns
  refine ⟨m, hm, fun h' sb => ⟨.ref p, H', ?_, rfl, q⟩⟩
  obtain ⟨q0, q1, q2, q3, q4, q5⟩ := fC
  exact I'.turned (t' := s'.toks) (fun b o hb e => sb.extBut b o hb e) q0 q1 q3 q4 q5


theorem ps_setComp {i : Nat} {x : Str} {pos' spos : Pos} (hN : X.N.Nodup) (hi' : X.N[i]? = some x) (hx : Loc X.env.scope x) (hi : PI X tg iter wi) (hg : ∀ z, PG (cxComp X N' scope (cloOf X.env scope.names []) z) tg (g z)) (hf : ∀ z, PIf (cxComp X N' scope (cloOf X.env scope.names []) z) ifs (tt z)) (he : ∀ z, PE (cxComp X N' scope (cloOf X.env scope.names []) z) elt (te z))
    (hc : X.calm = true) (ho : X.env.scope = osc) (hn : NamesOk osc X.N N' scope) (hl : N'.length = X.N.length + n0)
    (hsw : swapsWith (.ListComp elt [⟨tg, iter, ifs, 0⟩] scope pos) (some (.Name x pos')) spos.line X.env = pure true := by rfl) (hs : ∀ x, foldedSetIterable iter X.env x = pure x := by intro _; rfl) (hfn : X.fn x = true ∨ X.env.scope.names.lookup x = some .local := by first | exact .inl rfl | exact .inr rfl | assumption) :
    PS X (.Assign [.Name x pos'] (.ListComp elt [⟨tg, iter, ifs, 0⟩] scope pos) spos) (tAsg (tComp n0 wi g tt te) (gName i)) := by
  intro pins s σ H D I h
  rw [exec_Assign_Name_used _ _ _ _ hsw]
  refine wpAny_bind (wpAny_standAt (wpAny_bind ?_))
  show wpAny _ X.A (do let _ ← comprehension (.ListComp elt [⟨tg, iter, ifs, 0⟩] scope pos) scope X.env _ (newList []) false (eval iter X.env) (some (assign (.Name x pos') X.env))) _ _ s
  refine wpAny_bind (wpAny_mono (wpAny_comprehension_free (use := some (assign (.Name x pos') X.env)) (Q := fun _ s' => SP X pins D .next s') rfl hs (closureFor_eq (cells_of I ho hn)) hn.kind hn.loc
    (thn (hi pins s σ H _ I h) fun v s1 h1 => thn h1 fun itv s2 h2 => ?_)) (fun _ s' hq => wpAny_pure (wpAny_pure hq)) fun _ _ e => e)
  obtain ⟨it, fp, tn, J, H2, rfl, I2, T, st2, f2, h3⟩ := h2
  refine comp_block (RR := fun acc C => compPost (model X.prog X.w) X.A X.xe (some (assign (.Name x pos') X.env)) (fun _ s' => SP X pins D .next s') acc C) hc ho hn hl hg hf he I2 T st2 f2 h3 fun p C s' H' I' fC hns q => ?_
  obtain ⟨m, hm⟩ := hns
  obtain ⟨q0, q1, q2, q3, q4, q5⟩ := fC
  refine wpAny_assign_Name (store_ok2 I' hN hi' hx (v := .ref p) rfl (fun s'' I'' ⟨a, sa, ha⟩ => ⟨m, hm.sameBut sa ?_, fun h' sb => ⟨_, H', ?_, q⟩⟩) hfn)
  · rcases ha with ha | ha
    · rw [ha]; exact q1
    · exact fun e => q4 x a ha e.symm
  · exact I''.turned (t' := s''.toks) (fun b o hb e => sb.extBut b o hb e) q0 q1 q3 q4 q5
end


section
variable {K : PySem.W.Frag} {g : Cz → TG} {tt : Cz → TT} {te : Cz → TE} {σ : St} {Q : VK} {H1 : Hp} {n0 : Nat}
theorem comp_list {a : Addr} {xs : List V} (Pv : Addr → Nat → St → Hp → Prop) (h0 : ∀ p, H1 p = none → Pv p 0 (σ ++ List.replicate n0 none) (upd H1 p (.lst [])))
    (hl : ∀ p i σ H, H1 p = none → i ≤ xs.length → Pv p i σ H → SqL K H a xs)
    (hs : ∀ p z i x σ H, H1 p = none → xs[i]? = some x → Pv p i σ H → g z x σ H fun σ3 H3 => tt z σ3 H3 fun b H4 =>
      if b = true then te z σ3 H4 fun v H5 => ∃ ys, H5 p = some (.lst ys) ∧ ys.length < sizeLine ∧ Pv p (i + 1) σ3 (upd H5 p (.lst (ys ++ [v]))) else Pv p (i + 1) σ3 H4)
    (hd : ∀ p σ H, H1 p = none → Pv p xs.length σ H → Q (.ref p) H) : CompR n0 g tt te σ Q (Itl K a) H1 := by
  intro p hp
  refine ⟨fun i m σ H => m = xs.length - i ∧ i ≤ xs.length ∧ Pv p i σ H, ⟨xs.length, by simp, Nat.zero_le _, h0 p hp⟩, ?_⟩
  rintro z i m σ2 H ⟨rfl, hi, pv⟩
  have q := hl p i σ2 H hp hi pv
  by_cases hlt : i < xs.length
  · refine .inr ⟨⟨xs, xs[i], q, by simp [hlt]⟩, Pv p (i + 1), fun σ' H' p' => ⟨xs.length - (i + 1), by omega, rfl, hlt, p'⟩, fun x H' y => ?_⟩
    obtain ⟨e, y⟩ := y
    subst e
    exact hs p z i x σ2 _ hp (y xs q) pv
  · have e : i = xs.length := by omega
    subst e
    exact .inl ⟨⟨xs, q, Nat.le_refl _⟩, hd p σ2 H hp pv⟩
end
end L2

set_option maxHeartbeats 1000000

namespace L2
open PySem PySem.Spec PyProof.Rows


section
variable {prog : Program} {w : World} {K : Type} [DecidableEq K] (knd : HeapKind prog w K) (d a : Addr)
end

theorem KT.drop {H : Hp} {kvs : List (List Key × V)} {xs : List (List Key × Addr × Value)} (r : KT H kvs xs) (k : List Key) : KT H (dropK kvs k) (xs.filter fun x => decide (x.1 ≠ k)) := by
  induction r with
  | nil => exact .nil
  | @cons p q ps qs h t ih =>
    unfold dropK at ih ⊢
    rw [List.filter_cons, List.filter_cons]
    by_cases e : p.1 = k
    · have e' : q.1 = k := h.1.symm.trans e
      rw [if_neg (by simp [e]), if_neg (by simp [e'])]
      exact ih
    · have e' : ¬ q.1 = k := fun z => e (h.1.trans z)
      rw [if_pos (by simp [e]), if_pos (by simp [e'])]
      exact .cons h ih

section
variable {X : Cx} {pins : List (Addr × Obj)} {σ : St} {H : Hp} {s : Shared} {a b : Addr} {kvs : List (List Key × V)} {k : List Key} {A : Around} {E : Value → Shared → Prop}
end


noncomputable def RawD (h : Heap) (d : Addr) (es : Array DictEntry) (ep : Nat) : Prop := ∃ o, h.get? d = some o ∧ o.ExactDict ∧ o.data = .dict es ep
theorem RawD.typeIs {s : Shared} {d : Addr} {es : Array DictEntry} {ep : Nat} (r : RawD s.heap d es ep) : s.TypeIs (.ref d) "dict" := let ⟨o, ho, hc, _⟩ := r; ⟨o, ho, hc.1⟩
theorem RawD.at {h h' : Heap} {d : Addr} {es : Array DictEntry} {ep : Nat} (r : RawD h d es ep) (k : ∀ o, h.get? d = some o → h'.get? d = some o) : RawD h' d es ep := let ⟨o, ho, x⟩ := r; ⟨o, k o ho, x⟩
theorem RawD.lt {h : Heap} {d : Addr} {es : Array DictEntry} {ep : Nat} (r : RawD h d es ep) : d < h.objs.size := let ⟨_, ho, _⟩ := r; Heap.lt_size ho

section
variable {prog : Program} {w : World} {A : Around} {E : Value → Shared → Prop} {s : Shared} {d : Addr} {es : Array DictEntry} {ep : Nat}
theorem raw_len {Q : Value → Shared → Prop} (hd : (d == sysModules) = false) (r : RawD s.heap d es ep) (hfit : es.size ≤ sizeLine) (h : ∀ t tk, Q (.int es.size t) { s with toks := tk }) :
    wpAny (model prog w) A (call (.builtin "len") [.ref d]) Q E s := by
  have hf63 : es.size < 2 ^ 63 := Nat.lt_of_le_of_lt hfit line63
  have hlen : MeetsIn prog w (Builtin.«dict.__len__» ⟨[.ref d], []⟩) (fun _ R s => RawD s.heap d es ep ∧ R (.ok (.ret (.int es.size s.toks))) { s with toks := s.toks + 1 }) :=
    .of_wp fun A R s ⟨⟨o, ho, _, hdat⟩, h⟩ => by
      show wpAny _ _ (dictSize d >>= _) _ _ s
      unfold dictSize
      refine wpAny_bind (wpAny_bind (wpAny_dictEntries ho hdat (wpAny_pure ?_)))
      show wpAny _ _ (Builtin.Dict.pendingCount d >>= _) _ _ s
      refine wpAny_bind (wpAny_pendingCount_other hd (wpAny_ret_mkInt ?_))
      rw [Nat.add_zero]
      exact h
  refine Calls.call_function_entry kind_len plain_len entry_len (args_len1 _) ?_
  unfold Builtin.«len»
  refine wpAny_bind (m := oneArg "len" _) (wpAny_pure ?_)
  refine wpAny_bind (m := callSpecial? (.ref d) (Str.ofString "__len__")) (wpAny_callSpecial?_slot (name := Str.ofString "__len__") r.typeIs F.slot_dict_len
    (call_meetsIn F.slot_dict_len r.typeIs F.entry_dict_len (F.args_dict_len_1 _) hlen ⟨r, ?_⟩))
  show wpAny _ _ _ _ _ { s with toks := s.toks + 1 }
  refine wpAny_bind (wpAny_holding (wpAny_pure (wpAny_bind (wpAny_letGo ?_))))
  show wpAny _ _ (if ((es.size : Nat) : Int) < 0 then _ else _) _ _ _
  rw [if_neg (by omega)]
  show wpAny _ _ (if ((es.size : Nat) : Int) ≥ 2 ^ 63 then _ else _) _ _ _
  rw [if_neg (by omega)]
  exact wpAny_bind (wpAny_mkInt (wpAny_pure ⟨_, rfl, h _ _⟩))


theorem raw_iter {Q : Value → Shared → Prop} (hd : (d == sysModules) = false) (r : RawD s.heap d es ep)
    (hQ : Q (.ref s.heap.objs.size) { s with heap := s.heap.push { cls := .type "dict_keyiterator", data := .fields #[.ref d, .int 0 0, .int es.size 0, .int ep 0] } }) : wpAny (model prog w) A (pyIter (.ref d)) Q E s := by
  obtain ⟨o, ho, hc, hdat⟩ := id r
  refine wpAny_pyIter_slot r.typeIs F.slot_dict_iter (wpAny_call_entry F.slot_dict_iter r.typeIs F.entry_dict_iter ?_ (F.args_dict_iter_1 _))
  unfold Builtin.«dict.__iter__»
  refine wpAny_bind ?_
  unfold Builtin.Dict.dictSlotNone
  refine wpAny_bind (wpAny_notOrdered_dict r.typeIs ?_)
  show wpAny _ _ (pure (Value.ref d)) _ _ s
  refine wpAny_pure ?_
  show wpAny _ _ (Builtin.Dict.showsAll d >>= _) _ _ s
  unfold Builtin.Dict.showsAll
  rw [if_neg (by rw [hd]; exact Bool.false_ne_true)]
  refine wpAny_bind (wpAny_pure (wpAny_bind (wpAny_dictEntries ho hdat (wpAny_bind (wpAny_dictEpoch ho hdat ?_)))))
  refine wpAny_bind (wpAny_newObj_type (wpAny_pure ⟨_, rfl, "dict_keyiterator", _, ⟨_, Heap.get?_push_size _ rfl, rfl⟩, F.slot_dict_keyiterator_next.lookup, ?_⟩))
  simpa [rawInt] using hQ

theorem raw_next {it : Addr} {i : Nat} {Q : Option Value → Shared → Prop} (hh : A.handled = none) (hit : s.heap.IsKeyIter it d i es.size ep) (r : RawD s.heap d es ep)
    (hi : ∀ h e, es[i]? = some e → h.IsKeyIter it d (i + 1) es.size ep → Heap.SameBut it s.heap h → Q (some e.key) { s with heap := h })
    (hn : es.size ≤ i → ∀ h, Heap.ExtBut it s.heap h → Q none { s with heap := h }) : wpAny (model prog w) A (pyNext (.ref it)) Q E s := by
  obtain ⟨o, ho, hc, hd⟩ := id hit
  obtain ⟨od, hod, hcd, hdd⟩ := id r
  unfold pyNext
  refine wpAny_bind (wpAny_attempt (wpAny_callSpecial?_slot (name := Str.ofString "__next__") hit.typeIs F.slot_dict_keyiterator_next
    (wpAny_call_entry F.slot_dict_keyiterator_next hit.typeIs F.entry_dict_keyiterator_next ?_ (F.args_dict_keyiterator_next_1 _))))
  refine wpAny_bind (wpAny_pure (wpAny_bind (wpAny_bind ?_)))
  first | refine wpAny_bind (wpAny_typeNameOfWhole_keyiter hit.typeIs (wpAny_pure ?_)) | refine wpAny_bind (wpAny_typeNameOf_keyiter hit.typeIs (wpAny_pure ?_))
  refine wpAny_bind (wpAny_fieldsOf ho hd ?_)
  simp only [show Builtin.Dict_items.ownsTuple "dict_keyiterator" = false by decide, Bool.false_eq_true, if_false]
  show wpAny _ _ (if (Value.ref d == Value.none) = true then _ else _) _ _ s
  rw [if_neg (show ¬ ((Value.ref d == Value.none) = true) from Bool.false_ne_true)]
  refine wpAny_bind (wpAny_pure (wpAny_bind (wpAny_dictEntries hod hdd ?_)))
  rw [if_neg (by simp)]
  refine wpAny_bind (wpAny_pure (wpAny_bind (wpAny_dictEpoch hod hdd ?_)))
  rw [if_neg (by simp)]
  refine wpAny_pure ?_
  by_cases hlt : i < es.size
  · simp only [show ¬ ((i : Int) < 0) from by omega, if_false, Int.toNat_natCast, Array.getElem?_eq_getElem hlt]
    refine wpAny_bind ?_
    first | refine wpAny_bind (wpAny_typeNameOfWhole_keyiter hit.typeIs (wpAny_pure ?_)) | refine wpAny_bind (wpAny_typeNameOf_keyiter hit.typeIs (wpAny_pure ?_))
    refine wpAny_bind (wpAny_isOneOf_keyiter hit.typeIs ?_)
    show wpAny _ _ (setField (.ref it) 1 (rawInt ((i : Int) + 1)) >>= _) _ _ s
    refine wpAny_bind (wpAny_setField ho hd (by simp) ?_)
    have hit' : (s.heap.update it (Obj.mapFields (·.setIfInBounds 1 (rawInt ((i : Int) + 1))))).IsKeyIter it d (i + 1) es.size ep :=
      ⟨_, Heap.get?_update_self _ ho (Obj.isFreed_of_fields (Obj.data_mapFields hd _)), (Obj.cls_mapFields ..).trans hc, by rw [Obj.data_mapFields hd]; simp [rawInt]⟩
    refine wpAny_bind (wpAny_holding (wpAny_bind (wpAny_isOneOf_keyiter (s := { s with heap := s.heap.update it (Obj.mapFields (·.setIfInBounds 1 (rawInt ((i : Int) + 1)))) }) hit'.typeIs ?_)))
    show wpAny _ _ (pure es[i].key) _ _ _
    exact wpAny_pure (wpAny_pure ⟨_, rfl, wpAny_pure (hi _ es[i] (by simp [hlt]) hit' (Heap.SameBut.update ..))⟩)
  · have hge : es.size ≤ i := Nat.le_of_not_lt hlt
    simp only [show ¬ ((i : Int) < 0) from by omega, if_false, Int.toNat_natCast, Array.getElem?_eq_none hge]
    refine wpAny_bind ?_
    first | refine wpAny_bind (wpAny_typeNameOfWhole_keyiter hit.typeIs (wpAny_pure ?_)) | refine wpAny_bind (wpAny_typeNameOf_keyiter hit.typeIs (wpAny_pure ?_))
    show wpAny _ _ (setField (.ref it) 0 .none >>= _) _ _ s
    refine wpAny_bind (wpAny_setField ho hd (by simp) ?_)
    show wpAny _ _ (newExc (.type "StopIteration") [] >>= _) _ _ _
    refine wpAny_bind ?_
    simp only [newExc, newTuple]
    refine wpAny_bind (wpAny_newObj_type ?_ (by size_fits))
    refine wpAny_bind (m := firstArgMember _ _) (wpAny_of_eq (a := Value.none) (by first | rfl | (simp only [firstArgMember]; rfl)) ?_)
    refine wpAny_newObj_type ?_ (by size_fits)
    simp only [raiseNew]
    refine wpAny_bind (wpAny_handled ?_)
    rw [show A.in1.handled = none from hh]
    refine wpAny_bind (wpAny_pure (wpAny_throw ?_))
    refine wpAny_bind (wpAny_isInstance (T := "StopIteration") (b := true) ⟨_, Heap.get?_push_size _ rfl, rfl⟩ isSubtype_stop ?_)
    exact wpAny_pure (hn hge _ (((Heap.SameBut.update ..).extBut.push _).push _))

theorem raw_walks (hh : A.handled = none) (I : Addr) (hne : d ≠ I) : Walks prog w A I [I, d] [I] es.size (fun i v => ∃ e, es[i]? = some e ∧ v = e.key) (fun i h => h.IsKeyIter I d i es.size ep ∧ RawD h d es ep) where
  sub := fun b hb => by simp at hb; simp [hb]
  frame := fun _ _ _ st hk => ⟨st.1.at fun o e => hk I (by simp) o e, st.2.at fun o e => hk d (by simp) o e⟩
  item := fun i s Q E hi st hQ => raw_next hh st.1 st.2 (fun h e he hit' hs' => hQ _ _ s.toks ⟨e, he, rfl⟩ ⟨hit', st.2.at fun o q => hs'.extBut d o hne q⟩ fun b o hb q => hs'.extBut b o (fun z => hb (by simp [z])) q) fun hge => absurd hi (Nat.not_lt.mpr hge)
  done := fun s Q E st hQ => raw_next hh st.1 st.2 (fun h e he => absurd (Array.getElem?_eq_some_iff.mp he).1 (Nat.lt_irrefl _)) fun _ h' he' => hQ h' s.toks fun b o hb q => he' b o (fun z => hb (by simp [z])) q
  self := fun _ _ _ _ st hQ => wpAny_pyIter_keyiter st.1 hQ

theorem raw_src (lo : (d == sysModules) = false) : PySem.W.KdlSrc prog w "dict" d d es.size (fun i v => ∃ e, es[i]? = some e ∧ v = e.key) (fun h => RawD h d es ep) where
  type := fun _ hm => hm.typeIs
  there := fun _ hm => ⟨hm.lt, hm.lt⟩
  keep := fun _ _ hm hk => hm.at fun o e => hk d (.inl rfl) o e
  notList := by decide
  notTuple := by decide
  hint := fun _ _ _ _ hm hq => PySem.W.kdl_hint_dict hm.typeIs hq
  iter := fun _ _ hh hm => ⟨_, _, (fun _ _ hq => raw_iter lo hm hq), raw_walks hh _ (Nat.ne_of_lt hm.lt), ⟨⟨_, Heap.get?_push_size _ rfl, rfl, rfl⟩, hm.at fun o e => Heap.get?_push_of_some _ e⟩⟩
end


theorem refs_vals : ∀ xs : List (List Key × Addr × Value), Vals (xs.map fun x => V.ref x.2.1) (xs.map fun x => Value.ref x.2.1)
  | [] => .nil
  | _ :: r => .cons rfl (refs_vals r)

noncomputable def KeyRefs (H : Hp) (kvs : List (List Key × V)) (bs : List V) : Prop := Paired (fun (p : List Key × V) (y : V) => ∃ b, y = .ref b ∧ H b = some (.tup (p.1.map kV))) kvs bs
theorem KT.refs {H : Hp} {kvs : List (List Key × V)} {xs : List (List Key × Addr × Value)} (h : KT H kvs xs) : KeyRefs H kvs (xs.map fun x => V.ref x.2.1) := by
  induction h with
  | nil => exact .nil
  | cons h t ih => exact .cons ⟨_, rfl, h.2.1⟩ ih
section
variable {X : Cx} {pins : List (Addr × Obj)} {σ : St} {H : Hp} {s : Shared} {a : Addr} {kvs : List (List Key × V)} {A : Around} {E : Value → Shared → Prop}
theorem dt_raw (I : Inv X pins σ H s) (e : Rd H a (.dT kvs)) : ∃ es ep, (a == sysModules) = false ∧ RawD s.heap a es ep ∧ es.size = kvs.length ∧ kvs.length ≤ sizeLine ∧
    ∀ vs : List Value, vs.length = es.size → (∀ (j : Nat) (v : Value), vs[j]? = some v → ∃ e, es[j]? = some e ∧ v = e.key) → ∃ bs, KeyRefs H kvs bs ∧ Vals bs vs := by
  obtain ⟨z, hd, xs, rel, o, es, ep, ho, hc, hdat, he, _, _⟩ := dt_rd I.hok e
  have hsz := size_of_entries he
  have hl := Paired.length rel
  refine ⟨es, ep, hd, ⟨o, ho, hc, hdat⟩, by omega, z, fun vs hv hk => ?_⟩
  have hvs : vs = xs.map fun x => Value.ref x.2.1 := by
    apply List.ext_getElem?
    intro j
    rw [List.getElem?_map]
    cases q : vs[j]? with
    | none =>
      have h1 : vs.length ≤ j := List.getElem?_eq_none_iff.mp q
      rw [List.getElem?_eq_none (by omega), Option.map_none]
    | some v =>
      obtain ⟨en, h1, rfl⟩ := hk j v q
      rw [entry_at he j] at h1
      cases q2 : xs[j]? with
      | none => rw [q2] at h1; cases h1
      | some x =>
        rw [q2] at h1
        cases h1
        rfl
  subst hvs
  exact ⟨xs.map fun x => V.ref x.2.1, KT.refs rel, refs_vals xs⟩

theorem d_lenT {Q : Value → Shared → Prop} (I : Inv X pins σ H s) (e : Rd H a (.dT kvs)) (h : ∀ t s', Inv X pins σ H s' → Q (.int kvs.length t) s') : wpAny (model X.prog X.w) A (call (.builtin "len") [.ref a]) Q E s := by
  obtain ⟨es, ep, hd, r, hs, z, _⟩ := dt_raw I e
  refine raw_len hd r (by omega) fun t tk => ?_
  rw [hs]
  exact h t _ (I.tok tk)
end

theorem call_lenT {X : Cx} : CallR X (.builtin "len") (fun xs H Q => ∃ a kvs, xs = [V.ref a] ∧ H a = some (.dT kvs) ∧ Q (.int kvs.length) H) := by
  intro pins s σ H xs us Q I r h
  obtain ⟨a, kvs, rfl, ha, q⟩ := h
  obtain ⟨u, rfl, ru⟩ := vals1 r
  cases ru
  exact d_lenT I (.inl ha) fun t s' I' => ⟨.int kvs.length, H, I', ⟨t, rfl⟩, q⟩


end L2

set_option maxHeartbeats 1000000

namespace HwSort
open PySem PySem.W PySem.Spec PyProof.Rows HT


theorem lex_irr : ∀ a : List Int, HT.lexLt a a = false
  | [] => rfl
  | x :: r => by rw [lexLt_cons, if_pos rfl]; exact lex_irr r
theorem lex_trans : ∀ a b c : List Int, HT.lexLt a b = true → HT.lexLt b c = true → HT.lexLt a c = true
  | [], [], _, h, _ => by simp [HT.lexLt] at h
  | [], _ :: _, [], _, h => by simp [HT.lexLt] at h
  | [], _ :: _, _ :: _, _, _ => rfl
  | _ :: _, [], _, h, _ => by simp [HT.lexLt] at h
  | _ :: _, _ :: _, [], _, h => by simp [HT.lexLt] at h
  | x :: a, y :: b, z :: c, h1, h2 => by
    rw [lexLt_cons] at h1 h2 ⊢
    by_cases e1 : x = y
    · subst e1
      rw [if_pos rfl] at h1
      by_cases e2 : x = z
      · subst e2
        rw [if_pos rfl] at h2 ⊢
        exact lex_trans a b c h1 h2
      · rw [if_neg e2] at h2 ⊢
        exact h2
    · rw [if_neg e1] at h1
      have l1 : x < y := of_decide_eq_true h1
      by_cases e2 : y = z
      · subst e2
        rw [if_neg e1]
        exact h1
      · rw [if_neg e2] at h2
        have l2 : y < z := of_decide_eq_true h2
        rw [if_neg (by omega)]
        exact decide_eq_true (by omega)
theorem lex_asym (a b : List Int) (h : HT.lexLt a b = true) : HT.lexLt b a = false := by
  cases e : HT.lexLt b a with
  | false => rfl
  | true =>
    have := lex_trans a b a h e
    rw [lex_irr] at this
    cases this
theorem lex_tot : ∀ a b : List Int, a ≠ b → HT.lexLt a b = true ∨ HT.lexLt b a = true
  | [], [], h => absurd rfl h
  | [], _ :: _, _ => .inl rfl
  | _ :: _, [], _ => .inr rfl
  | x :: a, y :: b, h => by
    rw [lexLt_cons, lexLt_cons]
    by_cases e : x = y
    · subst e
      rw [if_pos rfl, if_pos rfl]
      exact lex_tot a b fun q => h (by rw [q])
    · rw [if_neg e, if_neg (fun q => e q.symm)]
      rcases Int.lt_or_lt_of_ne e with l | l
      · exact .inl (decide_eq_true l)
      · exact .inr (decide_eq_true l)

theorem lex_unique : ∀ {a b : List (List Int)}, a.Perm b → a.Pairwise (fun x y => HT.lexLt x y = true) → b.Pairwise (fun x y => HT.lexLt x y = true) → a = b
  | [], b, p, _, _ => (List.Perm.nil_eq p)
  | x :: a, [], p, _, _ => by have := p.length_eq; simp at this
  | x :: a, y :: b, p, ha, hb => by
    rw [List.pairwise_cons] at ha hb
    have e : x = y := by
      have m1 : x ∈ y :: b := p.mem_iff.mp List.mem_cons_self
      have m2 : y ∈ x :: a := p.mem_iff.mpr List.mem_cons_self
      rcases List.mem_cons.mp m1 with e | m1
      · exact e
      · rcases List.mem_cons.mp m2 with e | m2
        · exact e.symm
        · have h1 := hb.1 x m1
          have h2 := ha.1 y m2
          rw [lex_asym _ _ h1] at h2
          cases h2
    subst e
    rw [lex_unique (List.Perm.cons_inv p) ha.2 hb.2]


section
variable {prog : Program} {w : World} {A : Around} {E : Value → Shared → Prop} {s : Shared}
theorem lex_walk {b fin : Bool} {Q : Bool → Shared → Prop} {xs ys : List Value} {ns ms : List Int} (hx : IntsAre xs ns) (hy : IntsAre ys ms) (hf : fin = decide (ns.length < ms.length)) (i : Nat) (h : Q (HT.lexLt ns ms) s) : KatLex prog w A b fin Q (xs.zip ys) i s := by
  induction hx generalizing ys ms i with
  | nil =>
    rw [List.zip_nil_left]
    exact kat_nil (by cases hy <;> (rw [hf]; simpa [HT.lexLt] using h))
  | cons n t r ih =>
    cases hy with
    | nil =>
      rw [List.zip_nil_right]
      exact kat_nil (by rw [hf]; simpa [HT.lexLt] using h)
    | cons m u r' =>
      rw [List.zip_cons_cons]
      refine kat_cons (wpAny_eqBool_int ?_)
      rw [lexLt_cons] at h
      by_cases e : n = m
      · subst e
        rw [if_pos rfl] at h
        rw [beq_self_eq_true]
        refine kat_yes (ih r' ?_ (i + 1) h)
        rw [hf]
        simp
      · rw [if_neg e] at h
        have e' : (n == m) = false := by simpa using e
        rw [e']
        refine kat_no ?_
        cases hb : (b && i == 0) with
        | true => exact oneLt_int h
        | false => exact kat_one _ _ (lt_int h)
noncomputable def TupsAre (h : Heap) (a : Addr) : List Value → List (List Int) → Prop := Paired fun v ks => ∃ b o xs n, v = Value.ref b ∧ b ≠ a ∧ h.get? b = some o ∧ o.cls = .type "tuple" ∧ o.data = .seq xs n ∧ IntsAre xs.toList ks ∧ ks ≠ []
theorem TupsAre.keeps {h h' : Heap} {a : Addr} {vs : List Value} {kss : List (List Int)} (t : TupsAre h a vs kss) (k : ∀ b o, b ≠ a → h.get? b = some o → h'.get? b = some o) : TupsAre h' a vs kss :=
  L2.Paired.mapP t fun v ks hh9 => by obtain ⟨b, o, xs, n, e, hb, ho, r⟩ := hh9; exact ⟨b, o, xs, n, e, hb, k b o hb ho, r⟩
theorem TupsAre.get {h : Heap} {a : Addr} {vs : List Value} {kss : List (List Int)} (x : TupsAre h a vs kss) (i : Nat) (hi : i < vs.length) : ∃ b o xs n, vs.getD i Value.none = Value.ref b ∧ h.get? b = some o ∧ o.data = .seq xs n ∧ IntsAre xs.toList (kss.getD i []) := by
  induction x generalizing i with
  | nil => exact absurd hi (Nat.not_lt_zero _)
  | cons x t ih =>
    cases i with
    | zero =>
      obtain ⟨b, o, xs, n, e, _, ho, _, hd, hi, _⟩ := x
      exact ⟨b, o, xs, n, by simp [e], ho, hd, by simpa using hi⟩
    | succ i =>
      obtain ⟨b, o, xs, n, e, r⟩ := ih i (by simpa using hi)
      exact ⟨b, o, xs, n, by simpa using e, by simpa using r⟩
theorem TupsAre.firsts {h : Heap} {a : Addr} : ∀ {vs : List Value} {kss : List (List Int)}, TupsAre h a vs kss → ∃ fs, KatTups h vs fs ∧ fs.length = vs.length ∧ ∀ v ∈ fs, ∃ n t, v = Value.int n t
  | _, _, .nil => ⟨[], trivial, rfl, fun _ h => by cases h⟩
  | _, _, .cons hx9 t => by
    obtain ⟨b, o, xs, n, e, _, ho, hc, hd, hi, hne⟩ := hx9
    obtain ⟨fs, h1, h2, h3⟩ := TupsAre.firsts t
    obtain ⟨xs⟩ := xs
    cases hi with
    | nil => exact absurd rfl hne
    | cons m u r =>
      subst e
      refine ⟨.int m u :: fs, ⟨⟨b, o, _, n, rfl, ho, hc, hd, by simp⟩, h1⟩, by simp [h2], fun v hv => ?_⟩
      rcases List.mem_cons.mp hv with rfl | hv
      · exact ⟨m, u, rfl⟩
      · exact h3 v hv
noncomputable def kLt (kss : List (List Int)) (i j : Nat) : Bool := HT.lexLt (kss.getD i []) (kss.getD j [])
theorem getD_inj {α : Type} {l : List α} {d : α} (hn : l.Nodup) {i j : Nat} (hi : i < l.length) (hj : j < l.length) (e : l.getD i d = l.getD j d) : i = j := by
  have e1 : l.getD i d = l[i] := by simp [hi]
  have e2 : l.getD j d = l[j] := by simp [hj]
  rw [e1, e2] at e
  exact (List.getElem_inj hn).mp e
theorem tup_ord {a : Addr} {vs : List Value} {kss : List (List Int)} {b : Bool} (t : TupsAre s.heap a vs kss) (hn : kss.Nodup) : Ord (kas_ask prog w A (tuples' b) vs) s (kLt kss) vs.length := by
  have hl : vs.length = kss.length := Paired.length t
  refine ⟨fun i j C hi hj h => ?_, fun i j k _ _ _ h1 h2 => lex_trans _ _ _ h1 h2, fun i j _ _ h => lex_asym _ _ h, fun i j hi hj hne => lex_tot _ _ fun e => hne (getD_inj hn (by omega) (by omega) e)⟩
  obtain ⟨x, ox, xs, n, ex, hx, dx, ix⟩ := t.get i hi
  obtain ⟨y, oy, ys, k, ey, hy, dy, iy⟩ := t.get j hj
  unfold kas_ask
  rw [ex, ey]
  refine kat_lt hx dx hy dy (lex_walk ix iy ?_ 0 h)
  rw [← ix.length, ← iy.length]
  simp


structure Sorted (vs : List Value) (kss : List (List Int)) (out : List Value) (oss : List (List Int)) : Prop where
  perm : oss.Perm kss
  rise : oss.Pairwise fun x y => HT.lexLt x y = true
  same : ∃ ps : List Nat, ps.Perm (List.range vs.length) ∧ out = ps.map (fun i => vs.getD i Value.none) ∧ oss = ps.map fun i => kss.getD i []
theorem map_getD_range {α : Type} (l : List α) (d : α) : (List.range l.length).map (fun i => l.getD i d) = l := by
  apply List.ext_getElem?
  intro j
  rw [List.getElem?_map]
  by_cases h : j < l.length
  · rw [List.getElem?_range h]
    simp [h]
  · rw [List.getElem?_eq_none (by simpa using h), List.getElem?_eq_none (by simpa using h)]
    rfl
theorem sorted_of {vs : List Value} {kss : List (List Int)} (hl : vs.length = kss.length) {p : Array Nat} (a : Arr vs.length p) (h : Asc (kLt kss) p vs.length) :
    Sorted vs kss (p.toList.map fun i => vs.getD i Value.none) (p.toList.map fun i => kss.getD i []) := by
  have hp : p.toList.Perm (List.range vs.length) := by simpa using a.perm.toList
  refine ⟨?_, ?_, p.toList, hp, rfl, rfl⟩
  · have := hp.map fun i => kss.getD i []
    rw [hl, map_getD_range] at this
    exact this
  · rw [List.pairwise_map, List.pairwise_iff_getElem]
    intro i j hi hj hij
    rw [Array.length_toList, a.size] at hi hj
    have := h i j hij hj
    unfold kLt at this
    have e1 : at0 p i = p.toList[i] := by simp [at0, Array.getD, a.size, hi]
    have e2 : at0 p j = p.toList[j] := by simp [at0, Array.getD, a.size, hj]
    rw [e1, e2] at this
    exact this

theorem range_at {n i : Nat} (h : i < n) : at0 (List.toArray (List.range n)) i = i := by
  refine at0_of ?_
  simp [h]

theorem tup_run {a : Addr} {vs : List Value} {kss : List (List Int)} {b : Bool} {Q : SortSt → Shared → Prop} (t : TupsAre s.heap a vs kss) (hn : kss.Nodup) (h2 : 2 ≤ vs.length) (hb : vs.length < 64 ∨ kss.Pairwise fun x y => HT.lexLt x y = true)
    (hQ : ∀ st' out oss, Sorted vs kss out oss → (arrOf st').map (·.2) = out.toArray → failedOf st' = none → Q st' s) :
    wpAny (model prog w) A ((sortRuns').run (SortSt.mk' (tuples' b) (vs.toArray.zip vs.toArray) #[] 7 none)) (fun r s' => Q r.2 s') E s := by
  have hl : vs.length = kss.length := Paired.length t
  rcases hb with h64 | hr
  · exact kat_run (ks := vs) (Q := Q) (G := fun p s' => s' = s ∧ Arr vs.length p ∧ Asc (kLt kss) p vs.length) rfl h2 h64 (fun p st' s' hp har hf hg => by
      obtain ⟨rfl, ar, as⟩ := hg
      exact hQ st' _ _ (sorted_of hl ar as) (kat_snds rfl har) hf) (wp_sort (tup_ord t hn) (by omega) fun p' ar as => ⟨rfl, ar, as⟩)
  · have as : Asc (kLt kss) (List.toArray (List.range vs.length)) vs.length := by
      intro i j hij hj
      rw [range_at (by omega), range_at hj]
      unfold kLt
      have h1 : i < kss.length := by omega
      have h3 : j < kss.length := by omega
      have e1 : kss.getD i [] = kss[i] := by simp [h1]
      have e2 : kss.getD j [] = kss[j] := by simp [h3]
      rw [e1, e2]
      exact List.pairwise_iff_getElem.mp hr i j h1 h3 hij
    have o := tup_ord (prog := prog) (w := w) (A := A) (b := b) t hn
    rw [kat_ask_eq (ks := vs) (vs := vs) rfl] at o
    have run := run_asc (E := E) (Q := fun _ st' s' => Q st' s') h2 o as fun st' har hf => hQ st' _ _ (sorted_of hl (arr_range _) as) (kat_snds (ks := vs) rfl har) hf
    have est : SortSt.mk' (tuples' b) (vs.toArray.zip vs.toArray) #[] 7 none = kas_st (tuples' b) (vs.toArray.zip vs.toArray) (List.toArray (List.range vs.length)) := by
      have e := kas_range (vs.toArray.zip vs.toArray)
      rw [show (vs.toArray.zip vs.toArray).size = vs.length by simp] at e
      show SortSt.mk' (tuples' b) (vs.toArray.zip vs.toArray) #[] 7 none = SortSt.mk' (tuples' b) ((List.toArray (List.range vs.length)).map (kas_item (vs.toArray.zip vs.toArray))) #[] 7 none
      rw [e]
    rw [est]
    exact run


noncomputable def Runner (prog : Program) (w : World) (A : Around) (E : Value → Shared → Prop) (kss : List (List Int)) : Prop :=
  ∀ {s : Shared} {a : Addr} {vs : List Value} {b : Bool} {Q : SortSt → Shared → Prop}, TupsAre s.heap a vs kss → 2 ≤ vs.length → (∀ st' out oss, Sorted vs kss out oss → (arrOf st').map (·.2) = out.toArray → failedOf st' = none → Q st' s) →
    wpAny (model prog w) A ((sortRuns').run (SortSt.mk' (tuples' b) (vs.toArray.zip vs.toArray) #[] 7 none)) (fun r s' => Q r.2 s') E s
theorem runner_few {kss : List (List Int)} (hn : kss.Nodup) (hb : kss.length < 64 ∨ kss.Pairwise fun x y => HT.lexLt x y = true) : Runner prog w A E kss := fun t h2 hQ => tup_run t hn h2 (hb.imp (fun z => by have := Paired.length t; omega) fun z => z) hQ

theorem tup_list_sort {a : Addr} {vs : List Value} {n : Nat} {kss : List (List Int)} {P : PySem.Fin → Shared → Prop} (ho : s.heap.get? a = some (seqObj "list" vs.toArray n)) (t : TupsAre s.heap a vs kss) (hn : kss.Nodup) (hb : Runner prog w A E kss) (hz0 : vs.length ≤ sizeLine)
    (h : ∀ out oss, Sorted vs kss out oss → P (.done (.ret .none)) { s with heap := sortedHeap s.heap a vs out.toArray }) : wpAny (model prog w) A (Builtin.«list.sort» ⟨[.ref a], []⟩) P E s := by
  have hl : vs.length = kss.length := Paired.length t
  have ha : a < s.heap.objs.size := Heap.lt_size ho
  rw [list_sort_plain]
  refine wpAny_bind (listItems_at ho rfl (wpAny_bind (listUpdate_at ho rfl ?_ (by rw [List.size_toArray]; exact hz0) (Nat.zero_le _))))
  obtain ⟨e1, ho1⟩ : ∃ e1, (s.heap.update a (Obj.mapSeq fun _ => (#[] : Array Value))).get? a = some (seqObj "list" #[] e1) := ⟨_, get?_update_seq ho fun _ => #[]⟩
  refine wpAny_bind (seqEpoch_at ho1 rfl (wpAny_bind (wpAny_newTuple (wpAny_bind (wpAny_newList (wpAny_holding ?_) (Nat.zero_le _))) (by show vs.length ≤ _; exact hz0))))
  have ho6 : (((s.heap.update a (Obj.mapSeq fun _ => (#[] : Array Value))).push (seqObj "tuple" vs.toArray 0)).push (seqObj "list" #[] 0)).get? a = some (seqObj "list" #[] e1) := Heap.get?_push_of_some _ (Heap.get?_push_of_some _ ho1)
  have t6 : TupsAre (((s.heap.update a (Obj.mapSeq fun _ => (#[] : Array Value))).push (seqObj "tuple" vs.toArray 0)).push (seqObj "list" #[] 0)) a vs kss :=
    t.keeps fun b o hb e => Heap.get?_push_of_some _ (Heap.get?_push_of_some _ ((Heap.get?_update_ne _ _ _ _ hb).trans e))
  show wpAny (model prog w) A _ P E { s with heap := ((s.heap.update a (Obj.mapSeq fun _ => (#[] : Array Value))).push (seqObj "tuple" vs.toArray 0)).push (seqObj "list" #[] 0) }
  dsimp only
  -- what stands behind the sort itself
  have fin : ∀ (st' : SortSt) (out : List Value) (oss : List (List Int)), Sorted vs kss out oss → (arrOf st').map (·.2) = out.toArray → failedOf st' = none →
      wpAny (model prog w) A (do
        let touched := (← seqEpoch a) != e1
        Builtin.List.listUpdate (.ref a) fun _ => (arrOf st').map (·.2)
        if let some e := failedOf st' then rule "list.sort.comparison-raised"; throw e
        if touched then rule "list.sort.modified"; raiseError "ValueError" "list modified during sort"
        ret .none) P E { s with heap := ((s.heap.update a (Obj.mapSeq fun _ => (#[] : Array Value))).push (seqObj "tuple" vs.toArray 0)).push (seqObj "list" #[] 0) } := by
    intro st' out oss hS hout hf
    have hz : out.length = vs.length := by obtain ⟨ps, hp, rfl, _⟩ := hS.same; rw [List.length_map, hp.length_eq, List.length_range]
    refine wpAny_bind (seqEpoch_at ho6 rfl ?_)
    refine wpAny_bind (listUpdate_at ho6 rfl ?_ (Nat.zero_le _) (by show ((arrOf st').map (·.2)).size ≤ _; rw [hout, List.size_toArray, hz]; omega))
    rw [hf]
    simp only [bne_self_eq_false, Bool.false_eq_true, if_false]
    rw [hout]
    exact wpAny_pure (h out oss hS)
  by_cases h2 : vs.toArray.size < 2
  · rw [if_pos h2, if_pos h2]
    refine wpAny_bind (wpAny_pure ?_)
    rw [StateT.run_pure]
    refine wpAny_bind (wpAny_pure ?_)
    rw [List.size_toArray] at h2
    refine fin (SortSt.mk' general' (vs.toArray.zip vs.toArray) #[] 7 none) vs kss ⟨List.Perm.refl _, ?_, List.range vs.length, List.Perm.refl _, (map_getD_range _ _).symm, ?_⟩ ?_ rfl
    · rw [hl] at h2
      match kss, h2 with
      | [], _ => exact .nil
      | [x], _ => exact List.pairwise_singleton _ _
    · rw [hl]; exact (map_getD_range _ _).symm
    · show (vs.toArray.zip vs.toArray).map (·.2) = vs.toArray
      apply Array.toList_inj.mp
      simp only [Array.toList_map, Array.toList_zip, List.map_snd_zip (Nat.le_refl _)]
  · rw [if_neg h2, if_neg h2]
    rw [List.size_toArray] at h2
    obtain ⟨fs, g1, g2, g3⟩ := t6.firsts
    refine wpAny_bind (kat_kind (s := { s with heap := ((s.heap.update a (Obj.mapSeq fun _ => (#[] : Array Value))).push (seqObj "tuple" vs.toArray 0)).push (seqObj "list" #[] 0) }) (T := .type "int") g1 (by omega) (fun v hv => ?_) (by decide) ?_)
    · obtain ⟨m, u, rfl⟩ := g3 v hv
      exact Looks.of_pure rfl
    · refine wpAny_bind (wpAny_mono (hb (s := { s with heap := ((s.heap.update a (Obj.mapSeq fun _ => (#[] : Array Value))).push (seqObj "tuple" vs.toArray 0)).push (seqObj "list" #[] 0) })
        (Q := fun st' s' => s' = { s with heap := ((s.heap.update a (Obj.mapSeq fun _ => (#[] : Array Value))).push (seqObj "tuple" vs.toArray 0)).push (seqObj "list" #[] 0) } ∧ failedOf st' = none ∧ ∃ out oss, Sorted vs kss out oss ∧ (arrOf st').map (·.2) = out.toArray) t6 (by omega)
        fun st' out oss hS hout hf => ⟨rfl, hf, out, oss, hS, hout⟩) ?_ fun _ _ e => e)
      rintro ⟨⟨⟩, st'⟩ s' ⟨rfl, hf, out, oss, hS, hout⟩
      exact fin st' out oss hS hout hf
end
end HwSort

namespace L2
open PySem PySem.Spec PyProof.Rows HwSort


noncomputable def TupRefs (H : Hp) : List V → List (List Int) → Prop := Paired fun y ks => ∃ b, y = V.ref b ∧ H b = some (.tup (ks.map V.int))
theorem TupRefs.keeps {H H' : Hp} {bs : List V} {kss : List (List Int)} (t : TupRefs H bs kss) (k : ∀ b xs, H b = some (.tup xs) → H' b = some (.tup xs)) : TupRefs H' bs kss :=
  Paired.mapP t fun _ _ hh9 => by obtain ⟨b, e, h⟩ := hh9; exact ⟨b, e, k b _ h⟩
theorem TupRefs.same {H H' : Hp} {bs : List V} {kss : List (List Int)} (t : TupRefs H bs kss) (k : Same H H') : TupRefs H' bs kss := t.keeps fun b _ h => k b _ h
theorem TupRefs.get {H : Hp} {bs : List V} {kss : List (List Int)} (t : TupRefs H bs kss) {i : Nat} {y : V} (hy : bs[i]? = some y) : ∃ b ks, y = V.ref b ∧ kss[i]? = some ks ∧ H b = some (.tup (ks.map V.int)) := by
  induction t generalizing i with
  | nil => simp at hy
  | cons h t ih =>
    cases i with
    | zero =>
      obtain ⟨b, e, h⟩ := h
      rw [List.getElem?_cons_zero] at hy
      exact ⟨b, _, (Option.some.inj hy).symm.trans e, rfl, h⟩
    | succ i => exact ih hy
theorem TupRefs.pick {H : Hp} {bs : List V} {kss : List (List Int)} (t : TupRefs H bs kss) : ∀ (ps : List Nat), (∀ i ∈ ps, i < bs.length) → TupRefs H (ps.map fun i => bs.getD i .non) (ps.map fun i => kss.getD i [])
  | [], _ => .nil
  | i :: r, h => by
    have hi := h i List.mem_cons_self
    obtain ⟨b, ks, e, h1, h2⟩ := t.get (i := i) (y := bs[i]) (by simp [hi])
    refine .cons ⟨b, by simp [hi, e], ?_⟩ (t.pick r fun j hj => h j (List.mem_cons_of_mem _ hj))
    have : kss.getD i [] = ks := by simp [List.getD, h1]
    show H b = some (.tup ((kss.getD i []).map V.int))
    rw [this]
    exact h2

section
variable {X : Cx} {pins : List (Addr × Obj)} {σ : St} {H : Hp} {s : Shared}
theorem tups_are (I : Inv X pins σ H s) {h' : Heap} {a : Addr} (k : ∀ b o, s.heap.get? b = some o → h'.get? b = some o) (ha : s.heap.objs.size ≤ a) {bs : List V} {kss : List (List Int)} {us : List Value} (x : TupRefs H bs kss) (y : Vals bs us) (hne : ∀ ks ∈ kss, ks ≠ []) : TupsAre h' a us kss := by
  induction x generalizing us with
  | nil => cases y; exact .nil
  | cons h t ih =>
    cases y with
    | cons r q =>
      obtain ⟨b, e, hb⟩ := h
      subst e
      cases r
      obtain ⟨its, rv, ⟨o, ho, hc, n, hd⟩, _⟩ := I.tuple (SqT.of hb)
      exact .cons ⟨b, o, its.toArray, n, rfl, Nat.ne_of_lt (Nat.lt_of_lt_of_le (Heap.lt_size ho) ha), k b o ho, hc, hd, by simpa using intsAre_of rv, hne _ List.mem_cons_self⟩ (ih q fun ks h => hne ks (List.mem_cons_of_mem _ h))
theorem vals_pick {bs : List V} {us : List Value} (r : Vals bs us) : ∀ ps : List Nat, (∀ i ∈ ps, i < bs.length) → Vals (ps.map fun i => bs.getD i .non) (ps.map fun i => us.getD i Value.none)
  | [], _ => .nil
  | i :: t, h => by
    have hi := h i List.mem_cons_self
    obtain ⟨u, hu, ru⟩ := r.get (i := i) (x := bs[i]) (by simp [hi])
    refine .cons ?_ (vals_pick r t fun j hj => h j (List.mem_cons_of_mem _ hj))
    have e1 : bs.getD i .non = bs[i] := by simp [hi]
    have e2 : us.getD i Value.none = u := by simp [List.getD, hu]
    show RelV (bs.getD i .non) (us.getD i Value.none)
    rw [e1, e2]
    exact ru


theorem sort_tail {A : Around} {E : Value → Shared → Prop} {Q : VK} {bs : List V} {us : List Value} {kss : List (List Int)} (I : Inv X pins σ H s) (t : TupRefs H bs kss) (rv : Vals bs us) (hne : ∀ ks ∈ kss, ks ≠ []) (hn : kss.Nodup) (h64 : ∀ A E, Runner X.prog X.w A E kss) (hz0 : bs.length ≤ sizeLine)
    (q : ∀ l cs oss, H l = none → TupRefs H cs oss → oss.Perm kss → oss.Pairwise (fun x y => HT.lexLt x y = true) → Q (.ref l) (upd H l (.lst cs))) :
    wpAny (model X.prog X.w) A (newList us >>= fun v => holding [v] (call (.builtin "list.sort") [v]) >>= fun _ => ret v) (fun fin s' => ∃ r, fin = .done (.ret r) ∧ EP X pins σ Q r s') E s := by
  have hlu := rv.length
  refine wpAny_bind (wpAny_newList ?_ (by omega))
  have hoL : (s.heap.push (seqObj "list" us.toArray 0)).get? s.heap.objs.size = some (seqObj "list" us.toArray 0) := Heap.get?_push_size _ rfl
  have k2 : ∀ b o, s.heap.get? b = some o → (s.heap.push (seqObj "list" us.toArray 0)).get? b = some o := fun b o e => Heap.get?_push_of_some _ e
  refine wpAny_bind (wpAny_holding (wpAny_call_entry slot_list_sort ⟨_, hoL, rfl⟩ entry_list_sort (tup_list_sort hoL (tups_are I k2 (Nat.le_refl _) t rv hne) hn (h64 _ _) (by omega) fun out oss hS => ⟨_, rfl, ?_⟩) (args_list_sort _)))
  obtain ⟨ps, hp, rfl, rfl⟩ := hS.same
  have hps : ∀ i ∈ ps, i < bs.length := fun i hi => by rw [hlu]; exact List.mem_range.mp (hp.mem_iff.mp hi)
  refine wpAny_pure ⟨_, rfl, .ref s.heap.objs.size, upd H s.heap.objs.size (.lst (ps.map fun i => bs.getD i .non)), ?_, rfl, q _ _ _ (I.hok.fresh (Nat.le_refl _)) (t.pick ps hps) hS.perm hS.rise⟩
  obtain ⟨e, he⟩ := sortedHeap_at (out := (ps.map fun i => us.getD i Value.none).toArray) hoL
  refine I.laid (t' := s.toks) (fun b u hb => ?_) (Nat.le_refl _) ⟨?_, ps.map fun i => us.getD i Value.none, e, vals_pick rv ps hps, he⟩
  · have hlt : b < s.heap.objs.size := Heap.lt_size hb
    rw [sortedHeap_old (Nat.ne_of_lt hlt) (by rw [size_push']; exact Nat.lt_succ_of_lt hlt)]
    exact k2 b u hb
  · rw [List.length_map, hp.length_eq, List.length_range]
    omega
end


noncomputable def rSortD : List V → Hp → VK → Prop := fun xs H Q => ∃ a kvs kss, xs = [V.ref a] ∧ H a = some (.dT kvs) ∧ kvs.map (·.1) = kss.map (fun ks => ks.map Sum.inl) ∧ (∀ ks ∈ kss, ks ≠ []) ∧ kss.Nodup ∧ (kvs.length < 64 ∨ kss.Pairwise fun x y => HT.lexLt x y = true) ∧
  ∀ l cs oss, H l = none → TupRefs H cs oss → oss.Perm kss → oss.Pairwise (fun x y => HT.lexLt x y = true) → Q (.ref l) (upd H l (.lst cs))

theorem kV_inl (ks : List Int) : (ks.map (Sum.inl : Int → Key)).map kV = ks.map V.int := by rw [List.map_map]; rfl
theorem keyRefs_tup {H : Hp} {kvs : List (List Key × V)} {bs : List V} {kss : List (List Int)} (h : KeyRefs H kvs bs) (e : kvs.map (·.1) = kss.map (fun ks => ks.map Sum.inl)) : TupRefs H bs kss := by
  induction h generalizing kss with
  | nil =>
    cases kss with
    | nil => exact .nil
    | cons a r => cases e
  | cons h t ih =>
    cases kss with
    | nil => cases e
    | cons ks kss =>
      obtain ⟨b, e1, h⟩ := h
      rw [List.map_cons, List.map_cons] at e
      obtain ⟨e2, e3⟩ := List.cons.inj e
      rw [e2, kV_inl] at h
      exact .cons ⟨b, e1, h⟩ (ih e3)
theorem call_sortD {X : Cx} (hc : X.calm = true) : CallR X (.builtin "sorted") rSortD := by
  intro pins s σ H xs us Q I r h
  obtain ⟨a, kvs, kss, rfl, ha, ek, hne, hn, h64, q⟩ := h
  obtain ⟨u, rfl, ru⟩ := vals1 r
  cases ru
  obtain ⟨es, ep, hd, r, hs, z, hk⟩ := dt_raw I (.inl ha)
  refine Calls.call_function_entry kind_sorted plain_sorted entry_sorted (args_sorted1 _) ?_
  unfold Builtin.«sorted»
  refine wpAny_bind (m := checkCount "sorted" 1 1 _) (wpAny_pure ?_)
  refine wpAny_bind (PySem.W.kdu_collect (raw_src (es := es) (ep := ep) hd) (show X.A.in1.handled = none from I.ok.hd hc) r (by omega) fun h' tk acc keep hacc => ?_)
  obtain ⟨bs, hb, hv⟩ := hk acc.toList (by rw [Array.length_toList]; exact hacc.1) (fun j v e => hacc.2 j v (by rw [← Array.getElem?_toList]; exact e))
  have hl : bs.length = kvs.length := (Paired.length hb).symm
  exact sort_tail (I.kept (t' := tk) keep) (keyRefs_tup hb ek) hv hne hn (fun _ _ => runner_few hn (h64.imp (fun z => by have := congrArg List.length ek; rw [List.length_map, List.length_map] at this; omega) fun z => z)) (by omega) q

end L2

set_option maxHeartbeats 1000000

namespace Hw
open PySem L2 HwSort

noncomputable abbrev Pr := Int × Int

noncomputable abbrev Cs := List (Pr × Int)
noncomputable def encK (k : Pr) : List Key := [Sum.inl k.1, Sum.inl k.2]
noncomputable def enc (cs : Cs) : List (List Key × V) := cs.map fun e => (encK e.1, V.int e.2)
noncomputable def lookC (cs : Cs) (k : Pr) : Option Int := (cs.find? fun e => decide (e.1 = k)).map (·.2)
noncomputable def putC (cs : Cs) (k : Pr) (v : Int) : Cs := if (cs.any fun e => decide (e.1 = k)) = true then cs.map (fun e => if e.1 = k then (e.1, v) else e) else cs ++ [(k, v)]
noncomputable def dropC (cs : Cs) (k : Pr) : Cs := cs.filter fun e => decide (e.1 ≠ k)
noncomputable def optV : Option Int → V
  | none => .non
  | some i => .int i
noncomputable def tri (e : Pr × Int) : List Int := [e.1.1, e.1.2, e.2]
noncomputable def two (k : Pr) : List Int := [k.1, k.2]

theorem encK_inj {a b : Pr} (h : encK a = encK b) : a = b := by
  obtain ⟨a1, a2⟩ := a
  obtain ⟨b1, b2⟩ := b
  simp only [encK, List.cons.injEq, Sum.inl.injEq, and_true] at h
  rw [h.1, h.2]
theorem encK_iff {a b : Pr} : encK a = encK b ↔ a = b := ⟨encK_inj, fun e => by rw [e]⟩
theorem enc_len (cs : Cs) : (enc cs).length = cs.length := by simp [enc]
theorem val_enc (k : Pr) : ∀ cs : Cs, valV (enc cs) (encK k) = (lookC cs k).map V.int
  | [] => rfl
  | e :: r => by
    have ih := val_enc k r
    by_cases h : e.1 = k
    · have h2 : (encK e.1, V.int e.2).1 = encK k := by rw [h]
      show valV ((encK e.1, V.int e.2) :: enc r) (encK k) = _
      rw [valV_pos h2]
      simp [lookC, List.find?_cons, h]
    · have h2 : ¬ (encK e.1, V.int e.2).1 = encK k := fun z => h (encK_inj z)
      show valV ((encK e.1, V.int e.2) :: enc r) (encK k) = _
      rw [valV_neg h2, ih]
      simp [lookC, List.find?_cons, h]
theorem put_enc (cs : Cs) (k : Pr) (v : Int) : putK (enc cs) (encK k) (V.int v) = enc (putC cs k v) := by
  have e : ((enc cs).any fun kv => decide (kv.1 = encK k)) = (cs.any fun e => decide (e.1 = k)) := by
    simp only [enc, List.any_map]
    congr 1
    funext x
    simp only [Function.comp, encK_iff]
  unfold putK putC
  rw [e]
  split
  · simp only [enc, List.map_map]
    apply List.map_congr_left
    intro x _
    simp only [Function.comp, encK_iff]
    split <;> rfl
  · simp [enc]
noncomputable def keysC (cs : Cs) : List Pr := cs.map (·.1)
theorem look_some_mem {cs : Cs} {k : Pr} {v : Int} (h : lookC cs k = some v) : (k, v) ∈ cs := by
  unfold lookC at h
  obtain ⟨e, he, rfl⟩ := Option.map_eq_some_iff.mp h
  have h1 := List.find?_some he
  have h2 := List.mem_of_find?_eq_some he
  have h3 : e.1 = k := of_decide_eq_true h1
  rw [← h3]
  exact h2
theorem look_none {cs : Cs} {k : Pr} (h : lookC cs k = none) : k ∉ keysC cs := by
  intro hk
  obtain ⟨e, he, e2⟩ := List.mem_map.mp hk
  unfold lookC at h
  rw [Option.map_eq_none_iff, List.find?_eq_none] at h
  exact h e he (decide_eq_true e2)
theorem look_mem {cs : Cs} (hn : (keysC cs).Nodup) {k : Pr} {v : Int} (h : (k, v) ∈ cs) : lookC cs k = some v := by
  induction cs with
  | nil => cases h
  | cons e r ih =>
    have hn' : e.1 ∉ keysC r ∧ (keysC r).Nodup := List.nodup_cons.mp hn
    unfold lookC
    rw [List.find?_cons]
    rcases List.mem_cons.mp h with h | h
    · subst h
      simp
    · have hne : ¬ e.1 = k := fun z => hn'.1 (List.mem_map.mpr ⟨(k, v), h, z.symm⟩)
      rw [decide_eq_false hne]
      exact ih hn'.2 h
theorem keys_put (cs : Cs) (k : Pr) (v : Int) : keysC (putC cs k v) = if k ∈ keysC cs then keysC cs else keysC cs ++ [k] := by
  have e : (cs.any fun e => decide (e.1 = k)) = true ↔ k ∈ keysC cs := by
    rw [List.any_eq_true]
    constructor
    · rintro ⟨x, hx, h⟩
      exact List.mem_map.mpr ⟨x, hx, of_decide_eq_true h⟩
    · intro h
      obtain ⟨x, hx, h⟩ := List.mem_map.mp h
      exact ⟨x, hx, decide_eq_true h⟩
  unfold putC
  by_cases h : k ∈ keysC cs
  · rw [if_pos (e.mpr h), if_pos h]
    unfold keysC
    rw [List.map_map]
    apply List.map_congr_left
    intro x _
    simp only [Function.comp]
    split <;> rfl
  · rw [if_neg (fun z => h (e.mp z)), if_neg h]
    simp [keysC]
theorem nodup_put {cs : Cs} (k : Pr) (v : Int) (hn : (keysC cs).Nodup) : (keysC (putC cs k v)).Nodup := by
  rw [keys_put]
  split
  · exact hn
  · next h =>
    rw [List.nodup_append]
    exact ⟨hn, by simp, fun a ha b hb => by rw [List.mem_singleton.mp hb]; exact fun e => h (e ▸ ha)⟩
theorem len_put (cs : Cs) (k : Pr) (v : Int) : (putC cs k v).length ≤ cs.length + 1 := by
  have := congrArg List.length (keys_put cs k v)
  unfold keysC at this
  rw [List.length_map] at this
  rw [this]
  split <;> simp
theorem mem_keys_put {cs : Cs} {k j : Pr} {v : Int} (h : j ∈ keysC (putC cs k v)) : j = k ∨ j ∈ keysC cs := by
  rw [keys_put] at h
  split at h
  · exact .inr h
  · rcases List.mem_append.mp h with h | h
    · exact .inr h
    · exact .inl (List.mem_singleton.mp h)
theorem two_inj {a b : Pr} (h : two a = two b) : a = b := by
  obtain ⟨a1, a2⟩ := a
  obtain ⟨b1, b2⟩ := b
  simp only [two, List.cons.injEq, and_true] at h
  rw [h.1, h.2]
theorem enc_keys (cs : Cs) : (enc cs).map (·.1) = ((keysC cs).map two).map (fun ks => ks.map Sum.inl) := by
  simp only [enc, keysC, List.map_map]
  rfl
theorem two_ne (cs : Cs) : ∀ ks ∈ (keysC cs).map two, ks ≠ [] := by
  intro ks h
  obtain ⟨k, _, rfl⟩ := List.mem_map.mp h
  simp [two]
theorem nodup_map {α β : Type} {f : α → β} (hf : ∀ a b, f a = f b → a = b) : ∀ {l : List α}, l.Nodup → (l.map f).Nodup
  | [], _ => List.nodup_nil
  | a :: r, h => by
    obtain ⟨h1, h2⟩ := List.nodup_cons.mp h
    rw [List.map_cons, List.nodup_cons]
    refine ⟨fun m => ?_, nodup_map hf h2⟩
    obtain ⟨b, hb, e⟩ := List.mem_map.mp m
    exact h1 (hf _ _ e ▸ hb)
theorem two_nodup {cs : Cs} (hn : (keysC cs).Nodup) : ((keysC cs).map two).Nodup := nodup_map (fun _ _ => two_inj) hn

noncomputable def triC (cs : Cs) (ks : List Int) : List Int := ks ++ [(lookC cs (ks.getD 0 0, ks.getD 1 0)).getD 0]
theorem triC_two (cs : Cs) (k : Pr) {c : Int} (h : lookC cs k = some c) : triC cs (two k) = [k.1, k.2, c] := by
  simp [triC, two, h]
theorem key_of_mem {cs : Cs} (hn : (keysC cs).Nodup) {oss : List (List Int)} (pm : oss.Perm ((keysC cs).map two)) {i : Nat} {ks : List Int} (h : oss[i]? = some ks) : ∃ (k : Pr) (c : Int), ks = two k ∧ lookC cs k = some c := by
  have m1 : ks ∈ (keysC cs).map two := pm.mem_iff.mp (List.mem_of_getElem? h)
  obtain ⟨k, hk, rfl⟩ := List.mem_map.mp m1
  obtain ⟨e, he, rfl⟩ := List.mem_map.mp hk
  exact ⟨e.1, e.2, rfl, look_mem hn he⟩
theorem len_one {α : Type} {l : List α} (h : l.length = 1) : ∃ a, l = [a] := by
  match l, h with
  | [a], _ => exact ⟨a, rfl⟩
theorem len_two {α : Type} {l : List α} (h : l.length = 2) : ∃ a b, l = [a, b] := by
  match l, h with
  | [a, b], _ => exact ⟨a, b, rfl⟩
theorem tri_perm {cs : Cs} (hn : (keysC cs).Nodup) {oss : List (List Int)} (pm : oss.Perm ((keysC cs).map two)) : (oss.map (triC cs)).Perm (cs.map tri) := by
  have e : ((keysC cs).map two).map (triC cs) = cs.map tri := by
    unfold keysC
    rw [List.map_map, List.map_map]
    apply List.map_congr_left
    intro x hx
    have hl : lookC cs x.1 = some x.2 := look_mem hn hx
    exact triC_two cs x.1 hl
  rw [← e]
  exact pm.map _
theorem lex_tri {cs : Cs} {a b : Pr} {c d : Int} (ha : lookC cs a = some c) (hb : lookC cs b = some d) (h : HT.lexLt (two a) (two b) = true) : HT.lexLt (triC cs (two a)) (triC cs (two b)) = true := by
  rw [triC_two cs a ha, triC_two cs b hb]
  simp only [two, HT.lexLt_cons, HT.lexLt_nil_nil] at h ⊢
  by_cases e1 : a.1 = b.1
  · rw [if_pos e1] at h ⊢
    by_cases e2 : a.2 = b.2
    · rw [if_pos e2] at h
      cases h
    · rw [if_neg e2] at h ⊢
      exact h
  · rw [if_neg e1] at h ⊢
    exact h
theorem tri_rise {cs : Cs} (hn : (keysC cs).Nodup) {oss : List (List Int)} (pm : oss.Perm ((keysC cs).map two)) (pw : oss.Pairwise fun x y => HT.lexLt x y = true) : (oss.map (triC cs)).Pairwise fun x y => HT.lexLt x y = true := by
  rw [List.pairwise_map]
  rw [List.pairwise_iff_getElem] at pw ⊢
  intro i j hi hj hij
  obtain ⟨k1, c1, e1, l1⟩ := key_of_mem hn pm (i := i) (ks := oss[i]) (by simp)
  obtain ⟨k2, c2, e2, l2⟩ := key_of_mem hn pm (i := j) (ks := oss[j]) (by simp)
  have h := pw i j hi hj hij
  rw [e1, e2] at h ⊢
  exact lex_tri l1 l2 h
theorem map_getD {α β : Type} (f : α → β) (l : List α) (d : α) : (List.range l.length).map (fun i => f (l.getD i d)) = l.map f := by
  have := congrArg (List.map f) (map_getD_range l d)
  rw [List.map_map] at this
  exact this


noncomputable def flds (many : Int) (d : Addr) : List (Str × V) := putF "costs" (.ref d) (putF "tellers" (.int many) [])
theorem tc : ¬ (("tellers" : Str) = "costs") := by decide +kernel
theorem ct : ¬ (("costs" : Str) = "tellers") := by decide +kernel
theorem flds_many (many : Int) (d : Addr) : (flds many d).lookup ("tellers" : Str) = some (.int many) := by
  unfold flds
  rw [lookup_putF, if_neg tc, lookup_putF, if_pos rfl]
theorem flds_costs (many : Int) (d : Addr) : (flds many d).lookup ("costs" : Str) = some (.ref d) := by
  unfold flds
  rw [lookup_putF, if_pos rfl]
theorem flds_no (many : Int) (d : Addr) {m : Str} (h1 : ¬ m = "costs") (h2 : ¬ m = "tellers") : (flds many d).lookup m = none := by
  unfold flds
  rw [lookup_putF, if_neg h1, lookup_putF, if_neg h2]
  rfl
structure BookAt (C : Addr) (H : Hp) (p d : Addr) (many : Int) (cs : Cs) : Prop where
  ob : ∃ dx, H p = some (.ins C dx (flds many d))
  dc : H d = some (.dT (enc cs))

noncomputable def KeepBut (d : Addr) (H H' : Hp) : Prop := ∀ b o, H b = some o → b ≠ d → H' b = some o
theorem Same.keepBut {H H' : Hp} (h : Same H H') (d : Addr) : KeepBut d H H' := fun b o e _ => h b o e
theorem BookAt.same {C : Addr} {H H' : Hp} {p d : Addr} {many : Int} {cs : Cs} (b : BookAt C H p d many cs) (h : Same H H') : BookAt C H' p d many cs :=
  ⟨let ⟨dx, e⟩ := b.ob; ⟨dx, h _ _ e⟩, h _ _ b.dc⟩
theorem BookAt.ne {C : Addr} {H : Hp} {p d : Addr} {many : Int} {cs : Cs} (b : BookAt C H p d many cs) : p ≠ d := by
  obtain ⟨dx, e⟩ := b.ob
  exact ne_of e b.dc (fun z => nomatch z)
theorem same_upd {H : Hp} {p : Addr} {o : HO} (h : H p = none) : Same H (upd H p o) := fun b u e => by rw [upd_ne (ne_of_none e h)]; exact e
theorem BookAt.upd {C : Addr} {H : Hp} {p d q : Addr} {many : Int} {cs : Cs} {o : HO} (b : BookAt C H p d many cs) (h1 : q ≠ p) (h2 : q ≠ d) : BookAt C (L2.upd H q o) p d many cs :=
  ⟨let ⟨dx, e⟩ := b.ob; ⟨dx, by rw [upd_ne h1.symm]; exact e⟩, by rw [upd_ne h2.symm]; exact b.dc⟩
theorem BookAt.keepBut {C : Addr} {H H' : Hp} {p d d' : Addr} {many : Int} {cs : Cs} (b : BookAt C H p d many cs) (k : KeepBut d' H H') (h1 : p ≠ d') (h2 : d ≠ d') : BookAt C H' p d many cs :=
  ⟨let ⟨dx, e⟩ := b.ob; ⟨dx, k _ _ e h1⟩, k _ _ b.dc h2⟩
noncomputable def Ok2 (many one other : Int) : Prop := 0 ≤ one ∧ one < many ∧ 0 ≤ other ∧ other < many ∧ one ≠ other ∧ other ≠ 0


inductive sp_init (C : Addr) (vs : List V) (H : Hp) (Q : VK) (E : XK) : Prop
  | mk (p dx : Addr) (many : Int) (h09 : vs = [.ref p, .int many]) (h19 : H p = some (.ins C dx [])) (h29 : 1 ≤ many) (h39 : many ≤ 12) (h49 : ∀ (d : Addr) (H' : Hp), H d = none → BookAt C H' p d many [] → (∀ b o, H b = some o → b ≠ p → H' b = some o) → Q .non H') : sp_init C vs H Q E
inductive sp_many (C : Addr) (vs : List V) (H : Hp) (Q : VK) (E : XK) : Prop
  | mk (p d : Addr) (many : Int) (cs : Cs) (h09 : vs = [.ref p]) (h19 : BookAt C H p d many cs) (h29 : Q (.int many) H) : sp_many C vs H Q E
inductive sp_let (C : Addr) (vs : List V) (H : Hp) (Q : VK) (E : XK) : Prop
  | mk (p d : Addr) (many : Int) (cs : Cs) (one other cost : Int) (h09 : vs = [.ref p, .int one, .int other, .int cost]) (h19 : BookAt C H p d many cs) (h29 : Ok2 many one other) (h39 : cs.length < 1000) (h49 : ∀ H', BookAt C H' p d many (putC cs (one, other) cost) → KeepBut d H H' → Q (.int (putC cs (one, other) cost).length) H') : sp_let C vs H Q E
end Hw

set_option maxHeartbeats 1000000

namespace L2
open PySem PySem.Spec PyProof.Rows


theorem boot_len : bootBuiltins "len" = some (.builtin "len") := by decide +kernel
theorem boot_isinstance : bootBuiltins "isinstance" = some (.builtin "isinstance") := by decide +kernel
theorem boot_all : bootBuiltins "all" = some (.builtin "all") := by decide +kernel
theorem boot_sorted : bootBuiltins "sorted" = some (.builtin "sorted") := by decide +kernel
theorem boot_list : bootBuiltins "list" = some (.type "list") := by decide +kernel
theorem boot_int : bootBuiltins "int" = some (.type "int") := by decide +kernel
theorem boot_str : bootBuiltins "str" = some (.type "str") := by decide +kernel
section
variable (P : Program) (w : World) (K : PySem.W.Frag) (mg : Str → Option Value) (base : Heap)
noncomputable def Def (k : Nat) (x : Str) (ps : List Str) (sp : Sp) : Prop := ∃ f fd, FnOk P w K mg base CX0 k f fd ps sp ∧ mg x = some (.ref f) ∧ PySem.W.keepIn K (.ref f) = true ∧ Binds K fd ps []
noncomputable def MetD (C : Addr) (k : Nat) (m : Str) (ps : List Str) (sp : Sp) : Prop := ∃ f fd, FnOk P w K mg base CX0 k f fd ps sp ∧ Meth K C m f ∧ Binds K fd ps []
noncomputable def MakD (C : Addr) (k : Nat) (x : Str) (ps : List Str) (sp : Sp) : Prop := ∃ f fd, FnOk P w K mg base CX0 k f fd ps sp ∧ Mk K C f ∧ mg x = some (.ref C) ∧ Binds K fd ps []

noncomputable def FunAt (x qual : Str) (st : Stmt) : Prop := ∃ f fd, Fun K x qual st f fd ∧ mg x = some (.ref f)
noncomputable def MetAt (C : Addr) (x qual : Str) (st : Stmt) : Prop := ∃ f fd, Fun K x qual st f fd ∧ Meth K C x f
noncomputable def MakAt (C : Addr) (c x qual : Str) (st : Stmt) : Prop := ∃ f fd, Fun K x qual st f fd ∧ Mk K C f ∧ mg c = some (.ref C)
end
section
variable {P : Program} {w : World} {K : PySem.W.Frag} {mg : Str → Option Value} {base : Heap} {C : Addr}

noncomputable def BodyOk (P : Program) (w : World) (K : PySem.W.Frag) (mg : Str → Option Value) (base : Heap) (qual : Str) (st : Stmt) (N : List Str) (k : Nat) (sp : Sp) : Prop :=
  ∀ (f : Addr) (cdv : Value) (A : Around) (outer : List Env) (s : Shared) (H : Hp) (vs : List V) (Q : VK) (E : XK), Room k (A.deeper (envOfC qual (defScope st) s.heap.objs.size f cdv)) → sp vs H Q E →
    ∃ t, PSs (cxOf CX0 P w K mg base N qual (defScope st) f cdv A outer s H E).nox (defBody st) t ∧ t { nx := fun _ H' => Q .non H', rt := Q } (start N vs) H
noncomputable def BindOk (x qual : Str) (st : Stmt) (ps : List Str) : Prop := ∀ (kV doc pm : Value) (an : Option Addr) (cdv ct : Value) (us : List Value), us.length = ps.length → bindArgs (PySem.W.fnOf x qual (defArgs st) (defBody st) (defScope st) .none kV doc pm an cdv ct) ⟨us, []⟩ = pure (ps.zip us)
theorem FunAt.def {x qual : Str} {st : Stmt} {N ps : List Str} {k : Nat} {sp : Sp} (F : FunAt K mg x qual st) (S : FnScope N ps (defScope st)) (hb : BindOk x qual st ps) (len : ∀ vs H Q E, sp vs H Q E → vs.length = ps.length) (h : BodyOk P w K mg base qual st N k sp) : Def P w K mg base (k + 1) x ps sp := by
  obtain ⟨f, fd, F, e⟩ := F
  exact ⟨f, fd, F.ok S len (h f), e, F.kp, F.binds hb⟩
theorem MetAt.def {x qual : Str} {st : Stmt} {N ps : List Str} {k : Nat} {sp : Sp} (F : MetAt K C x qual st) (S : FnScope N ps (defScope st)) (hb : BindOk x qual st ps) (len : ∀ vs H Q E, sp vs H Q E → vs.length = ps.length) (h : BodyOk P w K mg base qual st N k sp) : MetD P w K mg base C (k + 1) x ps sp := by
  obtain ⟨f, fd, F, e⟩ := F
  exact ⟨f, fd, F.ok S len (h f), e, F.binds hb⟩
theorem MakAt.def {c x qual : Str} {st : Stmt} {N ps : List Str} {k : Nat} {sp : Sp} (F : MakAt K mg C c x qual st) (S : FnScope N ps (defScope st)) (hb : BindOk x qual st ps) (len : ∀ vs H Q E, sp vs H Q E → vs.length = ps.length) (h : BodyOk P w K mg base qual st N k sp) : MakD P w K mg base C (k + 1) c ps sp := by
  obtain ⟨f, fd, F, e, e2⟩ := F
  exact ⟨f, fd, F.ok S len (h f), e, e2, F.binds hb⟩
end
section
variable {X : Cx} {k : Nat} {C : Addr} {ps : List Str} {sp : Sp} {x m : Str} {p pos apos : Pos} {e o : Expr} {es : List Expr} {ta : TE} {t : TA}
theorem pe_callD (D : Def X.prog X.w X.K X.mg X.base k x ps sp) (hr : Room k X.A) (ha : PA X (e :: es) t) (hg : Gl X x := by rfl) (hdb : (x == ("__debug__" : Str)) = false := by decide)
    (he : starEach (e :: es) X.env = (false, eval e X.env) :: starEach es X.env := by rfl) (hpl : (backTo pos (starEach es X.env)).any (·.1) = false := by rfl) : PE X (.Call (.Name x p) (e :: es) [] pos) (tCall sp [] E0 t) := by
  obtain ⟨f, fd, F, hm, hk, hb⟩ := D
  exact pe_call F hr hg hm hk hb .nil pass0 ha hdb he hpl
theorem pe_methD {pl : Sem Bool} (D : MetD X.prog X.w X.K X.mg X.base C k m ps sp) (c : Cls X.K C) (hr : Room k X.A) (he : PE X o ta) (ha : PA X (e :: es) t)
    (hst : starEach (e :: es) X.env = (false, eval e X.env) :: starEach es X.env := by rfl) (hpl : (backTo pos (starEach es X.env)).any (·.1) = false := by rfl)
    (ht : eval (.Call (.Attribute o m apos) (e :: es) [] pos) X.env = (do
      let ov ← eval o X.env
      standAt apos.atName
      let (f, first) ← holding [ov] (getMethod ov m pl)
      callWith pos f first (backTo pos (starEach (e :: es) X.env)) (backToKw pos (keywordEach [] X.env))) := by rfl) :
    PE X (.Call (.Attribute o m apos) (e :: es) [] pos) (tMeth C m sp [] E0 ta t) := by
  obtain ⟨f, fd, F, hm, hb⟩ := D
  exact pe_meth (pl := pl) he c hm F hr hb .nil pass0 ha hst hpl ht
theorem pe_methD0 {pl : Sem Bool} (D : MetD X.prog X.w X.K X.mg X.base C k m ps sp) (c : Cls X.K C) (hr : Room k X.A) (he : PE X o ta)
    (ht : eval (.Call (.Attribute o m apos) [] [] pos) X.env = (do
      let ov ← eval o X.env
      standAt apos.atName
      let (f, first) ← holding [ov] (getMethod ov m pl)
      callWith pos f first (backTo pos (starEach [] X.env)) (backToKw pos (keywordEach [] X.env))) := by rfl) :
    PE X (.Call (.Attribute o m apos) [] [] pos) (tMeth C m sp [] E0 ta tNil) := by
  obtain ⟨f, fd, F, hm, hb⟩ := D
  exact pe_meth0 (pl := pl) he c hm F hr hb .nil pass0 ht
theorem pe_makeD (D : MakD X.prog X.w X.K X.mg X.base C k x ps sp) (hr : Room (k + 1) X.A) (ha : PA X (e :: es) t) (hg : Gl X x := by rfl) (hdb : (x == ("__debug__" : Str)) = false := by decide)
    (he : starEach (e :: es) X.env = (false, eval e X.env) :: starEach es X.env := by rfl) (hpl : (backTo pos (starEach es X.env)).any (·.1) = false := by rfl) : PE X (.Call (.Name x p) (e :: es) [] pos) (tMake C sp [] E0 t) := by
  obtain ⟨f, fd, F, hm, e2, hb⟩ := D
  exact pe_make hm F hr hg e2 hb .nil pass0 ha hdb he hpl
end


theorem TupRefs.length {H : Hp} {bs : List V} {kss : List (List Int)} (t : TupRefs H bs kss) : bs.length = kss.length := Paired.length t
theorem range_all_id (bs : List Bool) : (List.range bs.length).all (fun i => bs.getD i true) = bs.all id := by
  rw [Bool.eq_iff_iff, List.all_eq_true, List.all_eq_true]
  constructor
  · intro h b hb
    obtain ⟨j, hj, e⟩ := List.mem_iff_getElem.mp hb
    have := h j (List.mem_range.mpr hj)
    subst e
    simpa [hj] using this
  · intro h j hj
    have h2 : j < bs.length := List.mem_range.mp hj
    have := h bs[j] (List.getElem_mem h2)
    simpa [h2] using this
theorem call_allB {X : Cx} (hc : X.calm = true) : CallR X (.builtin "all") (fun xs H Q => ∃ (p : Addr) (bs : List Bool), xs = [.ref p] ∧ SqL X.K H p (bs.map V.bl) ∧ Q (.bl (bs.all id)) H) := by
  intro pins s σ H xs us Q I r h
  obtain ⟨p, bs, rfl, hp, q⟩ := h
  obtain ⟨u, rfl, ru⟩ := vals1 r
  cases ru
  obtain ⟨its, rv, pl, z⟩ := I.list hp
  have hlen : bs.length = its.length := by have := rv.length; rwa [List.length_map] at this
  have hlt : p < s.heap.objs.size := by obtain ⟨_, e, _⟩ := pl.isList; exact Heap.lt_size e
  refine call_all_walk (wpAny_pyIter_list pl.isList ?_)
  refine ⟨s.heap.objs.size, _, _, _, _, _, fun i => bs.getD i true, rfl, Walks.list (show X.A.in1.handled = none from I.ok.hd hc) s.heap.objs.size p (Nat.ne_of_lt hlt) its.toArray, ⟨⟨_, Heap.get?_push_size _ rfl, rfl, rfl⟩, pl.isList.push _⟩, fun i v s' Q' E' hP hq => ?_, fun h' tk hk => ?_⟩
  · have hv : its[i]? = some v := by simpa using hP
    have hi : i < bs.length := by rw [hlen]; exact (List.getElem?_eq_some_iff.mp hv).1
    obtain ⟨u, e1, ru⟩ := rv.get (i := i) (x := V.bl bs[i]) (by simp [hi])
    rw [hv] at e1
    cases e1
    cases ru
    have e2 : bs.getD i true = bs[i] := by simp [hi]
    have hq' : Q' (bs.getD i true) s' := hq
    rw [e2] at hq'
    exact wpAny_truthy_bool hq'
  · have e : (List.range its.toArray.size).all (fun i => bs.getD i true) = bs.all id := by
      rw [List.size_toArray, ← hlen]
      exact range_all_id bs
    rw [e]
    refine ⟨.bl (bs.all id), H, I.kept (t' := tk) fun b o hb => hk b o (fun hm => ?_) (Heap.get?_push_of_some _ hb), rfl, q⟩
    have : b = s.heap.objs.size := by simpa using hm
    exact absurd (Heap.lt_size hb) (by rw [this]; exact Nat.lt_irrefl _)
end L2

set_option maxHeartbeats 1000000

namespace L2
open PySem PySem.Spec PyProof.Rows
section
variable {K : PySem.W.Frag} {σ : St} {H : Hp} {Q : VK}
theorem rI0_int {g : Int → Int → V} {i j : Int} : rI0 g (.int i) (.int j) H Q ↔ Q (g i j) H := ⟨fun ⟨_, _, e1, e2, q⟩ => by cases e1; cases e2; exact q, fun q => ⟨i, j, rfl, rfl, q⟩⟩
theorem rI_int {C : Int → Int → Prop} {g : Int → Int → V} {i j : Int} : rI C g (.int i) (.int j) H Q ↔ C i j ∧ Q (g i j) H := ⟨fun ⟨_, _, e1, e2, c, q⟩ => by cases e1; cases e2; exact ⟨c, q⟩, fun hh9 => by obtain ⟨c, q⟩ := hh9; exact ⟨i, j, rfl, rfl, c, q⟩⟩
theorem rU_int {g : Int → V} {i : Int} : rU g (.int i) H Q ↔ Q (g i) H := ⟨fun ⟨_, e1, q⟩ => by cases e1; exact q, fun q => ⟨i, rfl, q⟩⟩
theorem rEq_int {i j : Int} : rEq (.int i) (.int j) H Q ↔ Q (.bl (decide (i = j))) H := by
  unfold rEq
  have e : decide (V.int i = V.int j) = decide (i = j) := by
    by_cases h : i = j
    · subst h; simp
    · rw [decide_eq_false h, decide_eq_false fun z => h (V.int.inj z)]
  rw [e]
  exact ⟨fun h => h.2, fun h => ⟨rfl, h⟩⟩
theorem rNe_int {i j : Int} : rNe (.int i) (.int j) H Q ↔ Q (.bl (!decide (i = j))) H := by
  unfold rNe
  have e : decide (V.int i = V.int j) = decide (i = j) := by
    by_cases h : i = j
    · subst h; simp
    · rw [decide_eq_false h, decide_eq_false fun z => h (V.int.inj z)]
  rw [e]
  exact ⟨fun h => h.2, fun h => ⟨rfl, h⟩⟩

theorem rd_fld {i : Nat} {p C dx : Addr} {fs : List (Str × V)} {v : V} {f : Str} (h1 : H p = some (.ins C dx fs)) (cl : Cls K C) (na : NoAttr K C f) (l : fs.lookup f = some v) (q : Q v H) (hσ : σ[i]? = some (some (.ref p)) := by rfl) : tFld K (tVar i) f σ H Q :=
  ⟨_, hσ, p, C, dx, fs, v, rfl, h1, cl, na, l, q⟩

end
end L2

namespace L2
open PySem PySem.Spec PyProof.Rows

noncomputable def KeepNL (H H' : Hp) : Prop := ∀ b o, H b = some o → (∀ ys, o ≠ .lst ys) → H' b = some o
theorem Same.nl {H H' : Hp} (h : Same H H') : KeepNL H H' := fun b o e _ => h b o e
theorem KeepNL.trans {H H1 H2 : Hp} (a : KeepNL H H1) (b : KeepNL H1 H2) : KeepNL H H2 := fun c o e n => b c o (a c o e n) n
theorem nl_upd {H : Hp} {p : Addr} {ys zs : List V} (h : H p = some (.lst ys)) : KeepNL H (upd H p (.lst zs)) := fun b o e n => by
  rw [upd_ne (fun z => by subst z; rw [h] at e; exact n ys (Option.some.inj e).symm)]
  exact e
section
variable {K : PySem.W.Frag} {g : Cz → TG} {te : Cz → TE} {σ : St} {Q : VK} {H1 : Hp} {n0 : Nat}

theorem comp_list_map {a : Addr} {xs : List V} (Rel : Nat → V → Hp → Prop) (hR : ∀ i v H H', Rel i v H → KeepNL H H' → Rel i v H') (hl : SqL K H1 a xs) (hlen : xs.length ≤ 100000)
    (turn : ∀ z i x ws H (F : St → V → Hp → Prop), xs[i]? = some x → ws.length = n0 → Same H1 H → (∀ ws' v H5, ws'.length = n0 → Same H H5 → Rel i v H5 → F (σ ++ ws') v H5) → g z x (σ ++ ws) H fun σ3 H3 => te z σ3 H3 fun v H5 => F σ3 v H5)
    (q : ∀ p vs H', H1 p = none → Same H1 H' → H' p = some (.lst vs) → vs.length = xs.length → (∀ i v, vs[i]? = some v → Rel i v H') → Q (.ref p) H') : CompR n0 g (fun _ => tYes) te σ Q (Itl K a) H1 := by
  refine comp_list (xs := xs) (fun p i σ' H' => ∃ ws vs, σ' = σ ++ ws ∧ ws.length = n0 ∧ Same H1 H' ∧ H' p = some (.lst vs) ∧ vs.length = i ∧ ∀ j v, vs[j]? = some v → Rel j v H')
    (fun p hp => ⟨_, [], rfl, List.length_replicate, fun b o e => by rw [upd_ne (ne_of_none e hp)]; exact e, upd_same, rfl, fun j v h => by simp at h⟩) (fun p i σ' H' hp hi hh9 => by obtain ⟨_, _, _, _, s, _⟩ := hh9; exact s.seq hl) ?_ ?_
  · rintro p z i x σ' H' hp hx ⟨ws, vs, rfl, hw, s, hv, rfl, hr⟩
    refine turn z vs.length x ws H' (fun σ3 v H5 => ∃ ys, H5 p = some (.lst ys) ∧ ys.length < sizeLine ∧ ∃ ws vs', σ3 = σ ++ ws ∧ ws.length = n0 ∧ Same H1 (upd H5 p (.lst (ys ++ [v]))) ∧ upd H5 p (.lst (ys ++ [v])) p = some (.lst vs') ∧ vs'.length = vs.length + 1 ∧
      ∀ j w, vs'[j]? = some w → Rel j w (upd H5 p (.lst (ys ++ [v])))) hx hw s fun ws' v H5 hw' s5 r => ?_
    have hi : vs.length < xs.length := (List.getElem?_eq_some_iff.mp hx).1
    have h5 : H5 p = some (.lst vs) := s5 _ _ hv
    refine ⟨vs, h5, by rw [sizeLine_eq]; omega, ws', vs ++ [v], rfl, hw', fun b o e => ?_, upd_same, by simp, fun j w hj => ?_⟩
    · rw [upd_ne (ne_of_none e hp)]
      exact s5 _ _ (s _ _ e)
    · have k5 : KeepNL H5 (upd H5 p (.lst (vs ++ [v]))) := nl_upd h5
      by_cases hjl : j < vs.length
      · rw [List.getElem?_append_left hjl] at hj
        exact hR j w _ _ (hr j w hj) (s5.nl.trans k5)
      · rw [List.getElem?_append_right (by omega)] at hj
        have e0 : j - vs.length = 0 := by
          have := (List.getElem?_eq_some_iff.mp hj).1
          simp at this
          omega
        rw [e0] at hj
        have ej : j = vs.length := by omega
        subst ej
        cases hj
        exact hR _ _ _ _ r k5
  · rintro p σ' H' hp ⟨ws, vs, rfl, hw, s, hv, hl', hr⟩
    exact q p vs H' hp s hv hl' hr

end

noncomputable def RelT (f : Nat → List Int) (i : Nat) (v : V) (H : Hp) : Prop := ∃ t, v = .ref t ∧ H t = some (.tup ((f i).map V.int))
theorem relT_keep {f : Nat → List Int} : ∀ i v H H', RelT f i v H → KeepNL H H' → RelT f i v H' := fun _ _ _ _ ⟨t, e, h⟩ k => ⟨t, e, k t _ h fun ys z => nomatch z⟩
theorem relT_refs {H : Hp} : ∀ {vs : List V} {f : Nat → List Int}, (∀ i v, vs[i]? = some v → RelT f i v H) → TupRefs H vs ((List.range vs.length).map f)
  | [], _, _ => .nil
  | v :: r, f, h => by
    rw [List.length_cons, List.range_succ_eq_map, List.map_cons, List.map_map]
    exact .cons (h 0 v (by simp)) (relT_refs fun i w hw => h (i + 1) w (by simpa using hw))
end L2

set_option maxHeartbeats 1000000

namespace L2
open PySem PySem.Spec PyProof.Rows
section
variable {X : Cx} {pins : List (Addr × Obj)} {σ : St} {H : Hp} {s : Shared} {a : Addr} {u u' : HO}
theorem Inv.relabel (I : Inv X pins σ H s) (ha : H a = some u) (hnt : ∀ xs, u ≠ .tup xs) (hno : ∀ y, u ≠ .own y) (htb : ∀ ps, u ≠ .tbl ps) (hfz : ∀ o v, X.H₀ a ≠ some (.frz o v)) (new : ObjOk X.prog X.w (upd H a u') s.heap a u') :
    Inv X pins σ (upd H a u') s := by
  have ne : ∀ {b : Addr}, H b = none → b ≠ a := fun {b} h z => by rw [z, ha] at h; cases h
  refine ⟨I.ok, I.os, I.bare, ⟨I.base.keep, I.base.slot, fun b o e n hx => ?_, I.base.there, fun b xs e => ?_, fun b o v e => ?_, fun b ps e => ?_⟩, I.loc, I.cell, ?_, fun x c e => ?_, fun p hp => ?_, fun b o e => ?_, I.len⟩
  · have h0 := I.base.free b o e n hx
    rw [upd_ne (ne h0)]
    exact h0
  · have h0 := I.base.tups b xs e
    have : b ≠ a := fun z => by rw [z, ha] at h0; exact hnt xs (Option.some.inj h0)
    rw [upd_ne this]
    exact h0
  · have : b ≠ a := fun z => hfz o v (z ▸ e)
    rw [upd_ne this]
    exact I.base.frzs b o v e
  · obtain ⟨more, h0⟩ := I.base.tbls b ps e
    have : b ≠ a := fun z => by rw [z, ha] at h0; exact htb _ (Option.some.inj h0)
    exact ⟨more, by rw [upd_ne this]; exact h0⟩
  · rw [upd_ne (ne I.free)]
    exact I.free
  · rw [upd_ne (ne (I.freeC x c e))]
    exact I.freeC x c e
  · obtain ⟨h1, h2, h3⟩ := I.pin p hp
    exact ⟨h1, by rw [upd_ne (ne h2)]; exact h2, h3⟩
  · by_cases hb : b = a
    · subst hb
      rw [upd_same] at e
      cases e
      exact new
    · rw [upd_ne hb] at e
      refine (I.hok b o e).stay (fun _ _ _ q => q) (fun c q => ?_) fun c xs q => ?_
      · have : c ≠ a := fun z => by rw [z, ha] at q; exact hno _ (Option.some.inj q)
        rw [upd_ne this]
        exact q
      · have : c ≠ a := fun z => by rw [z, ha] at q; exact hnt _ (Option.some.inj q)
        rw [upd_ne this]
        exact q
end

noncomputable def Itd (a : Addr) (o : Obj) (kvs : List (List Key × V)) (bs : List V) : It :=
  ⟨fun i H => H a = some (.frz o (.dT kvs)) ∧ i < bs.length, fun i H x H' => H' = H ∧ bs[i]? = some x, fun i H => H a = some (.frz o (.dT kvs)) ∧ bs.length ≤ i⟩
noncomputable def iDict (tl : TE) : TI := fun σ H R => tl σ H fun x H1 => ∃ a kvs, x = .ref a ∧ H1 a = some (.dT kvs) ∧ ∀ o bs, KeyRefs H1 kvs bs → R (Itd a o kvs bs) (upd H1 a (.frz o (.dT kvs)))
noncomputable def tThaw (t : TS) : TS := fun D σ H => ∃ a kvs, H a = some (.dT kvs) ∧ t { D with nx := fun σ' H' => (∃ o, H' a = some (.frz o (.dT kvs))) ∧ D.nx σ' (upd H' a (.dT kvs)) } σ H
section
variable {g : Cz → TG} {tt : Cz → TT} {te : Cz → TE} {σ : St} {Q : VK} {H1 : Hp} {n0 : Nat}
end
end L2

set_option maxHeartbeats 1000000

namespace L2
open PySem PySem.Spec PyProof.Rows
section
variable {prog : Program} {w : World} {A : Around} {E : Value → Shared → Prop} {s : Shared} {h₀ : Heap} {l I S : Addr} {vs : List Value} {R : Result → Shared → Prop} {Q : Value → Shared → Prop}

end
end L2

set_option maxHeartbeats 1000000

namespace L2
open PySem PySem.Spec PyProof.Rows
section
variable {X : Cx}
end

noncomputable def ListRefs (H : Hp) : List V → List (List Int) → Prop := Paired fun y ns => ∃ b, y = V.ref b ∧ H b = some (.lst (ns.map V.int))
theorem ListRefs.get {H : Hp} {bs : List V} {kss : List (List Int)} (t : ListRefs H bs kss) {i : Nat} {y : V} (hy : bs[i]? = some y) : ∃ b ks, y = V.ref b ∧ kss[i]? = some ks ∧ H b = some (.lst (ks.map V.int)) := by
  induction t generalizing i with
  | nil => simp at hy
  | cons h t ih =>
    cases i with
    | zero =>
      obtain ⟨b, e, h⟩ := h
      rw [List.getElem?_cons_zero] at hy
      exact ⟨b, _, (Option.some.inj hy).symm.trans e, rfl, h⟩
    | succ i => exact ih hy
theorem ListRefs.same {H H' : Hp} {bs : List V} {kss : List (List Int)} (t : ListRefs H bs kss) (k : Same H H') : ListRefs H' bs kss := Paired.mapP t fun _ _ hh9 => by obtain ⟨b, e, h⟩ := hh9; exact ⟨b, e, k _ _ h⟩
theorem ListRefs.length {H : Hp} {bs : List V} {kss : List (List Int)} (t : ListRefs H bs kss) : bs.length = kss.length := Paired.length t
noncomputable def tMinLen (K : PySem.W.Frag) (t : TA) : TE := fun σ H Q => t σ H fun vs H1 => ∃ (l : Addr) (gs : List V) (gss : List (List Int)), vs = [V.ref l] ∧ SqL K H1 l gs ∧ ListRefs H1 gs gss ∧ (gss = [] → Q .non H1) ∧
  ∀ (i : Nat) (v : V) (ns : List Int), gs[i]? = some v → gss[i]? = some ns → (∀ j ms, gss[j]? = some ms → ns.length ≤ ms.length ∧ (j < i → ns.length < ms.length)) → Q v H1
end L2

set_option maxHeartbeats 1000000

namespace L2
open PySem PySem.Spec PyProof.Rows


abbrev veTail : List Value := [.type "ValueError", .type "Exception", .type "BaseException", .type "object"]

structure XCls (K : PySem.W.Frag) (C : Addr) : Prop where
  exc : PySem.W.excIn K C veTail "ValueError.__new__" = true
  ga : PySem.W.findIn K (.ref C) "__getattribute__" = some (some (.builtin "BaseException.__getattribute__"))
  gh : PySem.W.findIn K (.ref C) "__getattr__" = some none
  ca : PySem.W.findIn K (.ref C) "__class__" = some (some (.builtin "object.__class__"))
  gg : PySem.W.specialIn K (.builtin "object.__class__") "__get__" = some (some (.builtin "getset_descriptor.__get__"))
  tk : PySem.W.takesIn K (.builtin "object.__class__") = some true
  mo : PySem.W.mroIn K C (.type "object") = some true
  mb : PySem.W.mroIn K C (.type "BaseException") = some true
  kp : PySem.W.keepIn K (.ref C) = true


noncomputable def ExcAt (a C : Addr) (h : Heap) : Prop := ∃ o, h.get? a = some o ∧ o.cls = .ref C
theorem ExcAt.type {a C : Addr} {h : Heap} {M : Model} (x : ExcAt a C h) : PySem.W.Looks M h (typeOf (.ref a)) (.ref C) := by
  obtain ⟨o, h1, h2⟩ := x
  exact h2 ▸ (PySem.W.Looks.ld h1).andThen .now

section
variable {prog : Program} {w : World} {A : Around} {E : Value → Shared → Prop} {s : Shared} {K : PySem.W.Frag} {a C : Addr}
theorem looks_data {M : Model} {h : Heap} {x a g : Value} {name : Str} (X : K.In h) (ha : PySem.W.findIn K (.ref C) name = some (some a)) (hg : PySem.W.specialIn K a "__get__" = some (some g)) (ht : PySem.W.takesIn K a = some true) :
    PySem.W.Looks M h (Builtin.ObjectAttr.find x (.ref C) name) (.bind g a) :=
  (PySem.W.looks_findIn (M := M) X ha).andThen ((PySem.W.looks_specialIn X hg).andThen ((show PySem.W.Looks M h (Builtin.ObjectAttr.dataDescriptor? (some a) (some g)) (some (g, a)) from (PySem.W.looks_takesIn X ht).andThen .now).andThen (PySem.W.Looks.tag .now)))
theorem exc_get {R : Result → Shared → Prop} {tp : Value} (X : K.In s.heap) (I : ExcAt a C s.heap) (hm : PySem.W.mroIn K C (.type "object") = some true)
    (h : R (.ok (.ret (.ref C))) s) : codeAny (model prog w) A (.call (.builtin "getset_descriptor.__get__") ⟨[.builtin "object.__class__", .ref a, tp], []⟩) R s := by
  obtain ⟨hh, g, dr, t, os⟩ := s
  have L0 := I.type (M := model prog w)
  have L1 := PySem.W.looks_mroIn (M := model prog w) X hm
  refine codeAny_call_builtin PySem.W.KF.slot_gs.plain PySem.W.KF.entry_gs (PySem.W.KF.slot_gs.check _ _ _ _ _ _ _ _ PySem.W.KF.type_class (PySem.W.KF.args_gs _ _ _) ?_)
  unfold Builtin.«getset_descriptor.__get__» Builtin.Getset_descriptor.descrGet
  rw [PySem.W.dga_obj]
  refine wpAny_bind (wpAny_pure ?_)
  unfold Builtin.Getset_descriptor.descrGetter Builtin.Getset_descriptor.descrCheckInstance Builtin.Getset_descriptor.descrNameAndClass isInstance
  simp only [PySem.W.KF.owner_class]
  repeat lk
  refine ⟨Code.quiet_builtin _ (by decide +kernel), codeAny_builtin PySem.W.KF.entry_class ?_⟩
  unfold Builtin.«object.__class__» shownTypeOf
  repeat lk
  exact h
theorem XCls.isCls (x : XCls K C) : ∃ cd, PySem.W.clsIn K C = some cd := by
  have e := x.mo
  unfold PySem.W.mroIn at e
  obtain ⟨cd, h, _⟩ := Option.bind_eq_some_iff.mp e
  exact ⟨cd, h⟩

theorem exc_class {Q : Option Value → Shared → Prop} (x : XCls K C) (X : K.In s.heap) (I : ExcAt a C s.heap) (h : Q (some (.ref C)) { s with toks := s.toks + 1 }) : wpAny (model prog w) A (getAttr? (.ref a) "__class__") Q E s := by
  obtain ⟨hh, g, d, t, os⟩ := s
  have L0 := I.type (M := model prog w)
  have L1 := PySem.W.looks_findIn (M := model prog w) X x.ga
  have L2' := PySem.W.looks_findIn (M := model prog w) X x.gh
  have L3 := PySem.W.looks_mroIn (M := model prog w) X x.mb
  have L4 := looks_data (M := model prog w) (x := .ref a) X x.ca x.gg x.tk
  have f3 := PySem.F.attr_ValueError.ga.bind (.ref a)
  unfold getAttr? getAttrBy? getAttrBy
  refine wpAny_bind (wpAny_mkText (wpAny_bind (wpAny_attempt (wpAny_holding (wpAny_bind (L0.at (wpAny_bind (L1.at ?_))))))))
  show wpAny _ _ (getAttrByItsOwn _ _ _ _ _ _) _ _ _
  unfold getAttrByItsOwn
  refine wpAny_bind ?_
  show wpAny _ _ (typeLookup (.ref C) "__getattr__") _ _ _
  refine L2'.at ?_
  refine wpAny_bind (wpAny_attempt (wpAny_holding ?_))
  show wpAny _ _ (boundAndCalled _ _ _) _ _ _
  unfold boundAndCalled
  rw [f3]
  refine wpAny_bind (wpAny_pure ?_)
  refine wpAny_call (codeAny_call_builtin PySem.F.attr_ValueError.ga.plain PySem.F.entry_bexc_ga ?_)
  have hk : builtinKind "BaseException.__getattribute__" = some .slot := by decide +kernel
  have hsplit : splitId "BaseException.__getattribute__" = some ("BaseException", "__getattribute__") := by decide +kernel
  have ha := PySem.F.args_bexc_ga (.ref a) (.str "__class__" t)
  simp only [List.cons_append, List.nil_append, checkBuiltinCall, hk, hsplit]
  refine wpAny_bind ?_
  unfold isInstance
  refine wpAny_bind (L0.at (L3.at ?_))
  repeat (first | assumption | wp_step)
  obtain ⟨o, ho, hoc⟩ := id I
  refine wpAny_loadPart_at ho ?_
  rw [hoc]
  refine wpAny_pure (wpAny_bind (L4.at ?_))
  show wpAny _ _ (Builtin.ObjectAttr.bindTo (.builtin "getset_descriptor.__get__") (.builtin "object.__class__") (.ref a) (.ref C)) _ _ _
  unfold Builtin.ObjectAttr.bindTo
  dsimp only
  refine wpAny_bind (wpAny_holding (wpAny_call (exc_get (s := ⟨hh, g, d, t + 1, os⟩) X I x.mo ?_)))
  show wpAny _ _ (ret (.ref C)) _ _ _
  refine wpAny_pure ?_
  show wpAny _ _ (handedOut (.ref C)) _ _ _
  exact PySem.W.handed_on rfl (wpAny_pure h)
theorem kitx_exc (x : XCls K C) : PySem.W.KitX K (.ref a) (.ref C) (ExcAt a C) where
  ty := fun M h _ I => I.type
  it := fun _ _ X _ => by
    obtain ⟨cdD, hcD⟩ := x.isCls
    unfold PySem.W.clsIn at hcD
    split at hcD
    · rename_i c' d' cd' sl' ho
      intro A' Q' E' s' k q
      unfold isType loadHead
      exact wpAny_bind (wpAny_loadPart (k _ _ (X _ _ ho)) (wpAny_pure q))
    · cases hcD
  ne := fun h tp dd its n sl X htp => by
    obtain ⟨cdD, hcD⟩ := x.isCls
    refine Bool.eq_false_iff.mpr fun q => ?_
    have e : C = tp := Value.ref.inj (beq_iff_eq.mp q)
    subst e
    unfold PySem.W.clsIn at hcD
    split at hcD
    · rename_i c' d' cd' sl' ho
      have z := (X _ _ ho).symm.trans htp
      cases z
    · cases hcD
  ca := fun X I k => exc_class x X I k

theorem isi_exc {D : Value} {b : Bool} {Q : Value → Shared → Prop} (x : XCls K C) (X : K.In s.heap) (I : ExcAt a C s.heap) (e : PySem.W.kitOne K (.ref C) D = some b) (h : ∀ tk, Q (.bool b) { s with toks := tk }) : wpAny (model prog w) A (call (.builtin "isinstance") [.ref a, D]) Q E s :=
  PySem.W.kia_one (kitx_exc x) X I e (fun z => nomatch z) h


noncomputable def ExcObj (h : Heap) (C : Addr) : Prop := ∃ bm N nm qn bs hdct sn sub ab col dd k0 k1 k2 k3 k5 mN,
  h.get? C = some (excClassObj nm qn C N bs bm hdct sn sub ab col dd k0 k1 k2 k3 k5 "ValueError.__new__") ∧ h.Ns N mN ∧ mN "__init__" = none ∧ OwnTail h veTail bm
theorem exc_obj {h : Heap} (X : K.In h) (q : PySem.W.excIn K C veTail "ValueError.__new__" = true) : ExcObj h C := by
  unfold PySem.W.excIn at q
  split at q
  · rename_i dd cd sl ho
    split at q
    · rename_i C' bm k0 k1 k2 k3 n k5 hm hs
      simp only [Bool.and_eq_true, beq_iff_eq, Bool.not_eq_true'] at q
      obtain ⟨⟨⟨⟨⟨rfl, rfl⟩, hdel⟩, ht⟩, hok⟩, hni⟩ := q
      obtain ⟨nm, bs, mro, ns, qn, hd, sn, sub, ab, col, del⟩ := cd
      dsimp only at hm hdel hok hni
      subst hm hdel
      have hsl : sl = #[k0, k1, k2, k3, some (.builtin "ValueError.__new__"), k5] := by
        obtain ⟨l⟩ := sl
        simp only at hs
        rw [hs]
      subst hsl
      exact ⟨bm, ns, nm, qn, bs, hd, sn, sub, ab, col, dd, k0, k1, k2, k3, k5, _, X _ _ ho, .of_isNs (PySem.W.isNs_of_in X hok), PySem.W.nsMap_none_of_in X hok hni, PySem.W.tail_of_in X ht⟩
    · cases q
  · cases q


theorem exc_match {D : Addr} {b : Bool} {Q : Bool → Shared → Prop} (X : K.In s.heap) (y : XCls K D) (I : ExcAt a C s.heap) (hm : PySem.W.mroIn K C (.ref D) = some b) (hq : Q b s) : wpAny (model prog w) A (excMatches (.ref a) (.ref D)) Q E s := by
  obtain ⟨bm, N, nm, qn, bs, hdct, sn, sub, ab, col, dd, k0, k1, k2, k3, k5, mN, hC, hN, hni, TL⟩ := exc_obj X y.exc
  obtain ⟨o, he, hcls⟩ := I
  have L := PySem.W.looks_mroIn (M := model prog w) X hm
  obtain ⟨h, g, d, t, os⟩ := s
  have hcB : (Value.ref D :: bm).contains (.type "BaseException") = true := by rw [List.contains_cons, TL.hasType (b := true) (by decide), Bool.or_true]
  have f := tc_notTuple
  unfold excMatches
  repeat (first | (with_reducible refine wpAny_loadPart_at he ?_; rw [hcls]) | with_reducible refine wpAny_loadPart_at hC ?_ | (with_reducible refine L.at ?_) | (with_reducible refine wpAny_isSubtype_exc hC ?_; rw [hcB]) | wp_step)
  cases b <;> (wp_walk; exact hq)
end
end L2

set_option maxHeartbeats 1000000

namespace L2
open PySem PySem.Spec

noncomputable def TrC (h base : Heap) (e : Addr) (cls a0 c fl : Value) : Prop :=
  ∃ (o : Obj) (vs : Array Value) (T : Addr) (oT : Obj) (ts : Array Value), h.get? e = some o ∧ (o.cls = cls ∧ vs[0]? = some a0 ∧ vs[2]? = some c) ∧ o.data = .fields vs ∧ vs[1]? = some (.ref T) ∧ base.get? T = none ∧ T ≠ e ∧ h.get? T = some oT ∧ oT.data = .fields ts ∧ ts[3]? = some fl
noncomputable def FlyC (base : Heap) (l : List Env) (e : Addr) (cls a0 c fl : Value) (h : Heap) : Prop := base.StaysIn h ∧ base.get? e = none ∧ h.FunFrames base l ∧ TrC h base e cls a0 c fl
theorem FlyC.there {base h : Heap} {l : List Env} {e : Addr} {cls a0 c fl : Value} (x : FlyC base l e cls a0 c fl h) : ∃ ob, h.get? e = some ob ∧ ob.cls = cls := by
  obtain ⟨_, _, _, o, _, _, _, _, he, hc, _⟩ := x
  exact ⟨o, he, hc.1⟩
theorem FlyC.outer {base h : Heap} {env : Env} {l : List Env} {e : Addr} {cls a0 c fl : Value} (x : FlyC base (env :: l) e cls a0 c fl h) : FlyC base l e cls a0 c fl h := ⟨x.1, x.2.1, x.2.2.1.2.2, x.2.2.2⟩

theorem FlyC.keeps {base h h' : Heap} {l : List Env} {e : Addr} {cls a0 c fl : Value} (x : FlyC base l e cls a0 c fl h) (k : ∀ b o vs, h.get? b = some o → o.data = .fields vs → h'.get? b = some o) (kb : base.StaysIn h') (kf : h'.FunFrames base l) : FlyC base l e cls a0 c fl h' := by
  obtain ⟨_, f2, _, o, vs, T, oT, ts, he, hc, hd, h1, hn, hne, hT, hdT, h3⟩ := x
  exact ⟨kb, f2, kf, o, vs, T, oT, ts, k _ _ _ he hd, hc, hd, h1, hn, hne, k _ _ _ hT hdT, hdT, h3⟩
section
variable {M : Model} {A : Around} {E : Value → Shared → Prop} {s : Shared} {base : Heap} {env : Env} {outer : List Env} {L e : Addr} {cls a0 c fl : Value} {Q : Unit → Shared → Prop}

theorem entryC {oe : Obj} {vs : Array Value} {head : Value} {hadNext : Bool} (hfr : A.frames = some (env :: outer)) (hl : s.heap.FunFrames base (env :: outer)) (hf : env.frame = some L) (he : s.heap.get? e = some oe) (hkb : base.StaysIn s.heap) (hen : base.get? e = none) (hd : oe.data = .fields vs) (hsz : 1 < vs.size)
    (h0 : vs[0]? = some a0) (h2 : vs[2]? = some c) (h : ∀ h', FlyC base (env :: outer) e oe.cls a0 c (rawInt L) h' → s.heap.UpToSlots h' → Q () { s with heap := h' }) :
    wpAny M A (do let a ← frameOf env; let pl ← entryPlaceOf L hadNext; let b ← EntryCells.newEntry head a .none (rawInt L) .none pl; setField (.ref e) 1 b) Q E s := by
  have nf : ∀ b o, s.heap.get? b = some o → (∀ ws, o.data ≠ .fields ws) → b ≠ e := fun b o hb hn z => by
    rw [z, he] at hb
    cases hb
    exact hn vs hd
  have hne : e ∉ (env :: outer).filterMap (·.frame) := fun hm => by
    obtain ⟨_, o, ho, hn⟩ := hl.mem hm
    exact nf e o ho hn rfl
  refine wpAny_bind (wpAny_frameOf_fun hfr hl hf fun g hg => wpAny_bind (wpAny_entryPlaceOf fun pl hpl => ?_))
  unfold EntryCells.newEntry newFields
  refine wpAny_bind (wpAny_newObj_type ?_ (hpl.sizeOk5 _ _ _ _ _))
  have e1 : g.get? e = some oe := (hg.2.1 e hne).trans he
  have kb : base.StaysIn g := fun b o q => (hg.2.1 b fun hm => by rw [(hl.mem hm).1] at q; cases q).trans (hkb b o q)
  have hTe : g.objs.size ≠ e := Nat.ne_of_gt (Heap.lt_size e1)
  have hd2 := Obj.data_mapFields hd (·.setIfInBounds 1 (Value.ref g.objs.size))
  refine wpAny_setField (Heap.get?_push_of_some _ e1) hd hsz (h _ ⟨fun b o q => ?_, hen, hl.of_keeps fun b o hb hn => ?_, ?_⟩ fun b o hb hn => ?_)
  · rw [Heap.get?_update_other _ _ (fun z => by rw [← z, hen] at q; cases q)]
    exact Heap.get?_push_of_some _ (kb b o q)
  · obtain ⟨sl, hs⟩ := hg.2.2 b o hb
    exact ⟨_, (Heap.get?_update_other _ _ (Ne.symm (nf b o hb hn))).trans (Heap.get?_push_of_some _ hs), rfl⟩
  · refine ⟨_, _, g.objs.size, _, _, Heap.get?_update_self _ (Heap.get?_push_of_some _ e1) (Obj.isFreed_of_fields hd2), ⟨Obj.cls_mapFields _ _, ?_, ?_⟩, hd2, by simp [hsz], kb.fresh, hTe, (Heap.get?_update_other _ _ (Ne.symm hTe)).trans (Heap.get?_push_size g rfl), rfl, ?_⟩
    · rw [Array.getElem?_setIfInBounds_ne (by decide)]
      exact h0
    · rw [Array.getElem?_setIfInBounds_ne (by decide)]
      exact h2
    · first | (simp; done) | (rcases hpl with rfl | ⟨_, _, _, _, _, _, _, rfl⟩ <;> simp)
  · obtain ⟨sl, hs⟩ := hg.2.2 b o hb
    exact ⟨sl, (Heap.get?_update_other _ _ (Ne.symm (nf b o hb hn))).trans (Heap.get?_push_of_some _ hs)⟩

theorem noteC_first {oe : Obj} {vs : Array Value} (hfr : A.frames = some (env :: outer)) (hl : s.heap.FunFrames base (env :: outer)) (hf : env.frame = some L) (he : s.heap.get? e = some oe) (hkb : base.StaysIn s.heap) (hen : base.get? e = none) (hd : oe.data = .fields vs)
    (h0 : vs[0]? = some a0) (h1 : vs[1]? = some .none) (h2 : vs[2]? = some c) (h : ∀ h', FlyC base (env :: outer) e oe.cls a0 c (rawInt L) h' → s.heap.UpToSlots h' → Q () { s with heap := h' }) : wpAny M A (noteFrame (.ref e) env) Q E s := by
  unfold noteFrame
  simp only [hf]
  refine wpAny_bind (wpAny_field he hd h1 ?_)
  rw [if_neg (by decide)]
  exact entryC hfr hl hf he hkb hen hd (Array.getElem?_eq_some_iff.mp h1).1 h0 h2 h

theorem flightC {fr : Option Addr} {l : List Env} (x : FlyC base l e cls a0 c fl s.heap) (h : ∀ h', FlyC base l e cls a0 c (fr.elim .none fun f => rawInt f) h' → s.heap.UpToSlots h' → Q () { s with heap := h' }) : wpAny M A (setFlight (.ref e) fr) Q E s := by
  obtain ⟨f1, f2, f3, o, vs, T, oT, ts, he, hc, hd, h1, hn, hne, hT, hdT, h3⟩ := x
  have sz : 3 < ts.size := (Array.getElem?_eq_some_iff.mp h3).1
  have nr : ∀ b o, s.heap.get? b = some o → (∀ ws, o.data ≠ .fields ws) → T ≠ b := fun b o hb hn z => by
    rw [← z, hT] at hb
    cases hb
    exact hn ts hdT
  unfold setFlight
  refine wpAny_bind (wpAny_field he hd h1 ?_)
  rw [if_pos (show (Value.ref T != Value.none) = true from by simp)]
  refine wpAny_setField hT hdT sz (h _ ⟨fun b o q => ?_, f2, f3.of_keeps fun b o hb hn => ⟨o, (Heap.get?_update_other _ _ (nr b o hb hn)).trans hb, rfl⟩, ?_⟩ fun b o hb hn => ⟨o.slots, (Heap.get?_update_other _ _ (nr b o hb hn)).trans hb⟩)
  · rw [Heap.get?_update_other _ _ (fun z => by rw [← z, hn] at q; cases q)]
    exact f1 b o q
  · exact ⟨o, vs, T, _, _, (Heap.get?_update_other _ _ hne).trans he, hc, hd, h1, hn, hne, Heap.get?_update_self _ hT (Obj.isFreed_of_fields (Obj.data_mapFields hdT _)), Obj.data_mapFields hdT _, by simp [sz]⟩

theorem noteC_next (hfr : A.frames = some (env :: outer)) (hf : env.frame = some L) (x : FlyC base (env :: outer) e cls a0 c .none s.heap) (h : ∀ h', FlyC base (env :: outer) e cls a0 c (rawInt L) h' → s.heap.UpToSlots h' → Q () { s with heap := h' }) : wpAny M A (noteFrame (.ref e) env) Q E s := by
  obtain ⟨f1, f2, f3, o, vs, T, oT, ts, he, hc, hd, h1, hn, hne, hT, hdT, h3⟩ := x
  have nr : ∀ b o, s.heap.get? b = some o → (∀ ws, o.data ≠ .fields ws) → T ≠ b := fun b o hb hn z => by
    rw [← z, hT] at hb
    cases hb
    exact hn ts hdT
  have hce := hc.1
  subst hce
  unfold noteFrame
  simp only [hf]
  refine wpAny_bind (wpAny_field he hd h1 ?_)
  rw [if_pos (show (Value.ref T != Value.none) = true from by simp)]
  refine wpAny_bind (wpAny_field hT hdT h3 ?_)
  rw [if_neg (show ¬ ((Value.none == rawInt L) = true) from by simp [rawInt])]
  refine wpAny_bind (wpAny_setField hT hdT (Array.getElem?_eq_some_iff.mp h3).1 ?_)
  have sm : s.heap.UpToSlots (s.heap.update T (Obj.mapFields (·.setIfInBounds 3 Value.none))) := fun b o hb hn => ⟨o.slots, (Heap.get?_update_other _ _ (nr b o hb hn)).trans hb⟩
  refine entryC hfr (f3.of_keeps fun b o hb hn => ⟨o, (Heap.get?_update_other _ _ (nr b o hb hn)).trans hb, rfl⟩) hf ((Heap.get?_update_other _ _ hne).trans he) (fun b o q => ?_) f2 hd (Array.getElem?_eq_some_iff.mp h1).1 hc.2.1 hc.2.2 fun h' y z => h h' y (sm.trans z)
  rw [Heap.get?_update_other _ _ (fun z => by rw [← z, hn] at q; cases q)]
  exact f1 b o q

theorem noteC_again {l : List Env} (hf : env.frame = some L) (x : FlyC base l e cls a0 c (rawInt L) s.heap) (h : Q () s) : wpAny M A (noteFrame (.ref e) env) Q E s := by
  obtain ⟨_, _, _, o, vs, T, oT, ts, he, hc, hd, h1, hn, hne, hT, hdT, h3⟩ := x
  unfold noteFrame
  simp only [hf]
  refine wpAny_bind (wpAny_field he hd h1 ?_)
  rw [if_pos (show (Value.ref T != Value.none) = true from by simp)]
  refine wpAny_bind (wpAny_field hT hdT h3 ?_)
  rw [if_pos (show (rawInt L == rawInt L) = true from by simp)]
  exact wpAny_pure h

theorem leaveC (hfr : A.frames = some (env :: outer)) (hf : env.frame = some L) (x : FlyC base (env :: outer) e cls a0 c .none s.heap) (h : ∀ h', FlyC base outer e cls a0 c .none h' → s.heap.UpToSlots h' → Q () { s with heap := h' }) : wpAny M A (leaving env (.ref e)) Q E s := by
  unfold leaving
  refine wpAny_bind (noteC_next hfr hf x fun h1 x1 z1 => ?_)
  exact flightC (s := { s with heap := h1 }) (fr := none) x1 fun h2 x2 z2 => h h2 x2.outer (z1.trans z2)
theorem leaveC_held (hf : env.frame = some L) (x : FlyC base (env :: outer) e cls a0 c (rawInt L) s.heap) (h : ∀ h', FlyC base outer e cls a0 c .none h' → s.heap.UpToSlots h' → Q () { s with heap := h' }) : wpAny M A (leaving env (.ref e)) Q E s := by
  unfold leaving
  refine wpAny_bind (noteC_again hf x ?_)
  exact flightC (fr := none) x fun h2 x2 z2 => h h2 x2.outer z2

structure MadeC (h h' : Heap) (e : Addr) (cls a0 c : Value) : Prop where
  keeps : ∀ b o, h.get? b = some o → h'.get? b = some o
  new : h.get? e = none
  there : ∃ o vs, h'.get? e = some o ∧ o.cls = cls ∧ o.data = .fields vs ∧ vs[0]? = some a0 ∧ vs[1]? = some .none ∧ vs[2]? = some c
theorem MadeC.of {h h' : Heap} {e : Addr} {cls : Value} {args : List Value} (x : Heap.MadeExcOf h h' e cls args) : ∃ a0, MadeC h h' e cls a0 .none := by
  obtain ⟨t, he, _, _⟩ := x.there
  exact ⟨.ref t, x.keeps, x.new, _, _, he, rfl, rfl, rfl, rfl, rfl⟩
theorem fresh_of {h base : Heap} (k : base.StaysIn h) {b : Addr} (n : h.get? b = none) : base.get? b = none := by
  cases q : base.get? b with
  | none => rfl
  | some o => have := k b o q; rw [n] at this; cases this
theorem noteC_made {h : Heap} (hfr : A.frames = some (env :: outer)) (hf : env.frame = some L) (hkb : base.StaysIn h) (hl : h.FunFrames base (env :: outer)) (x : MadeC h s.heap e cls a0 c) (k : ∀ h', FlyC base (env :: outer) e cls a0 c (rawInt L) h' → s.heap.UpToSlots h' → Q () { s with heap := h' }) : wpAny M A (noteFrame (.ref e) env) Q E s := by
  obtain ⟨o, vs, he, hc, hd, h0, h1, h2⟩ := x.there
  subst hc
  exact noteC_first hfr (hl.of_keeps fun b o hb _ => ⟨o, x.keeps b o hb, rfl⟩) hf he (fun b o hb => x.keeps b o (hkb b o hb)) (fresh_of hkb x.new) hd h0 h1 h2 k
theorem leaveC_made {h : Heap} (hfr : A.frames = some (env :: outer)) (hf : env.frame = some L) (hkb : base.StaysIn h) (hl : h.FunFrames base (env :: outer)) (x : MadeC h s.heap e cls a0 c) (k : ∀ h', FlyC base outer e cls a0 c .none h' → s.heap.UpToSlots h' → Q () { s with heap := h' }) : wpAny M A (leaving env (.ref e)) Q E s := by
  unfold leaving
  refine wpAny_bind (noteC_made hfr hf hkb hl x fun h1 x1 z1 => ?_)
  exact flightC (s := { s with heap := h1 }) (fr := none) x1 fun h2 x2 z2 => k h2 x2.outer (z1.trans z2)

theorem passOnC {α : Type} {what : String} {l : List Env} {Q : α → Shared → Prop} (hf : env.frame = some L) (x : FlyC base l e cls a0 c fl s.heap) (h : ∀ h', FlyC base l e cls a0 c (rawInt L) h' → s.heap.UpToSlots h' → E (.ref e) { s with heap := h' }) : wpAny M A (passOn what (.ref e) env : Sem α) Q E s := by
  obtain ⟨_, _, _, o, vs, T, oT, ts, he, hc, hd, h1, _⟩ := id x
  unfold passOn
  refine wpAny_bind (wpAny_field he hd h1 ?_)
  rw [if_neg (show ¬ ((Value.ref T == Value.none) = true) from fun z => by cases beq_iff_eq.mp z)]
  refine wpAny_bind ?_
  rw [hf]
  exact flightC (fr := some L) x fun h' x' z => wpAny_throw (h h' x' z)
theorem cameBackC {l : List Env} (hf : env.frame = some L) (x : FlyC base l e cls a0 c fl s.heap) (h : ∀ h', FlyC base l e cls a0 c (rawInt L) h' → s.heap.UpToSlots h' → E (.ref e) { s with heap := h' }) : cameBackBy M A env E (.ref e) s := by
  obtain ⟨_, _, _, o, vs, T, oT, ts, he, hc, hd, h1, _⟩ := id x
  unfold cameBackBy
  refine wpAny_bind (wpAny_field he hd h1 ?_)
  rw [if_neg (show ¬ ((Value.ref T == Value.none) = true) from fun z => by cases beq_iff_eq.mp z)]
  rw [hf]
  exact flightC (fr := some L) x fun h' x' z => h h' x' z
end
theorem FlyC.kept {base h h' : Heap} {l : List Env} {e : Addr} {cls a0 c fl : Value} (x : FlyC base l e cls a0 c fl h) (k : ∀ b o, h.get? b = some o → h'.get? b = some o) : FlyC base l e cls a0 c fl h' :=
  x.keeps (fun b o _ e _ => k b o e) (fun b o q => k b o (x.1 b o q)) (x.2.2.1.of_keeps fun b o q _ => ⟨o, k b o q, rfl⟩)
theorem FlyC.full {base h : Heap} {l : List Env} {e : Addr} {cls a0 c fl : Value} (x : FlyC base l e cls a0 c fl h) : ∃ ob vs, h.get? e = some ob ∧ ob.cls = cls ∧ ob.data = .fields vs ∧ vs[2]? = some c := by
  obtain ⟨_, _, _, o, vs, _, _, _, he, hc, hd, _⟩ := x
  exact ⟨o, vs, he, hc.1, hd, hc.2.2⟩
theorem frames_rebase {h b b' : Heap} : ∀ {l : List Env}, (∀ L ∈ l.filterMap (·.frame), b'.get? L = none) → h.FunFrames b l → h.FunFrames b' l
  | [], _, _ => trivial
  | env :: r, n, ⟨hk, ⟨L, o, hf, _, ho, hd⟩, hr⟩ => ⟨hk, ⟨L, o, hf, n L (List.mem_filterMap.mpr ⟨env, List.mem_cons_self, hf⟩), ho, hd⟩, frames_rebase (fun L' hL => n L' (by rw [List.filterMap_cons, hf]; exact List.mem_cons_of_mem _ hL)) hr⟩
end L2

set_option maxHeartbeats 1000000

namespace L2
open PySem PySem.Spec PyProof.Rows

theorem ObjOk.get {P : Program} {w : World} {H : Hp} {h : Heap} {a : Addr} {o : HO} (x : ObjOk P w H h a o) : ∃ u, h.get? a = some u := by
  cases o with
  | lst xs => obtain ⟨_, _, _, _, e⟩ := x; exact ⟨_, e⟩
  | tup xs => obtain ⟨_, _, _, ob, e, _⟩ := x; exact ⟨_, e⟩
  | dK kvs => obtain ⟨_, _, _, _, o, _, _, e, _⟩ := x; exact ⟨_, e⟩
  | dT kvs => obtain ⟨_, _, _, _, o, _, _, e, _⟩ := x; exact ⟨_, e⟩
  | set S n => obtain ⟨o, _, _, _, e, _⟩ := x; exact ⟨_, e⟩
  | ins C dx fs => obtain ⟨_, _, _, e, _⟩ := x; exact ⟨_, e⟩
  | own y => obtain ⟨_, e⟩ := x; exact ⟨_, e⟩
  | xd fs => obtain ⟨_, ⟨_, _, _, e, _⟩, _⟩ := x; exact ⟨_, e⟩
  | rng lo hi => obtain ⟨_, _, _, e⟩ := x; exact ⟨_, e⟩
  | frz ob u => obtain ⟨e, _⟩ := x; exact ⟨_, e⟩
  | tbl ps => exact ⟨_, (show h.get? a = some _ from x)⟩
  | met f y => exact ⟨_, (show h.get? a = some _ from x)⟩
  | ext φ => obtain ⟨_, ⟨_, e⟩, _⟩ := x; exact ⟨_, e⟩

section
variable {P : Program} {w : World} {fs : List Addr} {H₀ H : Hp} {h₀ h h' B : Heap}

noncomputable def Bk (fs : List Addr) (H : Hp) (h₀ h B : Heap) : Prop := ∀ b o, h.get? b = some o → b ∉ fs → (H b ≠ none ∨ ∃ u, h₀.get? b = some u) → B.get? b = some o
theorem Un.onB (u : Un fs [] H₀ H h₀ h) (bk : Bk fs H h₀ h B) (st : B.StaysIn h') (sm : h.UpToSlots h') (frf : ∀ b ∈ fs, H₀ b = none) (fnf : ∀ b ∈ fs, ∀ o, h₀.get? b = some o → ∀ vs, o.data ≠ .fields vs) : Un fs [] H₀ H h₀ h' := by
  have sl : ∀ b o, h₀.get? b = some o → H₀ b = none → b ∈ fs → ∃ sl, h'.get? b = some { o with slots := sl } := fun b o e n hb => by
    obtain ⟨s1, e1⟩ := u.slot b o e n hb (by simp)
    obtain ⟨s2, e2⟩ := sm b _ e1 (fun vs q => fnf b hb o e vs q)
    exact ⟨s2, e2⟩
  refine ⟨fun b o e n hb _ => ?_, fun b o e n hb _ => sl b o e n hb, fun b o e n hx => u.free b o e n hx, fun b o e _ => ?_, u.tups, u.frzs, u.tbls⟩
  · exact st b o (bk b o (u.keep b o e n hb (by simp)) hb (.inr ⟨o, e⟩))
  · by_cases hb : b ∈ fs
    · obtain ⟨s1, e1⟩ := sl b o e (frf b hb) hb
      exact ⟨_, e1⟩
    · obtain ⟨o', e1⟩ := u.there b o e (by simp)
      exact ⟨o', st b o' (bk b o' e1 hb (.inr ⟨o, e⟩))⟩
theorem HOk.onB (x : HOk P w H h) (bk : Bk fs H h₀ h B) (st : B.StaysIn h') (nf : ∀ b ∈ fs, H b = none) : HOk P w H h' := fun b o e =>
  (x b o e).stay (fun c v hc q => by
    have ht : H c ≠ none := by
      rcases hc with rfl | hc
      · rw [e]; exact fun z => nomatch z
      · rw [hc]; exact fun z => nomatch z
    exact st c v (bk c v q (fun z => ht (nf c z)) (.inl ht))) (fun _ q => q) fun _ _ q => q
theorem Bk.onB (bk : Bk fs H h₀ h B) (x : HOk P w H h) (th : ∀ b u, h₀.get? b = some u → ∃ o, h.get? b = some o) (st : B.StaysIn h') : Bk fs H h₀ h' B := fun b o e hb hc => by
  have : ∃ o', h.get? b = some o' := by
    rcases hc with hc | ⟨u, hu⟩
    · cases q : H b with
      | none => exact absurd q hc
      | some u => exact (x b u q).get
    · exact th b u hu
  obtain ⟨o', e'⟩ := this
  have e2 := bk b o' e' hb hc
  rw [st b o' e2] at e
  cases e
  exact e2
end


noncomputable def ctxV (d : Option Addr) : Value := d.elim .none .ref

structure Fly (P : Program) (w : World) (outer : List Env) (H : Hp) (s : Shared) (a C : Addr) (B : Heap) (a0 : Value) (d : Option Addr) (H' : Hp) (s' : Shared) : Prop where
  os : s'.os = s.os
  bare : AllBare s'.gens
  fly : FlyC B outer a (.ref C) a0 (ctxV d) .none s'.heap
  un : Un (frs outer) [] H H' s.heap s'.heap
  hok : HOk P w H' s'.heap
  free : H' a = none
  new : s.heap.get? a = none
  bk : Bk (frs outer) H' s.heap s'.heap B
noncomputable def CXF (P : Program) (w : World) : CXT := fun outer H s E e s' => ∃ a C B a0 d H', e = .ref a ∧ Fly P w outer H s a C B a0 d H' s' ∧ E (.ref C) d H'


structure Frames (outer : List Env) (H : Hp) (h : Heap) : Prop where
  frf : ∀ b ∈ frs outer, H b = none
  fnf : ∀ b ∈ frs outer, ∀ o, h.get? b = some o → ∀ vs, o.data ≠ .fields vs
  th : ∀ b ∈ frs outer, ∃ o, h.get? b = some o
theorem Frames.of {outer : List Env} {H : Hp} {h base : Heap} (f : ∀ b ∈ frs outer, H b = none) (x : h.FunFrames base outer) : Frames outer H h := by
  refine ⟨f, fun b hb o e vs => ?_, fun b hb => ?_⟩
  · obtain ⟨_, o', e', q⟩ := x.mem hb
    rw [e'] at e
    cases e
    exact q vs
  · obtain ⟨_, o', e', q⟩ := x.mem hb
    exact ⟨o', e'⟩

section
variable {P : Program} {w : World} {outer : List Env} {H H' : Hp} {s s' : Shared} {a C : Addr} {B : Heap} {a0 : Value} {d : Option Addr}
theorem Fly.nf (F : Fly P w outer H s a C B a0 d H' s') (Z : Frames outer H s.heap) : ∀ b ∈ frs outer, H' b = none := fun b hb => by
  obtain ⟨o, e⟩ := Z.th b hb
  exact F.un.free b o e (Z.frf b hb) (by simp)
theorem Fly.on {h : Heap} (F : Fly P w outer H s a C B a0 d H' s') (Z : Frames outer H s.heap) (f : FlyC B outer a (.ref C) a0 (ctxV d) .none h) (sm : s'.heap.UpToSlots h) : Fly P w outer H s a C B a0 d H' { s' with heap := h } :=
  ⟨F.os, F.bare, f, F.un.onB F.bk f.1 sm Z.frf Z.fnf, F.hok.onB F.bk f.1 (F.nf Z), F.free, F.new, F.bk.onB F.hok (fun b u e => F.un.there b u e (by simp)) f.1⟩
end

section
variable {X : Cx} {pins : List (Addr × Obj)} {σ : St} {H H' : Hp} {s s' : Shared} {a C : Addr} {B : Heap} {a0 : Value} {d : Option Addr}
theorem Inv.frames (I : Inv X pins σ H s) : Frames X.stack H s.heap := .of I.stkFree I.stack
theorem Inv.frames0 (I : Inv X pins σ H s) : Frames X.outer X.H₀ X.s₀.heap := .of I.ok.frf I.ok.funs

theorem Inv.flown (I : Inv X pins σ H s) (F : Fly X.prog X.w X.stack H s a C B a0 d H' s') : Inv X pins σ H' s' :=
  I.call' (ch := []) F.os F.un F.hok F.bare fun b z => absurd z (by simp)

theorem Fly.out (I : Inv X pins σ H s) (F : Fly X.prog X.w X.stack H s a C B a0 d H' s') (hst : X.stack = X.env :: X.outer) (hex : X.ex = []) : Fly X.prog X.w X.outer X.H₀ X.s₀ a C B a0 d H' s' := by
  have I' := I.flown F
  have hb : Un X.fs [] X.H₀ H' X.s₀.heap s'.heap := hex ▸ I'.base
  refine ⟨I'.os, F.bare, ?_, hb, F.hok, F.free, ?_, fun b o e hb' hc => ?_⟩
  · obtain ⟨f1, f2, f3, f4⟩ := F.fly
    rw [hst] at f3
    exact ⟨f1, f2, f3.2.2, f4⟩
  · cases e : X.s₀.heap.get? a with
    | none => rfl
    | some u =>
      obtain ⟨o, e2⟩ := I.base.there a u e (by rw [hex]; simp)
      rw [F.new] at e2
      cases e2
  · have hne : b ≠ X.env.locals := by
      rcases hc with hc | ⟨u, hu⟩
      · intro z
        rw [z] at hc
        exact hc I'.free
      · exact Nat.ne_of_lt (Nat.lt_of_lt_of_le (Heap.lt_size hu) I.ok.above)
    refine F.bk b o e (fun z => ?_) ?_
    · rcases List.mem_cons.mp (I.stkSub b z) with q | q
      · exact hne q
      · exact hb' q
    · rcases hc with hc | ⟨u, hu⟩
      · exact .inl hc
      · exact .inr (I.base.there b u hu (by rw [hex]; simp))

theorem Fly.leaves {M : Model} {A : Around} {Q : Unit → Shared → Prop} {E : Value → Shared → Prop} (I : Inv X pins σ H s) (F : Fly X.prog X.w X.stack H s a C B a0 d H' s') (hst : X.stack = X.env :: X.outer) (hex : X.ex = []) (hf : X.env.frame = some X.env.locals) (hA : A.frames = some X.stack)
    (h : ∀ s'', Fly X.prog X.w X.outer X.H₀ X.s₀ a C B a0 d H' s'' → Q () s'') : wpAny M A (leaving X.env (.ref a)) Q E s' := by
  refine leaveC (hst ▸ hA) hf (hst ▸ F.fly) fun h' f sm => h _ ?_
  exact (F.out I hst hex).on I.frames0 f sm

theorem raise_leaves {M : Model} {A : Around} {Q : Unit → Shared → Prop} {E : Value → Shared → Prop} {h' : Heap} (I : Inv X pins σ H s) (hx : MadeC s.heap h' a (.ref C) a0 (ctxV d)) (hst : X.stack = X.env :: X.outer) (hex : X.ex = []) (hf : X.env.frame = some X.env.locals) (hA : A.frames = some X.stack)
    (h : ∀ s'' B, Fly X.prog X.w X.outer X.H₀ X.s₀ a C B a0 d H s'' → Q () s'') : wpAny M A (leaving X.env (.ref a)) Q E { s with heap := h' } := by
  have hin : ∀ env ∈ X.stack, ∀ b, env.frame = some b → b ∈ frs X.stack := fun env he b hb => List.mem_filterMap.mpr ⟨env, he, hb⟩
  have hfr : s.heap.FunFrames (PySem.W.hideAll s.heap (frs X.stack)) X.stack := PySem.W.funFrames_hide I.stack hin
  refine leaveC_made (base := PySem.W.hideAll s.heap (frs X.stack)) (h := s.heap) (hst ▸ hA) hf (fun b o q => PySem.W.of_hideAll _ q) (hst ▸ hfr) hx fun h'' f1 f4 => h _ (PySem.W.hideAll s.heap (frs X.stack)) ?_
  have hb : Un X.fs [] X.H₀ H X.s₀.heap s.heap := hex ▸ I.base
  have bk : Bk X.fs H X.s₀.heap s.heap (PySem.W.hideAll s.heap (frs X.stack)) := fun b o e hb' hc => by
    have hne : b ≠ X.env.locals := by
      rcases hc with hc | ⟨u, hu⟩
      · intro z
        rw [z] at hc
        exact hc I.free
      · exact Nat.ne_of_lt (Nat.lt_of_lt_of_le (Heap.lt_size hu) I.ok.above)
    refine PySem.W.hideAll_get _ e fun z => ?_
    rcases List.mem_cons.mp (I.stkSub b z) with q | q
    · exact hne q
    · exact hb' q
  have sm : s.heap.UpToSlots h'' := (Heap.UpToSlots.of_keeps hx.keeps).trans f4
  have nf : ∀ b ∈ X.fs, H b = none := fun b hb' => by
    obtain ⟨o, e⟩ := I.frames0.th b hb'
    exact hb.free b o e (I.ok.frf b hb') (by simp)
  refine ⟨I.os, I.bare, f1, hb.onB bk f1.1 sm I.ok.frf I.frames0.fnf, I.hok.onB bk f1.1 nf, ?_, ?_, bk.onB I.hok (fun b u e => hb.there b u e (by simp)) f1.1⟩
  · cases e : H a with
    | none => rfl
    | some u =>
      obtain ⟨o, e2⟩ := (I.hok a u e).get
      rw [hx.new] at e2
      cases e2
  · cases e : X.s₀.heap.get? a with
    | none => rfl
    | some u =>
      obtain ⟨o, e2⟩ := hb.there a u e (by simp)
      rw [hx.new] at e2
      cases e2
end
end L2

set_option maxHeartbeats 1000000

namespace L2
open PySem PySem.Spec PyProof.Rows


section
variable (P : Program) (w : World) (K : PySem.W.Frag) (mg : Str → Option Value) (base : Heap)
noncomputable def DefX (k : Nat) (x : Str) (ps : List Str) (sp : Sp) : Prop := ∃ f fd, FnOk P w K mg base (CXF P w) k f fd ps sp ∧ mg x = some (.ref f) ∧ PySem.W.keepIn K (.ref f) = true ∧ Binds K fd ps []
noncomputable def MetX (C : Addr) (k : Nat) (m : Str) (ps : List Str) (sp : Sp) : Prop := ∃ f fd, FnOk P w K mg base (CXF P w) k f fd ps sp ∧ Meth K C m f ∧ Binds K fd ps []
noncomputable def MakX (C : Addr) (k : Nat) (x : Str) (ps : List Str) (sp : Sp) : Prop := ∃ f fd, FnOk P w K mg base (CXF P w) k f fd ps sp ∧ Mk K C f ∧ mg x = some (.ref C) ∧ Binds K fd ps []
noncomputable def BodyX (qual : Str) (st : Stmt) (N : List Str) (k : Nat) (sp : Sp) : Prop :=
  ∀ (f : Addr) (cdv : Value) (A : Around) (outer : List Env) (s : Shared) (H : Hp) (vs : List V) (Q : VK) (E : XK), Room k (A.deeper (envOfC qual (defScope st) s.heap.objs.size f cdv)) → sp vs H Q E →
    ∃ t, PSs (cxOf (CXF P w) P w K mg base N qual (defScope st) f cdv A outer s H E) (defBody st) t ∧ t { nx := fun _ H' => Q .non H', rt := Q } (start N vs) H
end
section
variable {P : Program} {w : World} {K : PySem.W.Frag} {mg : Str → Option Value} {base : Heap} {C : Addr}
theorem Fun.okX {x qual : Str} {st : Stmt} {f : Addr} {fd : FuncData} {N ps : List Str} {k : Nat} {sp : Sp} (F : Fun K x qual st f fd) (S : FnScope N ps (defScope st)) (len : ∀ vs H Q E, sp vs H Q E → vs.length = ps.length) (h : BodyX P w K mg base qual st N k sp) : FnOk P w K mg base (CXF P w) (k + 1) f fd ps sp := by
  obtain ⟨oc, od, kV, doc, pm, an, cdv, ct, osl, rfl, lk, hcd⟩ := F.ex
  exact fn_of lk hcd S len fun A outer s H vs Q E hr hsp => h f cdv A outer s H vs Q E hr hsp
theorem FunAt.defX {x qual : Str} {st : Stmt} {N ps : List Str} {k : Nat} {sp : Sp} (F : FunAt K mg x qual st) (S : FnScope N ps (defScope st)) (hb : BindOk x qual st ps) (len : ∀ vs H Q E, sp vs H Q E → vs.length = ps.length) (h : BodyX P w K mg base qual st N k sp) : DefX P w K mg base (k + 1) x ps sp := by
  obtain ⟨f, fd, F, e⟩ := F
  exact ⟨f, fd, F.okX S len h, e, F.kp, F.binds hb⟩
theorem MetAt.defX {x qual : Str} {st : Stmt} {N ps : List Str} {k : Nat} {sp : Sp} (F : MetAt K C x qual st) (S : FnScope N ps (defScope st)) (hb : BindOk x qual st ps) (len : ∀ vs H Q E, sp vs H Q E → vs.length = ps.length) (h : BodyX P w K mg base qual st N k sp) : MetX P w K mg base C (k + 1) x ps sp := by
  obtain ⟨f, fd, F, e⟩ := F
  exact ⟨f, fd, F.okX S len h, e, F.binds hb⟩
theorem MakAt.defX {c x qual : Str} {st : Stmt} {N ps : List Str} {k : Nat} {sp : Sp} (F : MakAt K mg C c x qual st) (S : FnScope N ps (defScope st)) (hb : BindOk x qual st ps) (len : ∀ vs H Q E, sp vs H Q E → vs.length = ps.length) (h : BodyX P w K mg base qual st N k sp) : MakX P w K mg base C (k + 1) c ps sp := by
  obtain ⟨f, fd, F, e, e2⟩ := F
  exact ⟨f, fd, F.okX S len h, e, e2, F.binds hb⟩

theorem FnOk.calm {k : Nat} {f : Addr} {fd : FuncData} {ps : List Str} {sp sp' : Sp} (F : FnOk P w K mg base (CXF P w) k f fd ps sp) (h : ∀ vs H Q E, sp' vs H Q E → sp vs H Q E0) : FnOk P w K mg base CX0 k f fd ps sp' :=
  ⟨fun vs H Q E q => F.len vs H Q E0 (h _ _ _ _ q), fun A outer s H args us vs Q E hr he hb hv hs => codeAny_mono (F.run A outer s H args us vs Q E0 hr he hb hv (h _ _ _ _ hs)) fun r s' q => by
    cases r with
    | ok f => cases f <;> exact q
    | error e => obtain ⟨_, _, _, _, _, _, _, _, z⟩ := q; exact z.elim⟩
theorem DefX.calm {k : Nat} {x : Str} {ps : List Str} {sp sp' : Sp} (D : DefX P w K mg base k x ps sp) (h : ∀ vs H Q E, sp' vs H Q E → sp vs H Q E0) : Def P w K mg base k x ps sp' :=
  let ⟨f, fd, F, r⟩ := D; ⟨f, fd, F.calm h, r⟩
theorem MetX.calm {k : Nat} {x : Str} {ps : List Str} {sp sp' : Sp} (D : MetX P w K mg base C k x ps sp) (h : ∀ vs H Q E, sp' vs H Q E → sp vs H Q E0) : MetD P w K mg base C k x ps sp' :=
  let ⟨f, fd, F, r⟩ := D; ⟨f, fd, F.calm h, r⟩
theorem MakX.calm {k : Nat} {x : Str} {ps : List Str} {sp sp' : Sp} (D : MakX P w K mg base C k x ps sp) (h : ∀ vs H Q E, sp' vs H Q E → sp vs H Q E0) : MakD P w K mg base C k x ps sp' :=
  let ⟨f, fd, F, r⟩ := D; ⟨f, fd, F.calm h, r⟩
end



noncomputable def PassesX (X : Cx) (E : St → XK) : Prop := ∀ (pins : List (Addr × Obj)) (σ : St) (H : Hp) (s : Shared) (e : Value) (s' : Shared), Inv X pins σ H s → CXF X.prog X.w X.stack H s (E σ) e s' → X.xe e s'

noncomputable def RaisesX (X : Cx) (E : St → XK) : Prop := ∀ (pins : List (Addr × Obj)) (σ : St) (H : Hp) (s : Shared) (a C : Addr) (h' : Heap) (args : List Value), Inv X pins σ H s → Heap.MadeExcOf s.heap h' a (.ref C) args → E σ (.ref C) none H → X.xe (.ref a) { s with heap := h' }
section
variable {P : Program} {w : World} {K : PySem.W.Frag} {mg : Str → Option Value} {base : Heap} {N : List Str} {qual : Str} {scope : Scope} {f : Addr} {cd : Value} {A : Around} {outer : List Env} {s : Shared} {H : Hp} {E : XK}
theorem passX : PassesX (cxOf (CXF P w) P w K mg base N qual scope f cd A outer s H E) (fun _ => E) := by
  rintro pins σ H1 s1 e s' I ⟨a, C, B, a0, d, H', rfl, F, q⟩
  exact F.leaves I rfl rfl rfl I.ok.frames fun s'' F' => ⟨a, C, B, a0, d, H', rfl, F', q⟩
theorem raiseX : RaisesX (cxOf (CXF P w) P w K mg base N qual scope f cd A outer s H E) (fun _ => E) := by
  intro pins σ H1 s1 a C h' args I hx q
  obtain ⟨a0, hm⟩ := MadeC.of hx
  exact raise_leaves (d := none) I hm rfl rfl rfl I.ok.frames fun s'' B F' => ⟨a, C, B, a0, none, H1, rfl, F', q⟩
end


noncomputable def tRaise (C : Addr) (E : St → XK) (t : TA) : TS := fun _ σ H => t σ H fun xs H1 => xs.length ≤ sizeLine ∧ E σ (.ref C) none H1
section
variable {X : Cx} {C : Addr} {E : St → XK} {x : Str} {e : Expr} {es : List Expr} {t : TA} {np cpos pos : Pos}
theorem ps_raise (hR : RaisesX X E) (xc : XCls X.K C) (hm : X.mg x = some (.ref C)) (hc : X.calm = true) (ha : PA X (e :: es) t) (hg : Gl X x := by rfl) (hdb : (x == ("__debug__" : Str)) = false := by decide)
    (he : starEach (e :: es) X.env = (false, eval e X.env) :: starEach es X.env := by rfl) (hpl : (backTo cpos (starEach es X.env)).any (·.1) = false := by rfl) :
    PS X (.Raise (some (.Call (.Name x np) (e :: es) [] cpos)) none pos) (tRaise C E t) := by
  intro pins s σ H D I h
  obtain ⟨bm, N, nm, q, bs, hdct, sn, sub, ab, col, dd, k0, k1, k2, k3, k5, mN, hC, hN, hni, TL⟩ := exc_obj I.mod.kin xc.exc
  refine wpAny_Raise_call_subU (C := C) (nm := nm) (q := q) (N := N) (bs := bs) (bm := bm) (hdct := hdct) (sn := sn) (sub := sub) (ab := ab) (col := col) (dd := dd) (k0 := k0) (k1 := k1) (k2 := k2) (k3 := k3) (k5 := k5)
    PySem.F.excBase_ValueError (by decide) PySem.F.excBase_ValueError (mN := mN) (TL.hasType (by decide)) (I.ok.hd hc) (by rw [he]; show (false || (backTo cpos (starEach es X.env)).any (·.1)) = false; rw [hpl]; rfl) hni (ld_glob I hg hm ⟨rfl, ?_⟩ hdb)
  have h2 := ha cpos pins s σ H _ I h
  rw [he] at h2 ⊢
  refine Calls.evalArgs_plain (thn h2 fun us s1 ⟨xs, H1, I1, r1, q1⟩ => ⟨rfl, by rw [← r1.length]; exact q1.1, I1.bk _ _ hC, hN.keeps I1.bk, TL.keeps I1.bk, fun h' a hx => ?_⟩)
  exact hR pins σ H1 s1 a C h' us I1 hx q1.2
end


noncomputable def tCallX (sp : Sp) (E : St → XK) (t : TA) : TE := fun σ H Q => t σ H fun vs H1 => sp vs H1 Q (E σ)
noncomputable def tMethX (C : Addr) (m : Str) (sp : Sp) (E : St → XK) (ta : TE) (t : TA) : TE := fun σ H Q => ta σ H fun x H1 => ∃ a dx fs, x = .ref a ∧ H1 a = some (.ins C dx fs) ∧ fs.lookup m = none ∧ t σ H1 fun vs H2 => sp (x :: vs) H2 Q (E σ)
noncomputable def tMakeX (C : Addr) (sp : Sp) (E : St → XK) (t : TA) : TE := fun σ H Q => t σ H fun vs H1 => ∀ x dx, H1 x = none → H1 dx = none → dx ≠ x →
  sp (.ref x :: vs) (upd (upd H1 dx (.own x)) x (.ins C dx [])) (fun v H2 => v = .non ∧ Q (.ref x) H2) (E σ)
section
variable {X : Cx} {k : Nat} {C : Addr} {f : Addr} {fd : FuncData} {ps : List Str} {sp : Sp} {x m : Str} {p pos apos : Pos} {e o : Expr} {es : List Expr} {ta : TE} {t : TA} {E : St → XK}
theorem run_fnX {pins : List (Addr × Obj)} {σ : St} {H : Hp} {s : Shared} {Q : VK} {us : List Value} {vs : List V} (F : FnOk X.prog X.w X.K X.mg X.base (CXF X.prog X.w) k f fd ps sp) (hr : Room k X.A) (hb : Binds X.K fd ps []) (hx : PassesX X E)
    (I : Inv X pins σ H s) (r : Vals vs us) (h : sp vs H Q (E σ)) : wpAny (model X.prog X.w) X.A (call (.ref f) us) (EP X pins σ Q) X.xe s := by
  have hl : us.length = ps.length := by rw [← r.length]; exact F.len _ _ _ _ h
  have hb' := hb s us I.kIn (by rw [List.append_nil]; exact hl)
  rw [List.append_nil] at hb'
  refine wpAny_call (codeAny_mono (F.run X.A X.stack s H ⟨us, []⟩ us vs Q (E σ) hr I.env0 hb' r h) fun r s' hq => ?_)
  cases r with
  | error e => exact hx pins σ H s e s' I hq
  | ok fl =>
    cases fl with
    | ret u => exact I.after hq
    | next => exact False.elim hq
    | brk => exact False.elim hq
    | cont => exact False.elim hq
theorem pe_callX (D : DefX X.prog X.w X.K X.mg X.base k x ps sp) (hr : Room k X.A) (hx : PassesX X E) (ha : PA X (e :: es) t) (hg : Gl X x := by rfl) (hdb : (x == ("__debug__" : Str)) = false := by decide)
    (he : starEach (e :: es) X.env = (false, eval e X.env) :: starEach es X.env := by rfl) (hpl : (backTo pos (starEach es X.env)).any (·.1) = false := by rfl) : PE X (.Call (.Name x p) (e :: es) [] pos) (tCallX sp E t) := by
  obtain ⟨f, fd, F, hm, hk, hb⟩ := D
  intro pins s σ H Q I h
  refine wpAny_Call_Name_kw (ld_glob I hg hm ?_ hdb)
  refine PySem.W.callWith_K (h₀ := X.base) I.ok.mod.kin hk (thn (ha pos pins s σ H _ I h) fun us s1 ⟨vs, H1, I1, r, q⟩ => ⟨I1.kIn, ?_⟩) he hpl
  exact run_fnX F hr hb hx I1 r q
theorem pe_methX {pl : Sem Bool} (D : MetX X.prog X.w X.K X.mg X.base C k m ps sp) (c : Cls X.K C) (hr : Room k X.A) (hx : PassesX X E) (he : PE X o ta) (ha : PA X (e :: es) t)
    (hst : starEach (e :: es) X.env = (false, eval e X.env) :: starEach es X.env := by rfl) (hpl : (backTo pos (starEach es X.env)).any (·.1) = false := by rfl)
    (ht : eval (.Call (.Attribute o m apos) (e :: es) [] pos) X.env = (do
      let ov ← eval o X.env
      standAt apos.atName
      let (f, first) ← holding [ov] (getMethod ov m pl)
      callWith pos f first (backTo pos (starEach (e :: es) X.env)) (backToKw pos (keywordEach [] X.env))) := by rfl) :
    PE X (.Call (.Attribute o m apos) (e :: es) [] pos) (tMethX C m sp E ta t) := by
  obtain ⟨f, fd, F, hm, hb⟩ := D
  intro pins s σ H Q I h
  refine PySem.W.methodCall_KW (pl := pl) (thn (he pins s σ H _ I h) fun u s1 hh9 => ?_) ht
  obtain ⟨x, H1, I1, rx, a, dx, fs, ex, ea, l, q⟩ := hh9
  subst ex
  obtain rfl : u = Value.ref a := rx
  refine getmeth_ok I1 ea c hm l ?_
  refine PySem.W.callWith_K (first := [.ref a]) (h₀ := X.base) I.ok.mod.kin hm.kp (thn (ha pos pins s1 σ H1 _ I1 q) fun us s2 ⟨vs, H2, I2, r, q2⟩ => ⟨I2.kIn, ?_⟩) hst hpl
  exact run_fnX (us := .ref a :: us) (vs := .ref a :: vs) F hr hb hx I2 (.cons rfl r) q2
theorem pe_makeX (D : MakX X.prog X.w X.K X.mg X.base C k x ps sp) (hr : Room (k + 1) X.A) (hx : PassesX X E) (ha : PA X (e :: es) t) (hg : Gl X x := by rfl) (hdb : (x == ("__debug__" : Str)) = false := by decide)
    (he : starEach (e :: es) X.env = (false, eval e X.env) :: starEach es X.env := by rfl) (hpl : (backTo pos (starEach es X.env)).any (·.1) = false := by rfl) : PE X (.Call (.Name x p) (e :: es) [] pos) (tMakeX C sp E t) := by
  obtain ⟨f, fd, F, M, hm, hb⟩ := D
  intro pins s σ H Q I h
  refine wpAny_Call_Name_kw (ld_glob I hg hm ?_ hdb)
  refine PySem.W.callWith_K (h₀ := X.base) I.ok.mod.kin M.kp (thn (ha pos pins s σ H _ I h) fun us s1 ⟨vs, H1, I1, r, q⟩ => ⟨I1.kIn, ?_⟩) he hpl
  have hq := q (s1.heap.objs.size + 1) s1.heap.objs.size (I1.hok.fresh (Nat.le_succ _)) (I1.hok.fresh (Nat.le_refl _)) (Nat.ne_of_lt (Nat.lt_succ_self _))
  have I2 := Inv.made (C := C) I1
  have r2 : Vals (V.ref (s1.heap.objs.size + 1) :: vs) (Value.ref (s1.heap.objs.size + 1) :: us) := .cons rfl r
  have hl : (Value.ref (s1.heap.objs.size + 1) :: us).length = ps.length := by
    rw [← r2.length]
    exact F.len _ _ _ _ hq
  have hb' := hb _ (Value.ref (s1.heap.objs.size + 1) :: us) I2.kIn (by rw [List.append_nil]; exact hl)
  rw [List.append_nil] at hb'
  refine wpAny_call (make_map (f := f) I1.kIn M.makes M.init (beq_iff_eq.mp M.fn) (codeAny_mono (F.run _ X.stack _ _ ⟨Value.ref (s1.heap.objs.size + 1) :: us, []⟩ (Value.ref (s1.heap.objs.size + 1) :: us) _ _ (E σ) (hr.make C us [])
    (I2.env0.make C us []) hb' r2 hq) fun r s' hq' => ?_))
  cases r with
  | error e => exact hx pins σ _ _ e s' I2 hq'
  | ok fl =>
    cases fl with
    | ret u =>
      obtain ⟨v, H', I3, rv, ev, q3⟩ := I2.after hq'
      subst ev
      exact ⟨rv, ⟨V.ref (s1.heap.objs.size + 1), H', I3, rfl, q3⟩⟩
    | next => exact False.elim hq'
    | brk => exact False.elim hq'
    | cont => exact False.elim hq'
end
end L2

set_option maxHeartbeats 1000000

namespace L2
open PySem PySem.Spec PyProof.Rows


noncomputable abbrev Cx.tryx (X : Cx) (F : Value → Shared → Prop) (pn : List (Addr × Obj)) : Cx := { X with xe := F, pn := X.pn ++ pn }
noncomputable abbrev Cx.inexc (X : Cx) (e : Value) : Cx := { X with A := X.A.mark (some e), calm := false, xe := fun _ _ => False }
section
variable {X : Cx} {pins pn : List (Addr × Obj)} {σ : St} {H : Hp} {s : Shared} {F : Value → Shared → Prop} {e : Value}
theorem Cx.Ok.tryx (ok : X.Ok) : (X.tryx F pn).Ok :=
  ⟨ok.mod, ok.kind, ok.glob, ok.blt, ok.above, ok.inj, ok.has, ok.cab, ok.hd, ok.frames, ok.stk, ok.exf, ok.bs, ok.bsz, ok.noex, ok.exfs, ok.funs, ok.frf⟩
theorem Cx.Ok.untryx (ok : (X.tryx F pn).Ok) : X.Ok :=
  ⟨ok.mod, ok.kind, ok.glob, ok.blt, ok.above, ok.inj, ok.has, ok.cab, ok.hd, ok.frames, ok.stk, ok.exf, ok.bs, ok.bsz, ok.noex, ok.exfs, ok.funs, ok.frf⟩
theorem Cx.Ok.inexc (ok : X.Ok) : (X.inexc e).Ok :=
  ⟨ok.mod, ok.kind, ok.glob, ok.blt, ok.above, ok.inj, ok.has, ok.cab, (fun z => nomatch z), ok.frames, ok.stk, ok.exf, ok.bs, ok.bsz, ok.noex, ok.exfs, ok.funs, ok.frf⟩
theorem Inv.tryx (I : Inv X pn σ H s) : Inv (X.tryx F pn) [] σ H s :=
  ⟨I.ok.tryx, I.os, I.bare, I.base, I.loc, I.cell, I.free, I.freeC, fun p hp => I.pin p (by have hp' : p ∈ (X.pn ++ pn) ++ [] := hp; rwa [List.append_nil] at hp'), I.hok, I.len⟩
theorem Inv.untryx (I : Inv (X.tryx F pn) pins σ H s) : Inv X pn σ H s :=
  ⟨I.ok.untryx, I.os, I.bare, I.base, I.loc, I.cell, I.free, I.freeC, fun p hp => I.pin p (List.mem_append_left _ hp), I.hok, I.len⟩
theorem Inv.inexc (I : Inv X pins σ H s) : Inv (X.inexc e) pins σ H s :=
  ⟨I.ok.inexc, I.os, I.bare, I.base, I.loc, I.cell, I.free, I.freeC, I.pin, I.hok, I.len⟩
theorem Inv.uninexc (ok : X.Ok) (I : Inv (X.inexc e) pins σ H s) : Inv X pins σ H s :=
  ⟨ok, I.os, I.bare, I.base, I.loc, I.cell, I.free, I.freeC, I.pin, I.hok, I.len⟩


theorem unname_ok2 {M : Model} {A : Around} {E : Value → Shared → Prop} {i : Nat} {x : Str} {pos : Pos} {Q : Unit → Shared → Prop} (I : Inv X pins σ H s) (hN : X.N.Nodup) (hi : X.N[i]? = some x) (hk : X.env.kindOf x = some .local)
    (h : ∀ s', Inv X pins (σ.set i none) H s' → Heap.SameBut X.env.locals s.heap s'.heap → Q () s') : wpAny M A (do bindName X.env x .none; unbindBehindTheSuite X.env x pos) Q E s := by
  obtain ⟨m, hn, hl⟩ := id I.loc
  have hcls : (X.env.scope.kind == .class || (X.env.scope.kind == .module && X.env.locals != X.env.globals)) = false := by rw [I.ok.kind]; rfl
  obtain ⟨oL, _, _, hoL, _⟩ := id hn
  refine wpAny_nameGoes_keeps hk hn hcls fun h' v hn' hs => h _ ?_ hs
  have far : ∀ b o, X.s₀.heap.get? b = some o → b ≠ X.env.locals := fun b o e => Nat.ne_of_lt (Nat.lt_of_lt_of_le (Heap.lt_size e) I.ok.above)
  refine ⟨I.ok, I.os, I.bare, ⟨fun b o e n hb hx => (hs.2 b (far b o e)).trans (I.base.keep b o e n hb hx), fun b o e n hb hx => ?_, I.base.free, fun b o e hx => ?_, I.base.tups, I.base.frzs, I.base.tbls⟩, ⟨_, hn', fun j y v' e1 e2 e3 => ?_⟩, fun y c e => ?_, I.free, I.freeC, fun p hp => ?_, fun b ob e => ?_, by simpa using I.len⟩
  · obtain ⟨sl, e1⟩ := I.base.slot b o e n hb hx
    exact ⟨sl, (hs.2 b (far b o e)).trans e1⟩
  · obtain ⟨o', e1⟩ := I.base.there b o e hx
    exact ⟨o', (hs.2 b (far b o e)).trans e1⟩
  · have hj : j ≠ i := fun z => by
      subst z
      rw [List.getElem?_set] at e2
      split at e2
      · split at e2 <;> cases e2
      · next q => exact q rfl
    rw [List.getElem?_set_ne (Ne.symm hj)] at e2
    obtain ⟨u', r', q⟩ := hl j y v' e1 e2 e3
    refine ⟨u', r', ?_⟩
    rcases q with ⟨k, e⟩ | ⟨k, c, e, z⟩
    · refine .inl ⟨k, ?_⟩
      have : y ≠ x := fun e => hj (nodup_ix hN e1 (e ▸ hi))
      simp [this, e]
    · exact .inr ⟨k, c, e, z.sameBut hs (I.cne y c e)⟩
  · obtain ⟨w', z⟩ := I.cell y c e
    exact ⟨w', z.sameBut hs (I.cne y c e)⟩
  · obtain ⟨e, n, ne, nf, d⟩ := I.pin p hp
    exact ⟨(hs.2 p.1 ne).trans e, n, ne, nf, d⟩
  · refine (I.hok b ob e).stay (fun c w' hc q => (hs.2 c ?_).trans q) (fun _ q => q) fun _ _ q => q
    intro z
    have hf : H c = none := z ▸ I.free
    rcases hc with z2 | hc
    · rw [← z2, hf] at e; cases e
    · rw [hf] at hc; cases hc
theorem unname_ok {M : Model} {A : Around} {E : Value → Shared → Prop} {i : Nat} {x : Str} {pos : Pos} {Q : Unit → Shared → Prop} (I : Inv X pins σ H s) (hN : X.N.Nodup) (hi : X.N[i]? = some x) (hk : X.env.kindOf x = some .local)
    (h : ∀ s', Inv X pins (σ.set i none) H s' → Q () s') : wpAny M A (do bindName X.env x .none; unbindBehindTheSuite X.env x pos) Q E s := unname_ok2 I hN hi hk fun s' I' _ => h s' I'
end


noncomputable abbrev excO (a C : Addr) : HO := .ext (ExcAt a C)
theorem excO_ok {P : Program} {w : World} {H : Hp} {h : Heap} {a C : Addr} (x : ExcAt a C h) : ObjOk P w H h a (excO a C) := by
  obtain ⟨o, e, c⟩ := id x
  exact ⟨x, ⟨o, e⟩, fun h1 h2 ⟨o1, e1, c1⟩ k => ⟨o1, k o1 e1, c1⟩⟩

section
variable {X : Cx} {pins : List (Addr × Obj)} {σ : St} {H H' : Hp} {s s' : Shared} {a C : Addr} {B : Heap} {a0 : Value} {d : Option Addr}

theorem Inv.caught (I : Inv X pins σ H s) (F : Fly X.prog X.w X.stack H s a C B a0 d H' s') : Inv X pins σ (upd H' a (excO a C)) s' := by
  have hna : ∀ b u, s.heap.get? b = some u → b ≠ a := fun b u e z => by
    rw [z, F.new] at e
    cases e
  have fr := F.free
  refine I.call' (ch := []) F.os ⟨F.un.keep, F.un.slot, fun b o e n hx => ?_, F.un.there, fun b xs e => ?_, fun b o u e => ?_, fun b ps e => ?_⟩ (fun b o e => ?_) F.bare fun b z => absurd z (by simp)
  · rw [upd_ne (hna b o e)]
    exact F.un.free b o e n hx
  · have := F.un.tups b xs e
    rw [upd_ne (ne_of_none this fr)]
    exact this
  · have := F.un.frzs b o u e
    rw [upd_ne (ne_of_none this fr)]
    exact this
  · obtain ⟨more, this⟩ := F.un.tbls b ps e
    exact ⟨more, by rw [upd_ne (ne_of_none this fr)]; exact this⟩
  · by_cases hb : b = a
    · subst hb
      rw [upd_same] at e
      cases e
      exact excO_ok F.fly.there
    · rw [upd_ne hb] at e
      exact (F.hok b o e).stay (fun _ _ _ q => q) (fun c q => by rw [upd_ne (ne_of_none q fr)]; exact q) fun c xs q => by rw [upd_ne (ne_of_none q fr)]; exact q
end


noncomputable def tTry (K : PySem.W.Frag) (D : Addr) (i : Nat) (E : St → XK) (t ts : TS) : TS := fun Dn σ H => t Dn σ H ∧ ∀ σ' c d H', σ'.length = σ.length → E σ' c d H' → ∃ C, c = .ref C ∧ PySem.W.mroIn K C (.ref D) = some true ∧
  ∀ a, H' a = none → ts { nx := fun σ2 H2 => Dn.nx (σ2.set i none) H2, rt := Dn.rt, bk := fun σ2 H2 => Dn.bk (σ2.set i none) H2, ct := fun σ2 H2 => Dn.ct (σ2.set i none) H2 } (σ'.set i (some (.ref a))) (upd H' a (excO a C))
section
variable {X : Cx} {body suite : List Stmt} {b₀ : Stmt} {x n : Str} {D : Addr} {i : Nat} {t ts : TS} {E : St → XK} {np hp pos : Pos}
theorem ps_try (yD : XCls X.K D) (hm : X.mg x = some (.ref D)) (hst : X.stack = X.env :: X.outer) (hf : X.env.frame = some X.env.locals)
    (hb : ∀ (F : Value → Shared → Prop) (pn : List (Addr × Obj)), PassesX (X.tryx F pn) E → PSs (X.tryx F pn) body t) (hs : ∀ e, PSs (X.inexc e) (b₀ :: suite) ts)
    (hN : X.N.Nodup) (hi : X.N[i]? = some n) (hk : X.env.kindOf n = some .local) (hg : Gl X x := by rfl) (hdb : (x == ("__debug__" : Str)) = false := by decide) :
    PS X (.Try body [.ExceptHandler (some (.Name x np)) (some n) (b₀ :: suite) hp] [] [] pos) (tTry X.K D i E t ts) := by
  intro pins s σ H Dn I h
  obtain ⟨h1, h2⟩ := h
  refine wpAny_Try_except ?_
  refine wpAny_mono (hb _ pins ?_ [] s σ H Dn I.tryx h1) (fun f s1 q => ?_) fun e s1 q => q
  · -- an exception of the body
    rintro pins' σ' H1 s1 e s' I1' ⟨a, C, B, a0, d, H', rfl, F, q⟩
    have I1 : Inv X pins σ' H1 s1 := I1'.untryx
    have F1 : Fly X.prog X.w X.stack H1 s1 a C B a0 d H' s' := F
    obtain ⟨C', ec, hmro, k⟩ := h2 σ' _ _ _ (I1.len.trans I.len.symm) q
    cases ec
    have hfr := F1.free
    show wpAny _ X.A (noteFrame (.ref a) X.env) _ _ s'
    refine noteC_next (L := X.env.locals) (hst ▸ I.ok.frames) hf (hst ▸ F1.fly) fun h4 held4 sm4 => ?_
    refine flightC (s := { s' with heap := h4 }) (fr := none) held4 fun h5 fly5 sm5 => ?_
    have F5 := F1.on I1.frames (hst ▸ fly5) (sm4.trans sm5)
    have J5 := I1.caught F5
    refine wpAny_handleBy_cons (codeAny_handlers_test (ld_glob (X := X.inexc (.ref a)) (J5.inexc (e := .ref a)) hg hm ?_ hdb)) (by intro q; cases q)
    refine exc_match J5.kIn yD F5.fly.there hmro ?_
    show codeAny _ _ (.handlers (.ref a) [.ExceptHandler none (some n) (b₀ :: suite) hp] X.env) _ _
    refine codeAny_handlers_suite_as (flightC (fr := none) F5.fly fun h6 fly6 sm6 => ?_)
    have F6 := F5.on I1.frames fly6 sm6
    have J6 := I1.caught F6
    refine store_ok J6 hN hi (Or.inl hk) (v := .ref a) rfl (fun s7 J7 => ?_) (Or.inr hk)
    refine wpAny_mono (hs (.ref a) pins s7 _ _ _ (J7.inexc (e := .ref a)) (k a hfr)) (fun f s8 q8 => ?_) fun _ _ z => z.elim
    cases f with
    | next =>
      obtain ⟨σ2, H2, I2, z⟩ := q8
      exact unname_ok (I2.uninexc I.ok) hN hi hk fun s9 I9 => ⟨_, H2, I9, z⟩
    | ret v =>
      obtain ⟨v', σ2, H2, I2, r, z⟩ := q8
      exact unname_ok (I2.uninexc I.ok) hN hi hk fun s9 I9 => ⟨v', _, H2, I9, r, z⟩
    | brk =>
      obtain ⟨σ2, H2, I2, z⟩ := q8
      exact unname_ok (I2.uninexc I.ok) hN hi hk fun s9 I9 => ⟨_, H2, I9, z⟩
    | cont =>
      obtain ⟨σ2, H2, I2, z⟩ := q8
      exact unname_ok (I2.uninexc I.ok) hN hi hk fun s9 I9 => ⟨_, H2, I9, z⟩
  · cases f with
    | next =>
      obtain ⟨σ', H', I', z⟩ := q
      exact wpAny_execs_nil ⟨σ', H', I'.untryx, z⟩
    | ret v =>
      obtain ⟨v', σ', H', I', r, z⟩ := q
      exact ⟨v', σ', H', I'.untryx, r, z⟩
    | brk =>
      obtain ⟨σ', H', I', z⟩ := q
      exact ⟨σ', H', I'.untryx, z⟩
    | cont =>
      obtain ⟨σ', H', I', z⟩ := q
      exact ⟨σ', H', I'.untryx, z⟩
end
end L2

set_option maxHeartbeats 1000000

namespace L2
open PySem PySem.Spec PyProof.Rows


structure RoomU (k : Nat) (A : Around) : Prop where
  dp : A.depth + 3 * k + 5 < recursionLimit
  un : A.units + 16 * k + 200 < cLine
theorem Room.u {k : Nat} {A : Around} (r : Room k A) : RoomU k A := ⟨r.dp, r.un⟩
theorem RoomU.mark {k : Nat} {A : Around} (r : RoomU k A) (e : Option Value) : RoomU k (A.mark e) := ⟨r.dp, r.un⟩
theorem RoomU.deeper {k : Nat} {A : Around} (r : RoomU (k + 1) A) (env : Env) : RoomU k (A.deeper env) :=
  ⟨by have := r.dp; show A.depth + 1 + 3 * k + 5 < _; omega, by have := r.un; show A.units + 3 + 16 * k + 200 < _; omega⟩
theorem RoomU.depth {k : Nat} {A : Around} (r : RoomU k A) : A.depth < recursionLimit := by have := r.dp; omega
theorem RoomU.units0 {k : Nat} {A : Around} (r : RoomU k A) : A.units < cLine := by have := r.un; omega
structure FnU (P : Program) (w : World) (K : PySem.W.Frag) (mg : Str → Option Value) (base : Heap) (k : Nat) (f : Addr) (fd : FuncData) (ps : List Str) (sp : Sp) : Prop where
  len : ∀ vs H Q E, sp vs H Q E → vs.length = ps.length
  run : ∀ (A : Around) (outer : List Env) (s : Shared) (H : Hp) (args : Args) (us : List Value) (vs : List V) (Q : VK), RoomU k A → Env0 P w K mg base A outer s H → BindsTo s fd args (ps.zip us) → Vals vs us → sp vs H Q E0 →
    codeAny (model P w) A (.call (.ref f) args) (CR CX0 outer P w H s Q E0) s
section
variable {X : Cx} {k : Nat} {ps : List Str} {sp : Sp} {x : Str} {p pos : Pos} {e : Expr} {es : List Expr} {t : TA}
end


noncomputable def clsV : V → Value
  | .ref D => .ref D
  | .ty n => .type n
  | _ => .none
theorem call_isiX {X : Cx} : CallR X (.builtin "isinstance") (fun xs H Q => ∃ a C c b, xs = [.ref a, c] ∧ H a = some (excO a C) ∧ XCls X.K C ∧ clsV c ≠ .none ∧ PySem.W.kitOne X.K (.ref C) (clsV c) = some b ∧ Q (.bl b) H) := by
  intro pins s σ H xs us Q I r h
  obtain ⟨a, C, c, b, rfl, ha, xc, hc, e, q⟩ := h
  obtain ⟨u, v, rfl, ru, rv⟩ := vals2 r
  cases ru
  have ev : v = clsV c := by
    cases c with
    | ref D => exact rv
    | ty n => exact rv
    | _ => exact absurd rfl hc
  subst ev
  obtain ⟨x, _, _⟩ := (show ObjOk X.prog X.w H s.heap a (excO a C) from I.hok a _ ha)
  exact isi_exc xc I.kIn x e fun tk => ⟨.bl b, H, I.tok tk, rfl, q⟩

theorem kit_own {K : PySem.W.Frag} {C D : Addr} {b : Bool} (y : XCls K D) (ty : PySem.W.typeIn K (.ref D) = some (.type "type")) (e : PySem.W.mroIn K C (.ref D) = some b) (hs : C = D → b = true) : PySem.W.kitOne K (.ref C) (.ref D) = some b := by
  unfold PySem.W.kitOne
  by_cases h : C = D
  · rw [if_pos (by rw [h]; exact beq_self_eq_true _), hs h]
  · rw [if_neg (fun z => h (Value.ref.inj (beq_iff_eq.mp z)))]
    unfold PySem.W.kitCls
    obtain ⟨cd, hcd⟩ := y.isCls
    have : ((PySem.W.clsIn K D).isSome && PySem.W.typeIn K (.ref D) == some (.type "type")) = true := by rw [hcd, ty]; rfl
    simp only [this, if_true]
    exact e
end L2

set_option maxHeartbeats 1000000

namespace L2
open PySem PySem.Spec PyProof.Rows
theorem RoomU.mono {j k : Nat} {A : Around} (r : RoomU k A) (h : j ≤ k) : RoomU j A := ⟨by have := r.dp; omega, by have := r.un; omega⟩
noncomputable def rIsi (K : PySem.W.Frag) : List V → Hp → VK → Prop := fun xs H Q => ∃ a C c b, xs = [.ref a, c] ∧ H a = some (excO a C) ∧ XCls K C ∧ clsV c ≠ .none ∧ PySem.W.kitOne K (.ref C) (clsV c) = some b ∧ Q (.bl b) H
theorem call_isiK {X : Cx} (K : PySem.W.Frag) (hK : X.K = K) : CallR X (.builtin "isinstance") (rIsi K) := by
  subst hK
  exact call_isiX
end L2
namespace Hw
open PySem L2 HwSort
inductive Ex where
  | HearError | NoBook | NoTeller | Alone | First | NoHearing | NoFamily | BadText
  deriving DecidableEq
noncomputable abbrev Ex.name : Ex → Str
  | .HearError => "HearError"
  | .NoBook => "NoBook"
  | .NoTeller => "NoTeller"
  | .Alone => "Alone"
  | .First => "First"
  | .NoHearing => "NoHearing"
  | .NoFamily => "NoFamily"
  | .BadText => "BadText"
noncomputable def isa (x y : Ex) : Bool := decide (x = y) || decide (y = .HearError)
structure XName (K : PySem.W.Frag) (mg : Str → Option Value) (x : Str) (C : Addr) : Prop where
  xc : XCls K C
  gl : mg x = some (.ref C)
  ty : PySem.W.typeIn K (.ref C) = some (.type "type")
  ve : PySem.W.mroIn K C (.type "ValueError") = some true
structure Exc (K : PySem.W.Frag) (mg : Str → Option Value) (has : List Ex) (xa : Ex → Addr) : Prop where
  nm : ∀ x ∈ has, XName K mg x.name (xa x)
  mro : ∀ x ∈ has, ∀ y ∈ has, PySem.W.mroIn K (xa x) (.ref (xa y)) = some (isa x y)
section
variable {K : PySem.W.Frag} {mg : Str → Option Value} {has : List Ex} {xa : Ex → Addr}
theorem Exc.kit (E : Exc K mg has xa) {x y : Ex} (hx : x ∈ has) (hy : y ∈ has) : PySem.W.kitOne K (.ref (xa x)) (.ref (xa y)) = some (isa x y) := by
  refine kit_own (E.nm y hy).xc (E.nm y hy).ty (E.mro x hx y hy) fun e => ?_
  have h1 := E.mro x hx y hy
  have h2 := E.mro y hy y hy
  rw [e, h2] at h1
  have h3 := (Option.some.inj h1).symm
  rw [h3]
  simp [isa]
end

noncomputable def refuses (many one other : Int) : Option Ex :=
  if ¬ ((0 ≤ one ∧ one < many) ∧ (0 ≤ other ∧ other < many)) then some .NoTeller
  else if one = other then some .Alone
  else if other = 0 then some .First
  else none
theorem refuses_ok {many one other : Int} (h : Ok2 many one other) : refuses many one other = none := by
  obtain ⟨h1, h2, h3, h4, h5, h6⟩ := h
  unfold refuses
  rw [if_neg (by simp [h1, h2, h3, h4]), if_neg h5, if_neg h6]
theorem ok_refuses {many one other : Int} (h : refuses many one other = none) : Ok2 many one other := by
  unfold refuses at h
  split at h
  · cases h
  · next h1 =>
    split at h
    · cases h
    · next h2 =>
      split at h
      · cases h
      · next h3 =>
        have h1' := Classical.not_not.mp h1
        exact ⟨h1'.1.1, h1'.1.2, h1'.2.1, h1'.2.2, h2, h3⟩

inductive sp_checkX (xa : Ex → Addr) (vs : List V) (H : Hp) (Q : VK) (E : XK) : Prop
  | mk (many : _) (one : _) (other : _) (h09 : vs = [.int many, .int one, .int other]) (h19 : (refuses many one other = none → Q .non H)) (h29 : ∀ x, refuses many one other = some x → E (.ref (xa x)) none H) : sp_checkX xa vs H Q E
inductive sp_initX (xa : Ex → Addr) (C : Addr) (vs : List V) (H : Hp) (Q : VK) (E : XK) : Prop
  | mk (p dx : Addr) (many : Int) (h09 : vs = [.ref p, .int many]) (h19 : H p = some (.ins C dx [])) (h29 : (1 ≤ many ∧ many ≤ 12 → ∀ (d : Addr) (H' : Hp), H d = none → BookAt C H' p d many [] → (∀ b o, H b = some o → b ≠ p → H' b = some o) → Q .non H')) (h39 : (¬ (1 ≤ many ∧ many ≤ 12) → E (.ref (xa .NoBook)) none H)) : sp_initX xa C vs H Q E
inductive sp_letX (xa : Ex → Addr) (C : Addr) (vs : List V) (H : Hp) (Q : VK) (E : XK) : Prop
  | mk (p d : Addr) (many : Int) (cs : Cs) (one other cost : Int) (h09 : vs = [.ref p, .int one, .int other, .int cost]) (h19 : BookAt C H p d many cs) (h29 : cs.length < 1000) (h39 : (refuses many one other = none → ∀ H', BookAt C H' p d many (putC cs (one, other) cost) → KeepBut d H H' → Q (.int (putC cs (one, other) cost).length) H')) (h49 : ∀ x, refuses many one other = some x → E (.ref (xa x)) none H) : sp_letX xa C vs H Q E
theorem calm_init {xa : Ex → Addr} {C : Addr} : ∀ vs H Q E, sp_init C vs H Q E → sp_initX xa C vs H Q E0 := by
  rintro vs H Q E ⟨p, dx, many, rfl, hp, h1, h2, k⟩
  exact ⟨p, dx, many, rfl, hp, fun _ => k, fun h => h ⟨h1, h2⟩⟩
theorem calm_let {xa : Ex → Addr} {C : Addr} : ∀ vs H Q E, sp_let C vs H Q E → sp_letX xa C vs H Q E0 := by
  rintro vs H Q E ⟨p, d, many, cs, one, other, cost, rfl, B, ok, hl, k⟩
  refine ⟨p, d, many, cs, one, other, cost, rfl, B, hl, fun _ => k, fun x e => ?_⟩
  rw [refuses_ok ok] at e
  cases e
end Hw

set_option maxHeartbeats 1000000

namespace L2
open PySem PySem.Spec PyProof.Rows
end L2
namespace Hw
open PySem L2 HwSort
structure Txt (K : PySem.W.Frag) (mg : Str → Option Value) (C : Addr) : Prop where
  cl : Cls K C
  aT : NoAttr K C "tellers"
  aC : NoAttr K C "costs"
  g_Book : mg "Book" = some (.ref C)
  g_MOST_TELLERS : ∃ t, mg "MOST_TELLERS" = some (.int 12 t)
  n_len : mg "len" = none
  n_range : mg "range" = none
  n_max : mg "max" = none
  n_min : mg "min" = none
  n_isinstance : mg "isinstance" = none
  n_all : mg "all" = none
  n_any : mg "any" = none
  n_sorted : mg "sorted" = none
  n_sum : mg "sum" = none
  n_list : mg "list" = none
  n_int : mg "int" = none
  n_bool : mg "bool" = none
  n_tuple : mg "tuple" = none
  n_str : mg "str" = none
  n_dict : mg "dict" = none
  n_ValueError : mg "ValueError" = none
end Hw

set_option maxHeartbeats 1000000

namespace L2
open PySem PySem.Spec PyProof.Rows
noncomputable abbrev TJ := Str → St → Hp → VK → Prop
noncomputable def PJ (X : Cx) (es : List Expr) (t : TJ) : Prop :=
  ∀ (out : Str) (pins : List (Addr × Obj)) (s : Shared) (σ : St) (H : Hp) (Q : VK), Inv X pins σ H s → t out σ H Q → wpAny (model X.prog X.w) X.A (joinParts out (evalEach es X.env)) (EP X pins σ Q) X.xe s
noncomputable def tJNil : TJ := fun out _ H Q => out.length ≤ sizeLine ∧ Q (.str out) H
noncomputable def tJCons (te : TE) (t : TJ) : TJ := fun out σ H Q => te σ H fun x H1 => ∃ y, x = .str y ∧ (out ++ y).length ≤ sizeLine ∧ t (out ++ y) σ H1 Q
noncomputable def tJoin (t : TJ) : TE := fun σ H Q => t Str.empty σ H Q
noncomputable def tFmtI (te : TE) : TE := fun σ H Q => te σ H fun x H1 => ∃ i : Int, x = .int i ∧ i.natAbs.log2 < 1920 ∧ Q (.str (toString i)) H1
noncomputable def tFmtS (te : TE) : TE := fun σ H Q => te σ H fun x H1 => ∃ y, x = .str y ∧ y.length ≤ sizeLine ∧ Q (.str y) H1
section
variable {X : Cx} {e v1 v2 : Expr} {es rest : List Expr} {te : TE} {t : TJ} {pos : Pos}
theorem pj_nil : PJ X [] tJNil := fun out pins s σ H Q I h => joinParts_nil ⟨.str out, H, I.tok _, ⟨_, rfl⟩, h.2⟩ h.1
theorem pj_cons (he : PE X e te) (hr : PJ X es t) (hs : evalEach (e :: es) X.env = eval e X.env :: evalEach es X.env := by rfl) : PJ X (e :: es) (tJCons te t) := by
  intro out pins s σ H Q I h
  rw [hs]
  refine joinParts_cons (thn (he pins s σ H _ I h) fun u s1 hh9 => ?_)
  obtain ⟨x, H1, I1, r1, y, ey, z, q⟩ := hh9
  subst ey
  obtain ⟨tk, rfl⟩ := r1
  exact ⟨z, hr (out ++ y) pins s1 σ H1 Q I1 q⟩
theorem pe_join (h : PJ X (v1 :: v2 :: rest) t) : PE X (.JoinedStr (v1 :: v2 :: rest) pos) (tJoin t) := fun pins s σ H Q I hq => JoinedStr_many (h Str.empty pins s σ H Q I hq)
theorem pe_fmtI (he : PE X e te) : PE X (.FormattedValue e (-1) none pos) (tFmtI te) := by
  intro pins s σ H Q I h
  refine FormattedValue_plain (thn (he pins s σ H _ I h) fun u s1 hh9 => ?_)
  obtain ⟨x, H1, I1, r1, i, ei, z, q⟩ := hh9
  subst ei
  obtain ⟨tk, rfl⟩ := r1
  exact formatField_int_small z ⟨.str _, H1, I1.tok _, ⟨_, rfl⟩, q⟩
end
end L2

set_option maxHeartbeats 1000000

namespace Hw
open PySem L2 HwSort
noncomputable def cellF (ns : List Int) (k : Int) : Int := if k < (ns.length : Int) then ns.getD k.toNat 0 else 0
noncomputable def mixF (cell k : Int) : Int :=
  let s1 := (cell * 48271 + 104729 * k + 11) % 2147483647
  let s2 := (s1 * s1 + 7919 * k + 5) % 2147483629
  s2 * s2 % 2147483587
theorem mixF_in (cell k : Int) : 0 ≤ mixF cell k ∧ mixF cell k < 2147483587 := ⟨Int.emod_nonneg _ (by decide), Int.emod_lt_of_pos _ (by decide)⟩

inductive sp_cell (K : PySem.W.Frag) (vs : List V) (H : Hp) (Q : VK) (E : XK) : Prop
  | mk (a : _) (ns : _) (k : _) (h09 : vs = [.ref a, .int k]) (h19 : SqL K H a (ns.map V.int)) (h29 : ns.length ≤ 63) (h39 : 0 ≤ k) (h49 : Q (.int (cellF ns k)) H) : sp_cell K vs H Q E
inductive sp_mix (vs : List V) (H : Hp) (Q : VK) (E : XK) : Prop
  | mk (cell : _) (k : _) (h09 : vs = [.int cell, .int k]) (h19 : 0 ≤ k) (h29 : k ≤ 1000) (h39 : Q (.int (mixF cell k)) H) : sp_mix vs H Q E
structure Good (many : Int) (cs : Cs) : Prop where
  nd : (keysC cs).Nodup
  ok : ∀ k ∈ keysC cs, Ok2 many k.1 k.2
inductive spLaw (K : PySem.W.Frag) (vs : List V) (H : Hp) (Q : VK) (E : XK) : Prop
  | mk (a : Addr) (ns : List Int) (h09 : vs = [.ref a]) (h19 : SqL K H a (ns.map V.int)) (h29 : ns.length ≤ 63) (h39 : ∀ H', Q (.bl true) H') : spLaw K vs H Q E
theorem meth_book {C : Addr} {H : Hp} {p d : Addr} {many : Int} {cs : Cs} {m : Str} {A : Prop} (B : BookAt C H p d many cs) (h1 : ¬ m = "costs") (h2 : ¬ m = "tellers") (k : A) :
    ∃ a dx fs, V.ref p = .ref a ∧ H a = some (.ins C dx fs) ∧ fs.lookup m = none ∧ A := by
  obtain ⟨dx, e⟩ := B.ob
  exact ⟨p, dx, _, rfl, e, flds_no _ _ h1 h2, k⟩
end Hw

set_option maxHeartbeats 1000000

namespace L2
open PySem PySem.Spec PyProof.Rows
section
variable {K : PySem.W.Frag} {σ : St} {H : Hp} {Q : VK} {R : Bool → Hp → Prop} {S : List V → Hp → Prop} {nx : St → Hp → Prop} {rt : VK} {bk ct : St → Hp → Prop} {D : Ends}
theorem w_seq {t u : TS} (h : t ⟨u ⟨nx, rt, bk, ct⟩, rt, bk, ct⟩ σ H) : tSeq t u ⟨nx, rt, bk, ct⟩ σ H := h
theorem w_next (h : nx σ H) : tNext ⟨nx, rt, bk, ct⟩ σ H := h
theorem w_break (h : bk σ H) : tBreak ⟨nx, rt, bk, ct⟩ σ H := h
theorem w_cont (h : ct σ H) : tCont ⟨nx, rt, bk, ct⟩ σ H := h
theorem w_drop {te : TE} (h : te σ H fun _ H1 => nx σ H1) : tDrop te ⟨nx, rt, bk, ct⟩ σ H := h
theorem w_ret {te : TE} (h : te σ H rt) : tRet te ⟨nx, rt, bk, ct⟩ σ H := h
theorem w_retN (h : rt .non H) : tRetN ⟨nx, rt, bk, ct⟩ σ H := h
theorem w_ifS {c : TT} {t u : TS} (h : c σ H fun b H1 => if b = true then t D σ H1 else u D σ H1) : tIfS c t u D σ H := h
theorem w_asg {te : TE} {g : TG} (h : te σ H fun x H1 => g x σ H1 nx) : tAsg te g ⟨nx, rt, bk, ct⟩ σ H := h
theorem w_gname {i : Nat} {v : V} {k : St → Hp → Prop} (h : k (σ.set i (some v)) H) : gName i v σ H k := h
theorem w_var {i : Nat} {v : V} (e : σ[i]? = some (some v)) (h : Q v H) : tVar i σ H Q := ⟨v, e, h⟩
theorem w_c {v : V} (h : Q v H) : tC v σ H Q := h
theorem w_B {t : TE} (h : t σ H fun x H1 => ∃ c, x = .bl c ∧ R c H1) : tB t σ H R := h
theorem w_test {t : TE} (h : t σ H fun x H1 => ∃ c, x = .bl c ∧ R c H1) : tTest t σ H R := h
theorem w_and {t u : TT} (h : t σ H fun c H1 => if c = true then u σ H1 R else R false H1) : tAnd t u σ H R := h
theorem w_or {t u : TT} (h : t σ H fun c H1 => if c = true then R true H1 else u σ H1 R) : tOr t u σ H R := h
theorem w_not {t : TT} (h : t σ H fun c H1 => R (!c) H1) : tNot t σ H R := h
theorem w_andV {ta tb : TE} (h : ta σ H fun x H1 => ∃ c, x = .bl c ∧ if c = true then tb σ H1 Q else Q (.bl false) H1) : tAndV ta tb σ H Q := h
theorem w_orV {ta tb : TE} (h : ta σ H fun x H1 => ∃ c, x = .bl c ∧ if c = true then Q (.bl true) H1 else tb σ H1 Q) : tOrV ta tb σ H Q := h
theorem w_notV {ta : TE} (h : ta σ H fun x H1 => ∃ c, x = .bl c ∧ Q (.bl (!c)) H1) : tNotV ta σ H Q := h
theorem w_if {t : TT} {ta tb : TE} (h : t σ H fun c H1 => if c = true then ta σ H1 Q else tb σ H1 Q) : tIf t ta tb σ H Q := h
theorem w_op {r : R2} {ta tb : TE} (h : ta σ H fun x H1 => tb σ H1 fun y H2 => r x y H2 Q) : tOp r ta tb σ H Q := h
theorem w_un {r : V → Hp → VK → Prop} {ta : TE} (h : ta σ H fun x H1 => r x H1 Q) : tUn r ta σ H Q := h
theorem w_chain {r r' : R2} {ta tb tc : TE} (h : ta σ H fun x H1 => tb σ H1 fun y H2 => r x y H2 fun z H3 => ∃ k, z = .bl k ∧ (if k = true then tc σ H3 fun w' H4 => r' y w' H4 Q else Q (.bl false) H3)) : tChain r r' ta tb tc σ H Q := h
theorem w_nil (h : S [] H) : tNil σ H S := h
theorem w_cons {ta : TE} {tr : TA} (h : ta σ H fun x H1 => tr σ H1 fun xs H2 => S (x :: xs) H2) : tCons ta tr σ H S := h
theorem w_tup {t : TA} (h : t σ H fun xs H1 => xs.length ≤ sizeLine ∧ ∀ p, H1 p = none → Q (.ref p) (upd H1 p (.tup xs))) : tTup t σ H Q := h
theorem w_lst {t : TA} (h : t σ H fun xs H1 => xs.length ≤ sizeLine ∧ ∀ p, H1 p = none → Q (.ref p) (upd H1 p (.lst xs))) : tLst t σ H Q := h
theorem w_call {sp : Sp} {E : XK} {t : TA} (h : t σ H fun vs H1 => sp (vs ++ []) H1 Q E) : tCall sp [] E t σ H Q := h
theorem w_callX {sp : Sp} {E : St → XK} {t : TA} (h : t σ H fun vs H1 => sp vs H1 Q (E σ)) : tCallX sp E t σ H Q := h
theorem w_meth {C : Addr} {m : Str} {sp : Sp} {E : XK} {ta : TE} {t : TA} (h : ta σ H fun x H1 => ∃ a dx fs, x = .ref a ∧ H1 a = some (.ins C dx fs) ∧ fs.lookup m = none ∧ t σ H1 fun vs H2 => sp (x :: (vs ++ [])) H2 Q E) : tMeth C m sp [] E ta t σ H Q := h
theorem w_methX {C : Addr} {m : Str} {sp : Sp} {E : St → XK} {ta : TE} {t : TA} (h : ta σ H fun x H1 => ∃ a dx fs, x = .ref a ∧ H1 a = some (.ins C dx fs) ∧ fs.lookup m = none ∧ t σ H1 fun vs H2 => sp (x :: vs) H2 Q (E σ)) : tMethX C m sp E ta t σ H Q := h
theorem w_make {C : Addr} {sp : Sp} {E : XK} {t : TA} (h : t σ H fun vs H1 => ∀ x dx, H1 x = none → H1 dx = none → dx ≠ x → sp (.ref x :: (vs ++ [])) (upd (upd H1 dx (.own x)) x (.ins C dx [])) (fun v H2 => v = .non ∧ Q (.ref x) H2) E) : tMake C sp [] E t σ H Q := h
theorem w_makeX {C : Addr} {sp : Sp} {E : St → XK} {t : TA} (h : t σ H fun vs H1 => ∀ x dx, H1 x = none → H1 dx = none → dx ≠ x → sp (.ref x :: vs) (upd (upd H1 dx (.own x)) x (.ins C dx [])) (fun v H2 => v = .non ∧ Q (.ref x) H2) (E σ)) : tMakeX C sp E t σ H Q := h
theorem w_raise {C : Addr} {E : St → XK} {t : TA} (h : t σ H fun xs H1 => xs.length ≤ sizeLine ∧ E σ (.ref C) none H1) : tRaise C E t D σ H := h
theorem w_CB {r : List V → Hp → VK → Prop} {t : TA} (h : t σ H fun vs H1 => r vs H1 Q) : tCB r t σ H Q := h
theorem w_BM0 {T : String} {r : V → List V → Hp → VK → Prop} {to : TE} (h : to σ H fun x H1 => tyV K T x H1 ∧ r x [] H1 Q) : tBM0 K T r to σ H Q := h
theorem w_BM {T : String} {r : V → List V → Hp → VK → Prop} {to : TE} {t : TA} (h : to σ H fun x H1 => tyV K T x H1 ∧ t σ H1 fun xs H2 => r x xs H2 Q) : tBM K T r to t σ H Q := h
theorem w_fld {ta : TE} {f : Str} (h : ta σ H fun x H1 => ∃ a C dx fs v, x = .ref a ∧ H1 a = some (.ins C dx fs) ∧ Cls K C ∧ NoAttr K C f ∧ fs.lookup f = some v ∧ Q v H1) : tFld K ta f σ H Q := h
theorem w_sfld {ta tv : TE} {f : Str} (h : tv σ H fun y H1 => ta σ H1 fun x H2 => ∃ a C dx fs, x = .ref a ∧ H2 a = some (.ins C dx fs) ∧ Cls K C ∧ NoAttr K C f ∧ fs.length < 1000 ∧ nx σ (upd H2 a (.ins C dx (putF f y fs)))) : sFld K ta tv f ⟨nx, rt, bk, ct⟩ σ H := h
theorem w_gsub {to ti : TE} {t : TSet} {v : V} {k : St → Hp → Prop} (h : to σ H fun o H1 => ti σ H1 fun i H2 => t o i v H2 fun H3 => k σ H3) : gSub to ti t v σ H k := h
theorem w_gtup {n : Nat} {t : TGs} {v : V} {k : St → Hp → Prop} (h : ∃ a xs, v = .ref a ∧ SqT K H a xs ∧ xs.length = n ∧ t xs σ H k) : gTup K n t v σ H k := h
theorem w_gcons {t : TG} {u : TGs} {v : V} {r : List V} {k : St → Hp → Prop} (h : t v σ H fun σ' H' => u r σ' H' k) : gCons t u (v :: r) σ H k := ⟨v, r, rfl, h⟩
theorem w_gnil {k : St → Hp → Prop} (h : k σ H) : gNil [] σ H k := ⟨rfl, h⟩
theorem w_thaw {t : TS} (h : ∃ a kvs, H a = some (.dT kvs) ∧ t ⟨fun σ' H' => (∃ o, H' a = some (.frz o (.dT kvs))) ∧ nx σ' (upd H' a (.dT kvs)), rt, bk, ct⟩ σ H) : tThaw t ⟨nx, rt, bk, ct⟩ σ H := h
theorem w_idict {tl : TE} {k : It → Hp → Prop} (h : tl σ H fun x H1 => ∃ a kvs, x = .ref a ∧ H1 a = some (.dT kvs) ∧ ∀ o bs, KeyRefs H1 kvs bs → k (Itd a o kvs bs) (upd H1 a (.frz o (.dT kvs)))) : iDict tl σ H k := h
theorem w_minlen {t : TA} (h : t σ H fun vs H1 => ∃ (l : Addr) (gs : List V) (gss : List (List Int)), vs = [V.ref l] ∧ SqL K H1 l gs ∧ ListRefs H1 gs gss ∧ (gss = [] → Q .non H1) ∧
  ∀ (i : Nat) (v : V) (ns : List Int), gs[i]? = some v → gss[i]? = some ns → (∀ j ms, gss[j]? = some ms → ns.length ≤ ms.length ∧ (j < i → ns.length < ms.length)) → Q v H1) : tMinLen K t σ H Q := h
theorem w_sl {r : V → Option Int → Option Int → Hp → VK → Prop} {te : TE} {tl th : TO} (h : te σ H fun x H1 => tl σ H1 fun l H2 => th σ H2 fun u H3 => r x l u H3 Q) : tSl r te tl th σ H Q := h
theorem w_nopart {k : Option Int → Hp → Prop} (h : k none H) : tNoPart σ H k := h
theorem w_part {t : TE} {k : Option Int → Hp → Prop} (h : t σ H fun x H1 => ∃ i, x = .int i ∧ k (some i) H1) : tPart t σ H k := h
theorem w_dget {td ty : TE} (h : td σ H fun x H1 => ty σ H1 fun y H2 => ∃ a v, x = .ref a ∧ DGet H2 a y (some v) ∧ Q v H2) : tDGet td ty σ H Q := h
theorem w_din {ty td : TE} (h : ty σ H fun y H1 => td σ H1 fun x H2 => ∃ a o, x = .ref a ∧ DGet H2 a y o ∧ Q (.bl o.isSome) H2) : tDIn ty td σ H Q := h
theorem w_dnotin {ty td : TE} (h : ty σ H fun y H1 => td σ H1 fun x H2 => ∃ a o, x = .ref a ∧ DGet H2 a y o ∧ Q (.bl (!o.isSome)) H2) : tDNotIn ty td σ H Q := h
theorem w_dget1 {td ty : TE} (h : td σ H fun x H1 => ∃ a, x = .ref a ∧ IsD H1 a ∧ ty σ H1 fun y H2 => ∃ o, DGet H2 a y o ∧ Q (o.getD .non) H2) : tDGet1 td ty σ H Q := h
theorem w_dput {td ty tv : TE} (h : tv σ H fun v H1 => td σ H1 fun x H2 => ty σ H2 fun y H3 => ∃ a H4, x = .ref a ∧ DPut H3 a y v H4 ∧ nx σ H4) : sDPut td ty tv ⟨nx, rt, bk, ct⟩ σ H := h
theorem w_comp {n0 : Nat} {wi : TI} {g : Cz → TG} {tt : Cz → TT} {te : Cz → TE} (h : wi σ H fun J H1 => CompR n0 g tt te σ Q J H1) : tComp n0 wi g tt te σ H Q := h
theorem w_ilist {tl : TE} {k : It → Hp → Prop} (h : tl σ H fun x H1 => ∃ a, x = .ref a ∧ (∃ xs, SqL K H1 a xs) ∧ k (Itl K a) H1) : iList K tl σ H k := h
theorem w_ituple {tl : TE} {k : It → Hp → Prop} (h : tl σ H fun x H1 => ∃ a, x = .ref a ∧ (∃ xs, SqT K H1 a xs) ∧ k (Itt K a) H1) : iTup K tl σ H k := h
theorem w_irng1 {ta : TA} {k : It → Hp → Prop} (h : ta σ H fun vs H1 => ∃ j : Int, vs = [.int j] ∧ -(2 ^ 62) ≤ j ∧ j < 2 ^ 62 ∧ k (Itr 0 j.toNat) H1) : iRng1 ta σ H k := h
theorem w_irng2 {ta : TA} {k : It → Hp → Prop} (h : ta σ H fun vs H1 => ∃ i j : Int, vs = [.int i, .int j] ∧ (-(2 ^ 62) ≤ i ∧ i < 2 ^ 62 ∧ -(2 ^ 62) ≤ j ∧ j < 2 ^ 62) ∧ k (Itr i (j - i).toNat) H1) : iRng2 ta σ H k := h
theorem w_for {wi : TI} {g : TG} {tb : TS} (h : wi σ H fun J H1 => ∃ W : Nat → Nat → St → Hp → Prop, (∃ m, W 0 m σ H1) ∧ ∀ i m σ H, W i m σ H →
  (J.stop i H ∧ D.nx σ H) ∨ (J.go i H ∧ ∃ N : St → Hp → Prop, (∀ σ' H', N σ' H' → ∃ m', m' < m ∧ W (i + 1) m' σ' H') ∧ ∀ x H', J.yld i H x H' → g x σ H' fun σ2 H2 => tb { D with nx := N, ct := N, bk := D.nx } σ2 H2)) : tFor wi g tb D σ H := h
theorem w_while {c : TT} {tb : TS} (h : ∃ W : Nat → St → Hp → Prop, (∃ m, W m σ H) ∧ ∀ m σ H, W m σ H →
  c σ H fun b H1 => if b = true then ∃ N : St → Hp → Prop, (∀ σ' H', N σ' H' → ∃ m', m' < m ∧ W m' σ' H') ∧ tb { D with nx := N, ct := N, bk := D.nx } σ H1 else D.nx σ H1) : tWhile c tb D σ H := h
theorem w_disp {trs : List (TE × TE)} (h : ∀ p, H p = none → tPairs trs σ (upd H p (.dK [])) fun ps H2 => H2 p = some (.dK []) ∧ ∃ kvs : List (Key × V), ps = kvs.map (fun kv => (kV kv.1, kv.2)) ∧ kvs.length ≤ 15 ∧ Q (.ref p) (upd H2 p (.dK (mergeK [] kvs)))) : tDisp trs σ H Q := h
theorem w_pnil {k : List (V × V) → Hp → Prop} (h : k [] H) : tPairs [] σ H k := h
theorem w_pcons {tk tv : TE} {r : List (TE × TE)} {k : List (V × V) → Hp → Prop} (h : tk σ H fun x H1 => tv σ H1 fun y H2 => tPairs r σ H2 fun ps H3 => k ((x, y) :: ps) H3) : tPairs ((tk, tv) :: r) σ H k := h
theorem w_yes (h : R true H) : tYes σ H R := h

theorem w_join {t : TJ} (h : t Str.empty σ H Q) : tJoin t σ H Q := h
theorem w_jcons {te : TE} {t : TJ} {out : Str} (h : te σ H fun x H1 => ∃ y, x = .str y ∧ (out ++ y).length ≤ sizeLine ∧ t (out ++ y) σ H1 Q) : tJCons te t out σ H Q := h
theorem w_fmtI {te : TE} (h : te σ H fun x H1 => ∃ i : Int, x = .int i ∧ i.natAbs.log2 < 1920 ∧ Q (.str (toString i)) H1) : tFmtI te σ H Q := h
theorem w_fmtS {te : TE} (h : te σ H fun x H1 => ∃ y, x = .str y ∧ y.length ≤ sizeLine ∧ Q (.str y) H1) : tFmtS te σ H Q := h

theorem w_rI0 {g : Int → Int → V} {i j : Int} (h : Q (g i j) H) : rI0 g (.int i) (.int j) H Q := ⟨i, j, rfl, rfl, h⟩
theorem w_rI {C : Int → Int → Prop} {g : Int → Int → V} {i j : Int} (c : C i j) (h : Q (g i j) H) : rI C g (.int i) (.int j) H Q := ⟨i, j, rfl, rfl, c, h⟩
theorem w_mulL {g : Int → Int → V} {i j : Int} (c1 : -(2 ^ 64) < i) (c2 : i < 2 ^ 64) (h : Q (g i j) H) : rI CMul g (.int i) (.int j) H Q := ⟨i, j, rfl, rfl, .inl ⟨c1, c2⟩, h⟩
theorem w_mulR {g : Int → Int → V} {i j : Int} (c1 : -(2 ^ 64) < j) (c2 : j < 2 ^ 64) (h : Q (g i j) H) : rI CMul g (.int i) (.int j) H Q := ⟨i, j, rfl, rfl, .inr ⟨c1, c2⟩, h⟩
theorem w_fdiv {g : Int → Int → V} {i j : Int} (c1 : 0 < j) (c2 : j < 1073741824) (h : Q (g i j) H) : rI CDiv g (.int i) (.int j) H Q := ⟨i, j, rfl, rfl, ⟨c1, c2⟩, h⟩
theorem w_pow {g : Int → Int → V} {i j : Int} (c1 : 0 ≤ j) (c2 : j ≤ 1000000) (c3 : i.natAbs < 2 ^ 64) (h : Q (g i j) H) : rI CPow g (.int i) (.int j) H Q := ⟨i, j, rfl, rfl, ⟨c1, c2, c3⟩, h⟩
theorem w_rU {g : Int → V} {i : Int} (h : Q (g i) H) : rU g (.int i) H Q := ⟨i, rfl, h⟩
theorem w_eqI {i j : Int} (h : Q (.bl (decide (i = j))) H) : rEq (.int i) (.int j) H Q := rEq_int.mpr h
theorem w_neI {i j : Int} (h : Q (.bl (!decide (i = j))) H) : rNe (.int i) (.int j) H Q := rNe_int.mpr h
theorem w_eqS {i j : Str} (h : Q (.bl (decide (i = j))) H) : rEq (.str i) (.str j) H Q := ⟨rfl, by
  have e : decide (V.str i = V.str j) = decide (i = j) := by
    by_cases h : i = j
    · subst h; simp
    · rw [decide_eq_false h, decide_eq_false fun z => h (V.str.inj z)]
  rw [e]; exact h⟩
theorem w_neS {i j : Str} (h : Q (.bl (!decide (i = j))) H) : rNe (.str i) (.str j) H Q := ⟨rfl, by
  have e : decide (V.str i = V.str j) = decide (i = j) := by
    by_cases h : i = j
    · subst h; simp
    · rw [decide_eq_false h, decide_eq_false fun z => h (V.str.inj z)]
  rw [e]; exact h⟩
theorem w_eqB {i j : Bool} (h : Q (.bl (decide (i = j))) H) : rEq (.bl i) (.bl j) H Q := ⟨rfl, by
  have e : decide (V.bl i = V.bl j) = decide (i = j) := by cases i <;> cases j <;> rfl
  rw [e]; exact h⟩

theorem w_T {A B : Prop} (h : A) : if true = true then A else B := by simpa using h
theorem w_F {A B : Prop} (h : B) : if false = true then A else B := by simpa using h
theorem w_nT {A B : Prop} (h : B) : if (!true) = true then A else B := by simpa using h
theorem w_nF {A B : Prop} (h : A) : if (!false) = true then A else B := by simpa using h
theorem w_pos {c : Prop} [Decidable c] {A B : Prop} (hc : c) (h : A) : if decide c = true then A else B := by rw [decide_eq_true hc]; exact w_T h
theorem w_neg {c : Prop} [Decidable c] {A B : Prop} (hc : ¬ c) (h : B) : if decide c = true then A else B := by rw [decide_eq_false hc]; exact w_F h
theorem w_npos {c : Prop} [Decidable c] {A B : Prop} (hc : c) (h : B) : if (!decide c) = true then A else B := by rw [decide_eq_true hc]; exact w_nT h
theorem w_nneg {c : Prop} [Decidable c] {A B : Prop} (hc : ¬ c) (h : A) : if (!decide c) = true then A else B := by rw [decide_eq_false hc]; exact w_nF h
theorem w_exbl {b : Bool} {P : Bool → Prop} (h : P b) : ∃ c, V.bl b = .bl c ∧ P c := ⟨b, rfl, h⟩
theorem w_exint {b : Int} {P : Int → Prop} (h : P b) : ∃ c, V.int b = .int c ∧ P c := ⟨b, rfl, h⟩
theorem w_andr {A : Prop} {v : V} (h : A) : v = v ∧ A := ⟨rfl, h⟩
end
end L2

set_option maxHeartbeats 1000000

namespace Hw
theorem len1D {α : Type} {us : List α} (h : us.length = 1) : ∃ a, us = [a] := List.length_eq_one_iff.mp h
theorem len2D {α : Type} {us : List α} (h : us.length = 2) : ∃ a b, us = [a, b] := by
  cases us with
  | nil => cases h
  | cons a r =>
    obtain ⟨b, rfl⟩ := len1D (us := r) (Nat.succ.inj h)
    exact ⟨a, b, rfl⟩
theorem len3D {α : Type} {us : List α} (h : us.length = 3) : ∃ a b c, us = [a, b, c] := by
  cases us with
  | nil => cases h
  | cons a r =>
    obtain ⟨b, c, rfl⟩ := len2D (us := r) (Nat.succ.inj h)
    exact ⟨a, b, c, rfl⟩
theorem len4D {α : Type} {us : List α} (h : us.length = 4) : ∃ a b c d, us = [a, b, c, d] := by
  cases us with
  | nil => cases h
  | cons a r =>
    obtain ⟨b, c, d, rfl⟩ := len3D (us := r) (Nat.succ.inj h)
    exact ⟨a, b, c, d, rfl⟩

theorem rng1m {m : Int} (h0 : 1 ≤ m) (h : m ≤ 12) : -(2 ^ 62) ≤ (1 : Int) ∧ (1 : Int) < 2 ^ 62 ∧ -(2 ^ 62) ≤ m ∧ m < 2 ^ 62 := by omega

open PySem PySem.W PyProof.Rows in
theorem walkX_of {q : Program} {loose : List Str} {XP : (Str → Option Value) → Heap → Prop} {K : Params → Frag} {as : List Addr} {n t : Nat} {r : RowW} {d : DefRec} {kwd : List (Str × Expr)} {run : Value → List Value → Sem Value}
    (e : ∀ P, as = (K P).map (·.1)) (W : WalkO q loose XP (fun w h => (K w.params).In h) r d kwd run) : WalkX q loose XP (X.obsZ as) (X.valZ K n t) r d kwd run := by
  intro w s₀ s₁ mg mb G Y a o pm cd doc dV kV h1 h2 h3 h4 h5 h6 args vals as' L hpre hlay hrd hwl hlo
  exact W w s₀ s₁ mg mb G (InK.keeps w _ _ (X.z_facts e Y).2.1 L.keeps) a o pm cd doc dV kV h1 h2 h3 h4 h5 h6 args vals as' hpre hlay hrd hwl hlo
end Hw

set_option maxHeartbeats 1000000

namespace Hw
open PySem L2 HwSort
theorem TupRefs.nl {H H' : Hp} {bs : List V} {kss : List (List Int)} (t : TupRefs H bs kss) (k : KeepNL H H') : TupRefs H' bs kss := t.keeps fun b _ h => k b _ h fun _ e => nomatch e
theorem paired_snoc {α β : Type} {F : α → β → Prop} {l₁ : List α} {l₂ : List β} {a : α} {b : β} (x : Paired F l₁ l₂) (h : F a b) : Paired F (l₁ ++ [a]) (l₂ ++ [b]) := by
  induction x with
  | nil => exact .cons h .nil
  | cons x r ih => exact .cons x ih
theorem TupRefs.snoc {H : Hp} {bs : List V} {kss : List (List Int)} {b : Addr} {ks : List Int} (t : TupRefs H bs kss) (h : H b = some (.tup (ks.map V.int))) : TupRefs H (bs ++ [.ref b]) (kss ++ [ks]) := paired_snoc t ⟨b, rfl, h⟩

noncomputable def ltP (a b : Pr) : Prop := a.1 < b.1 ∨ a.1 = b.1 ∧ a.2 < b.2
theorem ltP_lex {a b : Pr} (h : ltP a b) : HT.lexLt (two a) (two b) = true := by
  unfold two
  rw [HT.lexLt_cons]
  rcases h with h | ⟨h1, h2⟩
  · rw [if_neg (by omega)]
    simpa using h
  · rw [if_pos h1, HT.lexLt_cons, if_neg (by omega)]
    simpa using h2
theorem ltP_irrefl (a : Pr) : ¬ ltP a a := by
  rintro (h | ⟨_, h⟩) <;> omega
structure RowsOk (many : Int) (cs : Cs) : Prop where
  rise : (keysC cs).Pairwise ltP
  ok : ∀ k ∈ keysC cs, Ok2 many k.1 k.2
  cost : ∀ e ∈ cs, 0 ≤ e.2 ∧ e.2 ≤ 1000000
  len : cs.length ≤ 144
theorem rise_nd {l : List Pr} (r : l.Pairwise ltP) : l.Nodup := List.Pairwise.imp (fun {a b} (h : ltP a b) (e : a = b) => by subst e; exact ltP_irrefl _ h) r
theorem RowsOk.nd {many : Int} {cs : Cs} (r : RowsOk many cs) : (keysC cs).Nodup := rise_nd r.rise
theorem rise_two {cs : Cs} (r : (keysC cs).Pairwise ltP) : ((keysC cs).map two).Pairwise fun x y => HT.lexLt x y = true := by
  rw [List.pairwise_map]
  exact r.imp fun h => ltP_lex h
theorem keys_len (cs : Cs) : (keysC cs).length = cs.length := List.length_map _
theorem keys_snoc (cs : Cs) (e : Pr × Int) : keysC (cs ++ [e]) = keysC cs ++ [e.1] := by simp [keysC]
theorem put_new {cs : Cs} {k : Pr} {v : Int} (h : k ∉ keysC cs) : putC cs k v = cs ++ [(k, v)] := by
  unfold putC
  rw [if_neg]
  intro z
  obtain ⟨e, he, e2⟩ := List.any_eq_true.mp z
  exact h (List.mem_map.mpr ⟨e, he, of_decide_eq_true e2⟩)

theorem trip_unique {cs : Cs} (r : (keysC cs).Pairwise ltP) {trip : List (List Int)} (pm : trip.Perm (cs.map tri)) (pw : trip.Pairwise fun x y => HT.lexLt x y = true) : trip = cs.map tri := by
  refine lex_unique pm pw ?_
  have nd : (keysC cs).Nodup := rise_nd r
  have p2 : ((keysC cs).map two).Perm ((keysC cs).map two) := .refl _
  have := tri_rise nd p2 (rise_two r)
  have e : ((keysC cs).map two).map (triC cs) = cs.map tri := by
    unfold keysC
    rw [List.map_map, List.map_map]
    apply List.map_congr_left
    intro x hx
    exact triC_two cs x.1 (look_mem nd hx)
  rwa [e] at this
inductive sp_rows (K : PySem.W.Frag) (vs : List V) (H : Hp) (Q : VK) (E : XK) : Prop
  | mk (a : Addr) (ns : List Int) (many : Int) (h09 : vs = [.ref a, .int many]) (h19 : SqL K H a (ns.map V.int)) (h29 : ns.length ≤ 63) (h39 : 1 ≤ many) (h49 : many ≤ 12) (h59 : ∀ l rs cs H', Same H H' → H l = none → H' l = some (.lst rs) → TupRefs H' rs (cs.map tri) → RowsOk many cs → Q (.ref l) H') : sp_rows K vs H Q E
inductive sp_hearR (C : Addr) (vs : List V) (H : Hp) (Q : VK) (E : XK) : Prop
  | mk (p d : Addr) (many : Int) (cs : Cs) (h09 : vs = [.ref p]) (h19 : BookAt C H p d many cs) (h29 : (keysC cs).Nodup) (h39 : cs.length ≤ 900) (h49 : (cs.length < 64 ∨ (keysC cs).Pairwise ltP)) (h59 : ∀ l rs trip H', Same H H' → H l = none → H' l = some (.lst rs) → TupRefs H' rs trip → trip.Perm (cs.map tri) → trip.Pairwise (fun x y => HT.lexLt x y = true) → Q (.ref l) H') : sp_hearR C vs H Q E
end Hw

set_option maxHeartbeats 1000000

namespace L2
open PySem PySem.Spec PyProof.Rows
section
variable {X : Cx}
end
end L2

namespace L2
open PySem PySem.Spec PyProof.Rows
end L2

set_option maxHeartbeats 1000000

namespace PySem
open Sem (wp)
set_option maxRecDepth 100000
namespace F
end F
section
variable {prog : Program} {w : World} {A : Around} {E : Value → Shared → Prop} {h : Heap} {g : Array GenState} {d : Drawn} {t : Nat} {os : OsState} {a : Addr} {its : Array Value} {n : Nat}
end
end PySem

set_option maxHeartbeats 1000000

namespace L2
open PySem PySem.Spec PyProof.Rows
section
variable {P : Program} {w : World} {A : Around} {s : Shared} {h₀ : Heap} {l I d : Addr} {vs : List Value} {xs : List (List Key × Addr × Value)} {R : Result → Shared → Prop}
end

end L2

set_option maxHeartbeats 1000000

namespace L2
open PySem PySem.Spec PyProof.Rows
noncomputable def rEqNil (K : PySem.W.Frag) (neg : Bool) : R2 := fun x y H Q => ∃ p q xs, x = .ref p ∧ y = .ref q ∧ SqL K H p xs ∧ SqL K H q [] ∧ Q (.bl (if neg then !xs.isEmpty else xs.isEmpty)) H
section
variable {X : Cx}
theorem eqNil_at {pins : List (Addr × Obj)} {s : Shared} {σ : St} {H : Hp} {p q : Addr} {xs : List V} {Q : Value → Shared → Prop} {E : Value → Shared → Prop} (hu : X.A.units < cLine) (I : Inv X pins σ H s) (hp : SqL X.K H p xs) (hq : SqL X.K H q []) (k : Q (.bool xs.isEmpty) s) :
    wpAny (model X.prog X.w) X.A (compareOp .Eq (.ref p) (.ref q)) Q E s := by
  obtain ⟨its, rv, pl, z⟩ := I.list hp
  obtain ⟨jts, rw', ql, z'⟩ := I.list hq
  have e0 : jts = [] := by
    have := rw'.length
    exact List.eq_nil_of_length_eq_zero this.symm
  subst e0
  cases xs with
  | nil =>
    have e1 : its = [] := List.eq_nil_of_length_eq_zero rv.length.symm
    subst e1
    exact SeqAt.eq_listAt pl.isList ql.isList rfl hu (e := fun _ => true) (fun j h1 h2 => by simp at h1) k
  | cons x r =>
    refine SeqAt.eq_list_lengthsAt pl.isList ql.isList ?_ hu k
    have := rv.length
    simp only [List.size_toArray, bne_iff_ne]
    rw [← this]
    simp
theorem op_eqNil (hu : X.A.units < cLine) : OpR X (compareOp .Eq) (rEqNil X.K false) := by
  intro pins s σ H x y v u Q I rx ry h
  obtain ⟨p, q, xs, rfl, rfl, hp, hq, k⟩ := h
  cases rx
  cases ry
  exact eqNil_at hu I hp hq ⟨.bl xs.isEmpty, H, I, rfl, k⟩
end
end L2

set_option maxHeartbeats 1000000

namespace L2
open PySem PySem.Spec PyProof.Rows
mutual
inductive DRep (H : Hp) : V → PyData → Prop
  | non : DRep H .non .none
  | bl (b : Bool) : DRep H (.bl b) (.bool b)
  | int (i : Int) : DRep H (.int i) (.int i)
  | str (x : Str) : DRep H (.str x) (.str x)
  | lst {a : Addr} {xs : List V} {ds : List PyData} : H a = some (.lst xs) → DReps H xs ds → DRep H (.ref a) (.list ds)
  | tup {a : Addr} {xs : List V} {ds : List PyData} : H a = some (.tup xs) → DReps H xs ds → DRep H (.ref a) (.tuple ds)
inductive DReps (H : Hp) : List V → List PyData → Prop
  | nil : DReps H [] []
  | cons {x : V} {d : PyData} {xs : List V} {ds : List PyData} : DRep H x d → DReps H xs ds → DReps H (x :: xs) (d :: ds)
end
section
variable {X : Cx} {pins : List (Addr × Obj)} {σ : St} {H : Hp} {s : Shared}
mutual
theorem DRep.reads (I : Inv X pins σ H s) : ∀ {v : V} {d : PyData} {u : Value}, DRep H v d → RelV v u → ∃ as, Reads s.heap u d as
  | _, _, _, .non, r => by cases r; exact ⟨_, .none⟩
  | _, _, _, .bl b, r => by cases r; exact ⟨_, .bool b⟩
  | _, _, _, .int i, r => by obtain ⟨t, rfl⟩ := r; exact ⟨_, .int i t⟩
  | _, _, _, .str x, r => by obtain ⟨t, rfl⟩ := r; exact ⟨_, .str x t⟩
  | _, _, _, .lst h t, r => by
    cases r
    obtain ⟨_, its, n, rv, e⟩ := I.hok _ _ h
    obtain ⟨as, q⟩ := DReps.reads I t rv
    exact ⟨_, .list e rfl rfl (by simpa using q)⟩
  | _, _, _, .tup h t, r => by
    cases r
    obtain ⟨_, its, rv, o, e, c, n, dd⟩ := I.hok _ _ h
    obtain ⟨as, q⟩ := DReps.reads I t rv
    exact ⟨_, .tuple e c dd (by simpa using q)⟩
theorem DReps.reads (I : Inv X pins σ H s) : ∀ {xs : List V} {ds : List PyData} {us : List Value}, DReps H xs ds → Vals xs us → ∃ as, ReadsAll s.heap us ds as
  | _, _, _, .nil, .nil => ⟨_, .nil⟩
  | _, _, _, .cons h t, .cons r rr => by
    obtain ⟨a1, q1⟩ := DRep.reads I h r
    obtain ⟨a2, q2⟩ := DReps.reads I t rr
    exact ⟨_, .cons q1 q2⟩
end
end
mutual
theorem DRep.same {H H' : Hp} (k : Same H H') : ∀ {v : V} {d : PyData}, DRep H v d → DRep H' v d
  | _, _, .non => .non
  | _, _, .bl b => .bl b
  | _, _, .int i => .int i
  | _, _, .str x => .str x
  | _, _, .lst h t => .lst (k _ _ h) (DReps.same k t)
  | _, _, .tup h t => .tup (k _ _ h) (DReps.same k t)
theorem DReps.same {H H' : Hp} (k : Same H H') : ∀ {xs : List V} {ds : List PyData}, DReps H xs ds → DReps H' xs ds
  | _, _, .nil => .nil
  | _, _, .cons h t => .cons (DRep.same k h) (DReps.same k t)
end
section
variable {X : Cx}
end
end L2

set_option maxHeartbeats 1000000

namespace Hw
open PySem L2 HwSort
noncomputable abbrev Grp := List Int
structure PSt where
  rests : Cs
  spent : List Pr
  prices : List (Grp × Int)
  lonely : Option Grp
noncomputable def entersB (g : Grp) (k : Pr) : Bool := decide (k.2 ∈ g) && !decide (k.1 ∈ g)
noncomputable def entering (rests : Cs) (g : Grp) : List Pr := (keysC rests).filter (entersB g)
noncomputable def minI : List Int → Int
  | [] => 0
  | [a] => a
  | a :: b :: r => min a (minI (b :: r))
theorem minI_mem : ∀ {l : List Int}, l ≠ [] → minI l ∈ l
  | [], h => absurd rfl h
  | [a], _ => by simp [minI]
  | a :: b :: r, _ => by
    have ih := minI_mem (l := b :: r) (by simp)
    unfold minI
    by_cases h : a ≤ minI (b :: r)
    · rw [Int.min_eq_left h]; simp
    · rw [Int.min_eq_right (by omega)]; exact List.mem_cons_of_mem _ ih
theorem minI_le : ∀ {l : List Int}, ∀ x ∈ l, minI l ≤ x
  | [], x, h => by cases h
  | [a], x, h => by simp at h; simp [minI, h]
  | a :: b :: r, x, h => by
    unfold minI
    rcases List.mem_cons.mp h with rfl | h
    · omega
    · have := minI_le (l := b :: r) x h
      omega
noncomputable def costOf (cs : Cs) (k : Pr) : Int := (lookC cs k).getD 0
noncomputable def priceOf (rests : Cs) (g : Grp) : Int := minI ((entering rests g).map (costOf rests))

noncomputable def lowered (rests : Cs) (ks : List Pr) (price : Int) : Cs := rests.map fun e => if e.1 ∈ ks then (e.1, e.2 - price) else e
noncomputable def chargeF (st : PSt) (g : Grp) : PSt :=
  if entering st.rests g = [] then { st with lonely := some g }
  else { rests := lowered st.rests (entering st.rests g) (priceOf st.rests g), spent := st.spent ++ (entering st.rests g).filter fun k => decide (costOf st.rests k = priceOf st.rests g),
         prices := if priceOf st.rests g = 0 then st.prices else st.prices ++ [(g, priceOf st.rests g)], lonely := st.lonely }
theorem keys_lowered (rests : Cs) (ks : List Pr) (price : Int) : keysC (lowered rests ks price) = keysC rests := by
  unfold keysC lowered
  rw [List.map_map]
  apply List.map_congr_left
  intro x _
  simp only [Function.comp]
  split <;> rfl
theorem keys_charge (st : PSt) (g : Grp) : keysC (chargeF st g).rests = keysC st.rests := by
  unfold chargeF
  split
  · rfl
  · exact keys_lowered _ _ _
theorem look_lowered {rests : Cs} {ks : List Pr} {price : Int} {k : Pr} : lookC (lowered rests ks price) k = (lookC rests k).map fun c => if k ∈ ks then c - price else c := by
  unfold lookC lowered
  induction rests with
  | nil => rfl
  | cons e r ih =>
    rw [List.map_cons, List.find?_cons, List.find?_cons]
    have e1 : (if e.1 ∈ ks then (e.1, e.2 - price) else e).1 = e.1 := by split <;> rfl
    rw [e1]
    by_cases h : e.1 = k
    · simp only [h, decide_true, Option.map_some]
      by_cases h2 : k ∈ ks <;> simp [h2]
    · simp only [h, decide_false]
      exact ih

theorem entering_mem {rests : Cs} {g : Grp} {k : Pr} (h : k ∈ entering rests g) : k ∈ keysC rests := (List.mem_filter.mp h).1
theorem entering_cost {rests : Cs} {g : Grp} {k : Pr} (hn : (keysC rests).Nodup) (h : k ∈ entering rests g) : lookC rests k = some (costOf rests k) := by
  obtain ⟨e, he, e2⟩ := List.mem_map.mp (entering_mem h)
  have : lookC rests k = some e.2 := look_mem hn (by rw [← e2]; exact he)
  unfold costOf
  rw [this]
  rfl
theorem entering_nodup {rests : Cs} {g : Grp} (hn : (keysC rests).Nodup) : (entering rests g).Nodup := hn.sublist List.filter_sublist
theorem paired_of {α β : Type} {F : α → β → Prop} : ∀ {l₁ : List α} {l₂ : List β}, l₁.length = l₂.length → (∀ (i : Nat) a b, l₁[i]? = some a → l₂[i]? = some b → F a b) → Paired F l₁ l₂
  | [], [], _, _ => .nil
  | [], _ :: _, h, _ => by simp at h
  | _ :: _, [], h, _ => by simp at h
  | a :: l₁, b :: l₂, h, k => .cons (k 0 a b rfl rfl) (paired_of (by simpa using h) fun i x y hx hy => k (i + 1) x y (by simpa using hx) (by simpa using hy))
structure PrObj (C1 : Addr) (H : Hp) (p d s q : Addr) (lv : V) : Prop where
  ob : ∃ dx fs, H p = some (.ins C1 dx fs) ∧ fs.lookup ("rests" : Str) = some (.ref d) ∧ fs.lookup ("spent" : Str) = some (.ref s) ∧ fs.lookup ("prices" : Str) = some (.ref q) ∧ fs.lookup ("lonely" : Str) = some lv ∧
    (∀ m : Str, m ≠ "rests" → m ≠ "spent" → m ≠ "prices" → m ≠ "lonely" → fs.lookup m = none) ∧ fs.length ≤ 100

noncomputable def PriceRefs (N : Addr → Prop) (H : Hp) (s q : Addr) : List V → List (Grp × Int) → Prop := Paired fun y p => ∃ b l, y = V.ref b ∧ H b = some (.tup [.ref l, .int p.2]) ∧ H l = some (.lst (p.1.map V.int)) ∧ l ≠ s ∧ l ≠ q ∧ N l
noncomputable def LonelyAt (N : Addr → Prop) (H : Hp) (s q : Addr) (lv : V) : Option Grp → Prop
  | none => lv = .non
  | some g => ∃ l, lv = .ref l ∧ H l = some (.lst (g.map V.int)) ∧ l ≠ s ∧ l ≠ q ∧ N l
structure PrAt (N : Addr → Prop) (C1 : Addr) (H : Hp) (p d s q : Addr) (st : PSt) : Prop where
  ob : ∃ lv, PrObj C1 H p d s q lv ∧ LonelyAt N H s q lv st.lonely
  dc : H d = some (.dT (enc st.rests))
  sp : ∃ rs, H s = some (.lst rs) ∧ TupRefs H rs (st.spent.map two)
  pr : ∃ qs, H q = some (.lst qs) ∧ PriceRefs N H s q qs st.prices
  ne : s ≠ q

structure StOk (many : Int) (st : PSt) : Prop where
  nd : (keysC st.rests).Nodup
  len : st.rests.length ≤ 200
  slen : st.spent.length ≤ 40000
  plen : st.prices.length ≤ 40000
theorem LonelyAt.keep {N : Addr → Prop} {H H' : Hp} {s q : Addr} {lv : V} {o : Option Grp} (x : LonelyAt N H s q lv o) (k : ∀ b xs, H b = some (.lst xs) → b ≠ s → b ≠ q → H' b = some (.lst xs)) : LonelyAt N H' s q lv o := by
  cases o with
  | none => exact x
  | some g => obtain ⟨l, e, a1, a2, a3, a4⟩ := x; exact ⟨l, e, k _ _ a1 a2 a3, a2, a3, a4⟩
theorem PriceRefs.keep {N : Addr → Prop} {H H' : Hp} {s q : Addr} {vs : List V} {ps : List (Grp × Int)} (x : PriceRefs N H s q vs ps) (k : ∀ b xs, H b = some (.lst xs) → b ≠ s → b ≠ q → H' b = some (.lst xs)) (kt : ∀ b xs, H b = some (.tup xs) → H' b = some (.tup xs)) : PriceRefs N H' s q vs ps :=
  Paired.mapP x fun _ _ hh9 => by obtain ⟨b, l, e, a1, a2, a3, a4, a5⟩ := hh9; exact ⟨b, l, e, kt _ _ a1, k _ _ a2 a3 a4, a3, a4, a5⟩
structure TxtP (K : PySem.W.Frag) (mg : Str → Option Value) (C1 : Addr) : Prop where
  cl : Cls K C1
  aR : NoAttr K C1 "rests"
  aS : NoAttr K C1 "spent"
  aP : NoAttr K C1 "prices"
  aL : NoAttr K C1 "lonely"
end Hw

set_option maxHeartbeats 1000000

namespace Hw
open PySem L2 HwSort
inductive Reach (spent : List Pr) (t : Int) : Int → Prop
  | base : Reach spent t t
  | step {a b : Int} : (a, b) ∈ spent → Reach spent t b → Reach spent t a
open Classical in
noncomputable def behindF (n : Nat) (spent : List Pr) (t : Int) : Grp := ((List.range n).map Int.ofNat).filter fun a => decide (Reach spent t a)
theorem nodup_len {α : Type} [DecidableEq α] : ∀ {l m : List α}, l.Nodup → (∀ x ∈ l, x ∈ m) → l.length ≤ m.length
  | [], m, _, _ => Nat.zero_le _
  | a :: r, m, hn, hs => by
    obtain ⟨h1, h2⟩ := List.nodup_cons.mp hn
    have ha : a ∈ m := hs a (List.mem_cons_self ..)
    have ih := nodup_len (l := r) (m := m.erase a) h2 fun x hx => by
      have hne : x ≠ a := fun e => h1 (e ▸ hx)
      exact (List.mem_erase_of_ne hne).mpr (hs x (List.mem_cons_of_mem _ hx))
    rw [List.length_erase_of_mem ha] at ih
    have : 0 < m.length := List.length_pos_of_mem ha
    rw [List.length_cons]
    omega
theorem mem_tellers {n : Nat} {a : Int} : a ∈ (List.range n).map Int.ofNat ↔ 0 ≤ a ∧ a < n := by
  rw [List.mem_map]
  constructor
  · rintro ⟨k, hk, rfl⟩
    have := List.mem_range.mp hk
    exact ⟨Int.natCast_nonneg _, by show (k : Int) < n; omega⟩
  · rintro ⟨h1, h2⟩
    exact ⟨a.toNat, List.mem_range.mpr (by omega), Int.toNat_of_nonneg h1⟩
theorem tellers_rise (n : Nat) : ((List.range n).map Int.ofNat).Pairwise (· < ·) := by
  rw [List.pairwise_map]
  exact List.pairwise_lt_range.imp fun h => by show (_ : Int) < _; exact Int.ofNat_lt.mpr h
theorem mem_behind {n : Nat} {spent : List Pr} {t a : Int} : a ∈ behindF n spent t ↔ (0 ≤ a ∧ a < n) ∧ Reach spent t a := by
  unfold behindF
  rw [List.mem_filter, mem_tellers]
  simp
theorem behind_rise (n : Nat) (spent : List Pr) (t : Int) : (behindF n spent t).Pairwise (· < ·) := (tellers_rise n).sublist List.filter_sublist
theorem sorted_unique : ∀ {l m : List Int}, l.Pairwise (· < ·) → m.Pairwise (· < ·) → (∀ x, x ∈ l ↔ x ∈ m) → l = m
  | [], [], _, _, _ => rfl
  | [], b :: m, _, _, h => absurd ((h b).mpr (List.mem_cons_self ..)) (by simp)
  | a :: l, [], _, _, h => absurd ((h a).mp (List.mem_cons_self ..)) (by simp)
  | a :: l, b :: m, h1, h2, h => by
    obtain ⟨a1, a2⟩ := List.pairwise_cons.mp h1
    obtain ⟨b1, b2⟩ := List.pairwise_cons.mp h2
    have hab : a = b := by
      rcases List.mem_cons.mp ((h a).mp (List.mem_cons_self ..)) with e | e
      · exact e
      · rcases List.mem_cons.mp ((h b).mpr (List.mem_cons_self ..)) with e2 | e2
        · exact e2.symm
        · have := b1 a e
          have := a1 b e2
          omega
    subst hab
    congr 1
    refine sorted_unique a2 b2 fun x => ?_
    constructor
    · intro hx
      rcases List.mem_cons.mp ((h x).mp (List.mem_cons_of_mem _ hx)) with e | e
      · have := a1 x hx
        omega
      · exact e
    · intro hx
      rcases List.mem_cons.mp ((h x).mpr (List.mem_cons_of_mem _ hx)) with e | e
      · have := b1 x hx
        omega
      · exact e
theorem lt_of_le_nodup : ∀ {l : List Int}, l.Pairwise (· ≤ ·) → l.Nodup → l.Pairwise (· < ·)
  | [], _, _ => .nil
  | a :: r, h, hn => by
    obtain ⟨a1, a2⟩ := List.pairwise_cons.mp h
    obtain ⟨n1, n2⟩ := List.nodup_cons.mp hn
    refine List.pairwise_cons.mpr ⟨fun x hx => ?_, lt_of_le_nodup a2 n2⟩
    have h1 := a1 x hx
    have h2 : a ≠ x := fun e => n1 (e ▸ hx)
    omega
structure FInv (n : Nat) (spent : List Pr) (t : Int) (ks ws : List Int) : Prop where
  nd : ks.Nodup
  ok : ∀ a ∈ ks, (0 ≤ a ∧ a < n) ∧ Reach spent t a
  sub : ∀ a ∈ ws, a ∈ ks
  tt : t ∈ ks
  cl : ∀ b ∈ ks, b ∉ ws → ∀ a, (a, b) ∈ spent → a ∈ ks
theorem FInv.done {n : Nat} {spent : List Pr} {t : Int} {ks : List Int} (x : FInv n spent t ks []) {l : List Int} (pm : l.Perm ks) (pw : l.Pairwise (· ≤ ·)) : l = behindF n spent t := by
  refine sorted_unique (lt_of_le_nodup pw (pm.nodup_iff.mpr x.nd)) (behind_rise n spent t) fun a => ?_
  rw [pm.mem_iff, mem_behind]
  constructor
  · exact x.ok a
  · rintro ⟨h0, h⟩
    clear h0
    induction h with
    | base => exact x.tt
    | step h1 _ ih => exact x.cl _ ih (by simp) _ h1
structure SpOk (n : Nat) (spent : List Pr) : Prop where
  ok : ∀ k ∈ spent, (0 ≤ k.1 ∧ k.1 < n) ∧ (0 ≤ k.2 ∧ k.2 < n)
  len : spent.length ≤ 1000
end Hw

set_option maxHeartbeats 1000000

namespace Hw
open PySem L2 HwSort
noncomputable def firstMin : List Grp → Option Grp
  | [] => none
  | g :: r => match firstMin r with
    | none => some g
    | some h => if g.length ≤ h.length then some g else some h
theorem firstMin_mem : ∀ {L : List Grp} {g : Grp}, firstMin L = some g → g ∈ L
  | [], _, h => by cases h
  | a :: r, g, h => by
    unfold firstMin at h
    split at h
    · cases h; exact List.mem_cons_self ..
    · next h0 e =>
      split at h
      · cases h; exact List.mem_cons_self ..
      · cases h; exact List.mem_cons_of_mem _ (firstMin_mem e)
theorem firstMin_none : ∀ {L : List Grp}, firstMin L = none → L = []
  | [], _ => rfl
  | a :: r, h => by
    unfold firstMin at h
    split at h
    · cases h
    · split at h <;> cases h
theorem firstMin_le : ∀ {L : List Grp} {g : Grp}, firstMin L = some g → ∀ h ∈ L, g.length ≤ h.length
  | [], _, e, _, _ => by cases e
  | a :: r, g, e, h, hh => by
    unfold firstMin at e
    split at e
    · next e0 =>
      cases e
      have := firstMin_none e0
      subst this
      rw [List.mem_singleton.mp hh]
      exact Nat.le_refl _
    · next h0 e0 =>
      have ih := firstMin_le e0
      split at e
      · next hl =>
        cases e
        rcases List.mem_cons.mp hh with rfl | hh
        · exact Nat.le_refl _
        · exact Nat.le_trans hl (ih h hh)
      · next hl =>
        cases e
        rcases List.mem_cons.mp hh with rfl | hh
        · omega
        · exact ih h hh
noncomputable def groupsF (n : Nat) (spent : List Pr) : List Grp := (List.range (n - 1)).map fun (i : Nat) => behindF n spent (1 + (i : Int))
noncomputable def cutF (n : Nat) (spent : List Pr) : Option Grp := firstMin ((groupsF n spent).filter fun g => !decide (g.headD 0 = 0))
structure IntoAt (H : Hp) (a : Addr) (cs : List Addr) (L : List (List Int)) : Prop where
  ar : H a = some (.lst (cs.map V.ref))
  nd : cs.Nodup
  len : cs.length = L.length
  it : ∀ (i : Nat) c l, cs[i]? = some c → L[i]? = some l → H c = some (.lst (l.map V.int))
  na : a ∉ cs
theorem IntoAt.refs {H : Hp} {a : Addr} {cs : List Addr} {L : List (List Int)} (x : IntoAt H a cs L) : ListRefs H (cs.map V.ref) L := by
  refine paired_of (by rw [List.length_map]; exact x.len) fun i v l hv hl => ?_
  rw [List.getElem?_map] at hv
  cases e : cs[i]? with
  | none => rw [e] at hv; cases hv
  | some c => rw [e] at hv; exact ⟨c, (Option.some.inj hv).symm, x.it i c l e hl⟩
end Hw

set_option maxHeartbeats 1000000

namespace Hw
open PySem L2 HwSort
structure PI (n : Nat) (st : PSt) : Prop where
  nd : (keysC st.rests).Nodup
  ok : ∀ k ∈ keysC st.rests, Ok2 n k.1 k.2
  len : st.rests.length ≤ 144
  nn : ∀ e ∈ st.rests, 0 ≤ e.2
  snd : st.spent.Nodup
  ssub : ∀ k ∈ st.spent, k ∈ keysC st.rests
theorem PI.spl {n : Nat} {st : PSt} (x : PI n st) : st.spent.length ≤ st.rests.length := by
  have := nodup_len x.snd x.ssub
  rwa [keys_len] at this
theorem PI.so {n : Nat} {st : PSt} (x : PI n st) : SpOk n st.spent := by
  refine ⟨fun k hk => ?_, ?_⟩
  · obtain ⟨h1, h2, h3, h4, _, _⟩ := x.ok k (x.ssub k hk)
    exact ⟨⟨h1, h2⟩, ⟨h3, h4⟩⟩
  · have := x.spl
    have := x.len
    omega
theorem mem_lowered {rests : Cs} {ks : List Pr} {price : Int} {e : Pr × Int} (h : e ∈ lowered rests ks price) : ∃ c, (e.1, c) ∈ rests ∧ e.2 = if e.1 ∈ ks then c - price else c := by
  unfold lowered at h
  obtain ⟨x, hx, rfl⟩ := List.mem_map.mp h
  by_cases hk : x.1 ∈ ks
  · simp only [hk, if_true]
    exact ⟨x.2, hx, rfl⟩
  · simp only [hk, if_false]
    exact ⟨x.2, hx, rfl⟩
theorem price_le {rests : Cs} {g : Grp} {k : Pr} (h : k ∈ entering rests g) : priceOf rests g ≤ costOf rests k := minI_le _ (List.mem_map_of_mem h)
theorem price_at {rests : Cs} {g : Grp} (h : entering rests g ≠ []) : ∃ k ∈ entering rests g, costOf rests k = priceOf rests g := by
  have : priceOf rests g ∈ (entering rests g).map (costOf rests) := minI_mem (by simpa using h)
  obtain ⟨k, hk, e⟩ := List.mem_map.mp this
  exact ⟨k, hk, e⟩
theorem charge_PI {n : Nat} {st : PSt} {g : Grp} (x : PI n st) (hs : ∀ k ∈ st.spent, entersB g k = false) : PI n (chargeF st g) := by
  refine ⟨by rw [keys_charge]; exact x.nd, fun k hk => x.ok k (by rwa [keys_charge] at hk), ?_, fun e he => ?_, ?_, fun k hk => ?_⟩
  · have := congrArg List.length (keys_charge st g)
    rw [keys_len, keys_len] at this
    rw [this]
    exact x.len
  · unfold chargeF at he
    split at he
    · exact x.nn e he
    · obtain ⟨c, hc, e2⟩ := mem_lowered he
      have h0 := x.nn _ hc
      rw [e2]
      split
      · next hk =>
        have h1 := price_le hk
        have h2 : costOf st.rests e.1 = c := by unfold costOf; rw [look_mem x.nd hc]; rfl
        omega
      · exact h0
  · unfold chargeF
    split
    · exact x.snd
    · rw [List.nodup_append]
      refine ⟨x.snd, (entering_nodup x.nd).sublist List.filter_sublist, fun a ha b hb e => ?_⟩
      subst e
      have h1 := (List.mem_filter.mp (List.mem_filter.mp hb).1).2
      rw [hs a ha] at h1
      cases h1
  · rw [keys_charge]
    unfold chargeF at hk
    split at hk
    · exact x.ssub k hk
    · rcases List.mem_append.mp hk with h | h
      · exact x.ssub k h
      · exact entering_mem (List.mem_filter.mp h).1
theorem charge_more {st : PSt} {g : Grp} (h : entering st.rests g ≠ []) : st.spent.length < (chargeF st g).spent.length := by
  unfold chargeF
  rw [if_neg h, List.length_append]
  obtain ⟨k, hk, e⟩ := price_at h
  have : 0 < ((entering st.rests g).filter fun k => decide (costOf st.rests k = priceOf st.rests g)).length := List.length_pos_of_mem (List.mem_filter.mpr ⟨hk, by simpa using e⟩)
  show st.spent.length < st.spent.length + _
  omega
theorem charge_prices (st : PSt) (g : Grp) : (chargeF st g).prices.length ≤ st.prices.length + 1 := by
  unfold chargeF
  split
  · exact Nat.le_succ _
  · show (if _ then _ else _ : List (Grp × Int)).length ≤ _
    split
    · exact Nat.le_succ _
    · simp
theorem charge_lonely (st : PSt) (g : Grp) : (chargeF st g).lonely = if entering st.rests g = [] then some g else st.lonely := by
  unfold chargeF
  split <;> rfl
theorem cut_some {n : Nat} {spent : List Pr} {G : Grp} (h : cutF n spent = some G) : ∃ t : Int, 1 ≤ t ∧ t < n ∧ G = behindF n spent t ∧ G.headD 0 ≠ 0 := by
  have hm := firstMin_mem h
  obtain ⟨h1, h2⟩ := List.mem_filter.mp hm
  unfold groupsF at h1
  obtain ⟨i, hi, rfl⟩ := List.mem_map.mp h1
  have := List.mem_range.mp hi
  exact ⟨1 + (i : Int), by omega, by omega, rfl, by simpa using h2⟩
theorem cut_closed {n : Nat} {spent : List Pr} {G : Grp} (so : SpOk n spent) (h : cutF n spent = some G) : ∀ k ∈ spent, entersB G k = false := by
  obtain ⟨t, _, _, rfl, _⟩ := cut_some h
  intro k hk
  unfold entersB
  by_cases h1 : k.2 ∈ behindF n spent t
  · have h2 : k.1 ∈ behindF n spent t := by
      rw [mem_behind] at h1 ⊢
      exact ⟨(so.ok k hk).1, .step hk h1.2⟩
    simp [h1, h2]
  · simp [h1]
inductive Steps (n : Nat) : PSt → PSt → Prop
  | refl (st : PSt) : Steps n st st
  | tail {a b : PSt} {G : Grp} : Steps n a b → cutF n b.spent = some G → b.lonely = none → Steps n a (chargeF b G)
noncomputable def Ended (n : Nat) (st : PSt) : Prop := cutF n st.spent = none ∨ st.lonely ≠ none
noncomputable def singles (n : Nat) : List Grp := (List.range (n - 1)).map fun (i : Nat) => [1 + (i : Int)]
noncomputable def st1 (n : Nat) (cs : Cs) : PSt := (singles n).foldl chargeF ⟨cs, [], [], none⟩
noncomputable def Priced (n : Nat) (cs : Cs) (st : PSt) : Prop := Steps n (st1 n cs) st ∧ Ended n st
theorem steps_head {n : Nat} {a b : PSt} (h : Steps n a b) : a = b ∨ ∃ G, cutF n a.spent = some G ∧ a.lonely = none ∧ Steps n (chargeF a G) b := by
  induction h with
  | refl => exact .inl rfl
  | @tail b G h1 h2 h3 ih =>
    right
    rcases ih with rfl | ⟨G', e1, e2, e3⟩
    · exact ⟨G, h2, h3, .refl _⟩
    · exact ⟨G', e1, e2, .tail e3 h2 h3⟩
theorem steps_trans {n : Nat} {a b c : PSt} (h1 : Steps n a b) (h2 : Steps n b c) : Steps n a c := by
  induction h2 with
  | refl => exact h1
  | tail _ h3 h4 ih => exact .tail ih h3 h4
theorem steps_ended {n : Nat} {a b : PSt} (h : Steps n a b) (he : Ended n a) : b = a := by
  rcases steps_head h with e | ⟨G, e1, e2, _⟩
  · exact e.symm
  · rcases he with h | h
    · rw [h] at e1; cases e1
    · exact absurd e2 h
theorem steps_det {n : Nat} {a b c : PSt} (h1 : Steps n a b) (h2 : Steps n a c) : Steps n b c ∨ Steps n c b := by
  induction h2 with
  | refl => exact .inr h1
  | @tail c G h3 h4 h5 ih =>
    rcases ih with ih | ih
    · exact .inl (.tail ih h4 h5)
    · rcases steps_head ih with rfl | ⟨G', e1, e2, e3⟩
      · exact .inl (.tail (.refl _) h4 h5)
      · rw [h4] at e1
        cases e1
        exact .inr e3
theorem priced_unique {n : Nat} {cs : Cs} {a b : PSt} (h1 : Priced n cs a) (h2 : Priced n cs b) : a = b := by
  rcases steps_det h1.1 h2.1 with h | h
  · exact (steps_ended h h1.2).symm
  · exact steps_ended h h2.2

structure HsOk (n : Nat) (cs : Cs) : Prop where
  nd : (keysC cs).Nodup
  ok : ∀ k ∈ keysC cs, Ok2 n k.1 k.2
  len : cs.length ≤ 144
  nn : ∀ e ∈ cs, 0 ≤ e.2
theorem singles_step {n : Nat} {st : PSt} {i : Nat} (hs : ∀ k ∈ st.spent, k.2 < 1 + (i : Int)) : (∀ k ∈ st.spent, entersB [1 + (i : Int)] k = false) ∧ ∀ k ∈ (chargeF st [1 + (i : Int)]).spent, k.2 < 1 + ((i + 1 : Nat) : Int) := by
  constructor
  · intro k hk
    have := hs k hk
    unfold entersB
    have : ¬ k.2 ∈ [1 + (i : Int)] := by simp; omega
    simp only [this, decide_false, Bool.false_and]
  · intro k hk
    unfold chargeF at hk
    split at hk
    · have := hs k hk
      omega
    · rcases List.mem_append.mp hk with h | h
      · have := hs k h
        omega
      · have h1 := (List.mem_filter.mp (List.mem_filter.mp h).1).2
        unfold entersB at h1
        simp only [Bool.and_eq_true, decide_eq_true_eq] at h1
        have := List.mem_singleton.mp h1.1
        omega
end Hw

set_option maxHeartbeats 1000000

namespace Hw
open PySem L2 HwSort
noncomputable def leadsB (ks : List Int) (k : Pr) : Bool := decide (k.1 ∈ ks) && !decide (k.2 ∈ ks)
noncomputable abbrev Fam := List (Option Int)
noncomputable def growStep (spent : List Pr) (x : Fam × List Int) : Fam × List Int := match spent.find? (leadsB x.2) with
  | some k => (x.1.set k.2.toNat (some k.1), x.2 ++ [k.2])
  | none => x
noncomputable def growI (n : Nat) (spent : List Pr) : Nat → Fam × List Int
  | 0 => (List.replicate n none, [0])
  | i + 1 => growStep spent (growI n spent i)
noncomputable def growF (n : Nat) (spent : List Pr) : Fam := (growI n spent (n - 1)).1
theorem leads_exists {spent : List Pr} {t a : Int} {ks : List Int} (h : Reach spent t a) (ha : a ∈ ks) (ht : t ∉ ks) : ∃ k ∈ spent, leadsB ks k = true := by
  induction h with
  | base => exact absurd ha ht
  | @step a b h1 _ ih =>
    by_cases hb : b ∈ ks
    · exact ih hb
    · exact ⟨(a, b), h1, by simp [leadsB, ha, hb]⟩

structure GInv (n : Nat) (spent : List Pr) (x : Fam × List Int) : Prop where
  nd : x.2.Nodup
  ok : ∀ a ∈ x.2, 0 ≤ a ∧ a < n
  zero : (0 : Int) ∈ x.2
  fl : x.1.length = n
theorem missing {n : Nat} {ks : List Int} (hn : ks.Nodup) (hl : ks.length < n) : ∃ t : Int, (0 ≤ t ∧ t < n) ∧ t ∉ ks := by
  refine Classical.byContradiction fun h => ?_
  have h2 : ∀ x ∈ (List.range n).map Int.ofNat, x ∈ ks := fun x hx => by
    refine Classical.byContradiction fun h3 => h ⟨x, mem_tellers.mp hx, h3⟩
  have h3 := nodup_len (l := (List.range n).map Int.ofNat) ((tellers_rise n).imp fun h e => by omega) h2
  simp at h3
  omega
theorem find_leads {n : Nat} {spent : List Pr} {x : Fam × List Int} (g : GInv n spent x) (hl : x.2.length < n) (hr : ∀ t : Int, 1 ≤ t → t < n → Reach spent t 0) : ∃ k, spent.find? (leadsB x.2) = some k ∧ k ∈ spent ∧ k.1 ∈ x.2 ∧ k.2 ∉ x.2 := by
  obtain ⟨t, ⟨h1, h2⟩, h3⟩ := missing g.nd hl
  have ht : 1 ≤ t := by
    have : t ≠ 0 := fun e => h3 (e ▸ g.zero)
    omega
  obtain ⟨k, hk, hb⟩ := leads_exists (hr t ht h2) g.zero h3
  cases hf : spent.find? (leadsB x.2) with
  | none => exact absurd hb (by simpa using List.find?_eq_none.mp hf k hk)
  | some k' =>
    have h4 := List.find?_some hf
    have h5 := List.mem_of_find?_eq_some hf
    simp only [leadsB, Bool.and_eq_true, decide_eq_true_eq, Bool.not_eq_true', decide_eq_false_iff_not] at h4
    exact ⟨k', rfl, h5, h4.1, h4.2⟩
theorem grow_inv {n : Nat} {spent : List Pr} (so : SpOk n spent) (hn : 1 ≤ n) (hr : ∀ t : Int, 1 ≤ t → t < n → Reach spent t 0) : ∀ i, i + 1 ≤ n → GInv n spent (growI n spent i) ∧ (growI n spent i).2.length = i + 1
  | 0, _ => ⟨⟨by simp [growI], fun a ha => by rw [List.mem_singleton.mp ha]; omega, by simp [growI], by simp [growI]⟩, rfl⟩
  | i + 1, h => by
    obtain ⟨g, hl⟩ := grow_inv so hn hr i (by omega)
    obtain ⟨k, e, hk, h1, h2⟩ := find_leads g (by omega) hr
    have e2 : growI n spent (i + 1) = ((growI n spent i).1.set k.2.toNat (some k.1), (growI n spent i).2 ++ [k.2]) := by
      show growStep spent (growI n spent i) = _
      unfold growStep
      rw [e]
    rw [e2]
    refine ⟨⟨?_, fun a ha => ?_, List.mem_append_left _ g.zero, by rw [List.length_set]; exact g.fl⟩, by rw [List.length_append, hl]; rfl⟩
    · rw [List.nodup_append]
      exact ⟨g.nd, by simp, fun x hx y hy => by rw [List.mem_singleton.mp hy]; exact fun e => h2 (e ▸ hx)⟩
    · rcases List.mem_append.mp ha with h | h
      · exact g.ok a h
      · rw [List.mem_singleton.mp h]
        exact (so.ok k hk).2
end Hw

set_option maxHeartbeats 1000000

namespace Hw
open PySem L2 HwSort
structure SortedOf (cs hs : Cs) : Prop where
  pm : hs.Perm cs
  rise : (keysC hs).Pairwise ltP
theorem tri_inj {a b : Pr × Int} (h : tri a = tri b) : a = b := by
  obtain ⟨⟨a1, a2⟩, a3⟩ := a
  obtain ⟨⟨b1, b2⟩, b3⟩ := b
  simp only [tri, List.cons.injEq, and_true] at h
  obtain ⟨h1, h2, h3⟩ := h
  rw [h1, h2, h3]
noncomputable def unTri (l : List Int) : Pr × Int := ((l.getD 0 0, l.getD 1 0), l.getD 2 0)
theorem lex_key {a b : Pr × Int} (h : HT.lexLt (tri a) (tri b) = true) : ltP a.1 b.1 ∨ a.1 = b.1 := by
  unfold tri at h
  rw [HT.lexLt_cons] at h
  by_cases e1 : a.1.1 = b.1.1
  · rw [if_pos e1, HT.lexLt_cons] at h
    by_cases e2 : a.1.2 = b.1.2
    · exact .inr (Prod.ext e1 e2)
    · rw [if_neg e2] at h
      exact .inl (.inr ⟨e1, by simpa using h⟩)
  · rw [if_neg e1] at h
    exact .inl (.inl (by simpa using h))
theorem sorted_of {cs : Cs} (hn : (keysC cs).Nodup) {trip : List (List Int)} (pm : trip.Perm (cs.map tri)) (pw : trip.Pairwise fun x y => HT.lexLt x y = true) : ∃ hs, SortedOf cs hs ∧ trip = hs.map tri := by
  have e0 : (cs.map tri).map unTri = cs := by rw [List.map_map]; exact List.map_id _
  have hmap : (trip.map unTri).map tri = trip := by
    rw [List.map_map]
    have : ∀ x ∈ trip, (tri ∘ unTri) x = id x := fun x hx => by
      obtain ⟨e, _, rfl⟩ := List.mem_map.mp (pm.mem_iff.mp hx)
      rfl
    rw [List.map_congr_left this, List.map_id]
  have p1 : (trip.map unTri).Perm cs := by
    have := pm.map unTri
    rwa [e0] at this
  have nk : (keysC (trip.map unTri)).Nodup := ((p1.map (fun e : Pr × Int => e.1)).nodup_iff).mpr hn
  refine ⟨trip.map unTri, ⟨p1, ?_⟩, hmap.symm⟩
  have pw2 : (trip.map unTri).Pairwise fun a b => HT.lexLt (tri a) (tri b) = true := by
    rw [← hmap, List.pairwise_map] at pw
    exact pw
  unfold keysC at nk ⊢
  rw [List.pairwise_map]
  unfold List.Nodup at nk
  rw [List.pairwise_map] at nk
  exact (List.Pairwise.and pw2 nk).imp fun ⟨h1, h2⟩ => by
    rcases lex_key h1 with h | h
    · exact h
    · exact absurd h h2
theorem sorted_unique2 {cs a b : Cs} (ha : SortedOf cs a) (hb : SortedOf cs b) : a = b := by
  have h1 := trip_unique hb.rise (trip := a.map tri) ((ha.pm.trans hb.pm.symm).map tri) (by
    have p2 : ((keysC a).map two).Perm ((keysC a).map two) := .refl _
    have nd := rise_nd ha.rise
    have := tri_rise nd p2 (rise_two ha.rise)
    have e : ((keysC a).map two).map (triC a) = a.map tri := by
      unfold keysC
      rw [List.map_map, List.map_map]
      apply List.map_congr_left
      intro x hx
      exact triC_two a x.1 (look_mem nd hx)
    rwa [e] at this)
  exact (List.map_inj_right (fun _ _ h => tri_inj h)).mp h1
theorem sorted_self {cs : Cs} (h : (keysC cs).Pairwise ltP) : SortedOf cs cs := ⟨.refl _, h⟩
theorem HsOk.perm {n : Nat} {cs hs : Cs} (h : HsOk n cs) (p : hs.Perm cs) : HsOk n hs :=
  ⟨((p.map (fun e : Pr × Int => e.1)).nodup_iff).mpr h.nd, fun k hk => h.ok k (((p.map (fun e : Pr × Int => e.1)).mem_iff).mp hk), by rw [p.length_eq]; exact h.len, fun e he => h.nn e (p.mem_iff.mp he)⟩
theorem HsOk.filter {n : Nat} {cs : Cs} (h : HsOk n cs) (p : Pr × Int → Bool) : HsOk n (cs.filter p) :=
  ⟨h.nd.sublist (List.filter_sublist.map _), fun k hk => by
    obtain ⟨e, he, rfl⟩ := List.mem_map.mp hk
    exact h.ok e.1 (List.mem_map_of_mem (List.mem_filter.mp he).1), Nat.le_trans (List.length_filter_le _ _) h.len, fun e he => h.nn e (List.mem_filter.mp he).1⟩
open Classical in
noncomputable def pricedF (n : Nat) (hs : Cs) : PSt := if h : ∃ st, Priced n hs st then Classical.choose h else ⟨[], [], [], none⟩
theorem pricedF_eq {n : Nat} {hs : Cs} {st : PSt} (h : Priced n hs st) : pricedF n hs = st := by
  unfold pricedF
  have he : ∃ st, Priced n hs st := ⟨st, h⟩
  rw [dif_pos he]
  exact priced_unique (Classical.choose_spec he) h
noncomputable def worthS (st : PSt) : Option Int := match st.lonely with
  | some _ => none
  | none => some (st.prices.map (·.2)).sum
noncomputable def lwF (n : Nat) (hs : Cs) : Option Int := worthS (pricedF n hs)
structure BkOk (n : Nat) (cs : Cs) : Prop where
  hs : HsOk n cs
  few : cs.length < 64 ∨ (keysC cs).Pairwise ltP
inductive sp_hearS (C : Addr) (vs : List V) (H : Hp) (Q : VK) (E : XK) : Prop
  | mk (p d : Addr) (n : Nat) (cs : Cs) (h09 : vs = [.ref p]) (h19 : BookAt C H p d n cs) (h29 : BkOk n cs) (h39 : ∀ l rs hs H', Same H H' → H l = none → H' l = some (.lst rs) → TupRefs H' rs (hs.map tri) → SortedOf cs hs → HsOk n hs → Q (.ref l) H') : sp_hearS C vs H Q E
theorem hearS_of (C : Addr) : ∀ vs H Q E, sp_hearS C vs H Q E → sp_hearR C vs H Q E := by
  rintro vs H Q E ⟨p, d, n, cs, rfl, B, ok, k⟩
  refine ⟨p, d, n, cs, rfl, B, ok.hs.nd, by have := ok.hs.len; omega, ok.few, fun l rs trip H' sm h1 h2 tr pm pw => ?_⟩
  obtain ⟨hs, so, rfl⟩ := sorted_of ok.hs.nd pm pw
  exact k l rs hs H' sm h1 h2 tr so (ok.hs.perm so.pm)
theorem MetD.imp {P : Program} {w : World} {K : PySem.W.Frag} {mg : Str → Option Value} {base : Heap} {C : Addr} {k : Nat} {m : Str} {ps : List Str} {sp sp' : Sp} (D : MetD P w K mg base C k m ps sp) (h : ∀ vs H Q E, sp' vs H Q E → sp vs H Q E) : MetD P w K mg base C k m ps sp' :=
  let ⟨f, fd, F, r⟩ := D; ⟨f, fd, F.imp h, r⟩
theorem Def.imp {P : Program} {w : World} {K : PySem.W.Frag} {mg : Str → Option Value} {base : Heap} {k : Nat} {m : Str} {ps : List Str} {sp sp' : Sp} (D : Def P w K mg base k m ps sp) (h : ∀ vs H Q E, sp' vs H Q E → sp vs H Q E) : Def P w K mg base k m ps sp' :=
  let ⟨f, fd, F, r⟩ := D; ⟨f, fd, F.imp h, r⟩

theorem ended_reach {n : Nat} {st : PSt} (hn : 1 ≤ n) (h : cutF n st.spent = none) : ∀ t : Int, 1 ≤ t → t < n → Reach st.spent t 0 := by
  intro t h1 h2
  have h3 := firstMin_none h
  have hm : behindF n st.spent t ∈ groupsF n st.spent := by
    unfold groupsF
    refine List.mem_map.mpr ⟨(t - 1).toNat, List.mem_range.mpr (by omega), ?_⟩
    have : 1 + (((t - 1).toNat : Nat) : Int) = t := by omega
    simp only [this]
  have h4 : ¬ (!decide ((behindF n st.spent t).headD 0 = 0)) = true := fun z => by
    have : behindF n st.spent t ∈ (groupsF n st.spent).filter fun g => !decide (g.headD 0 = 0) := List.mem_filter.mpr ⟨hm, z⟩
    rw [h3] at this
    cases this
  have h5 : (behindF n st.spent t).headD 0 = 0 := by simpa using h4
  cases hb : behindF n st.spent t with
  | nil =>
    have : t ∈ behindF n st.spent t := mem_behind.mpr ⟨⟨by omega, h2⟩, .base⟩
    rw [hb] at this
    cases this
  | cons a r =>
    rw [hb] at h5
    have h6 : a = 0 := h5
    have : a ∈ behindF n st.spent t := by rw [hb]; exact List.mem_cons_self ..
    rw [h6] at this
    exact (mem_behind.mp this).2
theorem singles_inv {n : Nat} {cs : Cs} (ho : HsOk n cs) : ∀ i, i ≤ n - 1 → PI n (((singles n).take i).foldl chargeF ⟨cs, [], [], none⟩) ∧ (∀ k ∈ (((singles n).take i).foldl chargeF ⟨cs, [], [], none⟩).spent, k.2 < 1 + (i : Int)) ∧ (((singles n).take i).foldl chargeF ⟨cs, [], [], none⟩).prices.length ≤ i
  | 0, _ => ⟨⟨ho.nd, ho.ok, ho.len, ho.nn, List.nodup_nil, fun k hk => by cases hk⟩, (fun k hk => by cases hk), Nat.le_refl _⟩
  | i + 1, hi => by
    obtain ⟨h1, h2, h3⟩ := singles_inv ho i (by omega)
    have e : ((singles n).take (i + 1)).foldl chargeF ⟨cs, [], [], none⟩ = chargeF (((singles n).take i).foldl chargeF ⟨cs, [], [], none⟩) [1 + (i : Int)] := by
      rw [List.take_add_one]
      unfold singles
      rw [List.getElem?_map, List.getElem?_range (by omega)]
      show List.foldl chargeF _ (_ ++ [[1 + (i : Int)]]) = _
      rw [List.foldl_append]
      rfl
    rw [e]
    obtain ⟨e1, e2⟩ := singles_step (n := n) h2
    have := charge_prices (((singles n).take i).foldl chargeF ⟨cs, [], [], none⟩) [1 + (i : Int)]
    exact ⟨charge_PI h1 e1, e2, by omega⟩
theorem st1_inv {n : Nat} {cs : Cs} (ho : HsOk n cs) : PI n (st1 n cs) ∧ (st1 n cs).prices.length ≤ n := by
  obtain ⟨h1, _, h3⟩ := singles_inv ho (n - 1) (Nat.le_refl _)
  have e : (singles n).take (n - 1) = singles n := by
    have : (singles n).length = n - 1 := by simp [singles]
    rw [← this, List.take_length]
  rw [e] at h1 h3
  exact ⟨h1, Nat.le_trans h3 (Nat.sub_le _ _)⟩
theorem steps_inv {n : Nat} {cs : Cs} (ho : HsOk n cs) {st : PSt} (h : Steps n (st1 n cs) st) : PI n st ∧ st.prices.length ≤ n + st.spent.length := by
  induction h with
  | refl => exact ⟨(st1_inv ho).1, by have := (st1_inv ho).2; omega⟩
  | @tail b G _ h2 _ ih =>
    obtain ⟨pi, hp⟩ := ih
    refine ⟨charge_PI pi (cut_closed pi.so h2), ?_⟩
    by_cases he : entering b.rests G = []
    · have : chargeF b G = { b with lonely := some G } := by unfold chargeF; rw [if_pos he]
      rw [this]
      exact hp
    · have h1 := charge_more he
      have h2 := charge_prices b G
      omega
theorem steps_end {n : Nat} : ∀ (m : Nat) (st : PSt), PI n st → st.rests.length - st.spent.length ≤ m → ∃ st', Steps n st st' ∧ Ended n st' := by
  intro m
  induction m with
  | zero =>
    intro st pi hm
    cases hc : cutF n st.spent with
    | none => exact ⟨st, .refl _, .inl hc⟩
    | some G =>
      cases hl : st.lonely with
      | some g => exact ⟨st, .refl _, .inr (by rw [hl]; exact fun z => nomatch z)⟩
      | none =>
        have pi2 := charge_PI pi (cut_closed pi.so hc)
        by_cases he : entering st.rests G = []
        · exact ⟨_, .tail (.refl _) hc hl, .inr (by rw [charge_lonely, if_pos he]; exact fun z => nomatch z)⟩
        · have h1 := charge_more he
          have h2 := pi2.spl
          have h3 : (chargeF st G).rests.length = st.rests.length := by
            have := congrArg List.length (keys_charge st G)
            rwa [keys_len, keys_len] at this
          omega
  | succ m ih =>
    intro st pi hm
    cases hc : cutF n st.spent with
    | none => exact ⟨st, .refl _, .inl hc⟩
    | some G =>
      cases hl : st.lonely with
      | some g => exact ⟨st, .refl _, .inr (by rw [hl]; exact fun z => nomatch z)⟩
      | none =>
        have pi2 := charge_PI pi (cut_closed pi.so hc)
        by_cases he : entering st.rests G = []
        · exact ⟨_, .tail (.refl _) hc hl, .inr (by rw [charge_lonely, if_pos he]; exact fun z => nomatch z)⟩
        · have h1 := charge_more he
          have h3 : (chargeF st G).rests.length = st.rests.length := by
            have := congrArg List.length (keys_charge st G)
            rwa [keys_len, keys_len] at this
          have h4 := pi2.spl
          obtain ⟨st', s1, s2⟩ := ih (chargeF st G) pi2 (by omega)
          exact ⟨st', steps_trans (.tail (.refl _) hc hl) s1, s2⟩
theorem priced_exists {n : Nat} {cs : Cs} (ho : HsOk n cs) : ∃ st, Priced n cs st := by
  obtain ⟨st, h1, h2⟩ := steps_end _ (st1 n cs) (st1_inv ho).1 (Nat.le_refl _)
  exact ⟨st, h1, h2⟩
end Hw

set_option maxHeartbeats 1000000

namespace Hw
open PySem L2 HwSort
noncomputable abbrev hs2 (c : Int) : Cs := [((0, 1), c)]
noncomputable def st2 (c : Int) : PSt := ⟨[((0, 1), 0)], [(0, 1)], if c = 0 then [] else [([1], c)], none⟩
end Hw

set_option maxHeartbeats 1000000

namespace Hw
open PySem L2 HwSort
structure GoodG (n : Nat) (g : Grp) : Prop where
  ne : g ≠ []
  rise : g.Pairwise (· < ·)
  ok : ∀ a ∈ g, 1 ≤ a ∧ a < n
theorem good_single {n i : Nat} (h : i < n - 1) : GoodG n [1 + (i : Int)] := ⟨by simp, by simp, fun a ha => by rw [List.mem_singleton.mp ha]; omega⟩
theorem good_cut {n : Nat} {spent : List Pr} {G : Grp} (h : cutF n spent = some G) : GoodG n G := by
  obtain ⟨t, h1, h2, rfl, h3⟩ := cut_some h
  have ht : t ∈ behindF n spent t := mem_behind.mpr ⟨⟨by omega, h2⟩, .base⟩
  have hr := behind_rise n spent t
  refine ⟨(fun e => by rw [e] at ht; cases ht), hr, fun a ha => ?_⟩
  have ha0 := (mem_behind.mp ha).1
  refine ⟨?_, ha0.2⟩
  cases hb : behindF n spent t with
  | nil => rw [hb] at ha; cases ha
  | cons x r =>
    rw [hb] at h3 ha hr
    have hx : x ≠ 0 := h3
    have hx0 : 0 ≤ x := by
      have : x ∈ behindF n spent t := by rw [hb]; exact List.mem_cons_self ..
      exact (mem_behind.mp this).1.1
    rcases List.mem_cons.mp ha with rfl | ha
    · omega
    · have := (List.pairwise_cons.mp hr).1 a ha
      omega

noncomputable def LOk (n : Nat) (ks : List Pr) (o : Option Grp) : Prop := ∀ g, o = some g → GoodG n g ∧ ∀ k ∈ ks, entersB g k = false
theorem charge_LOk {n : Nat} {st : PSt} {G : Grp} (h : LOk n (keysC st.rests) st.lonely) (hG : GoodG n G) : LOk n (keysC (chargeF st G).rests) (chargeF st G).lonely := by
  intro g hg
  rw [keys_charge]
  rw [charge_lonely] at hg
  split at hg
  · next he =>
    cases hg
    refine ⟨hG, fun k hk => ?_⟩
    cases hb : entersB G k with
    | false => rfl
    | true =>
      have : k ∈ entering st.rests G := List.mem_filter.mpr ⟨hk, hb⟩
      rw [he] at this
      cases this
  · exact h g hg
theorem singles_LOk {n : Nat} {cs : Cs} : ∀ i, i ≤ n - 1 → LOk n (keysC (((singles n).take i).foldl chargeF ⟨cs, [], [], none⟩).rests) (((singles n).take i).foldl chargeF ⟨cs, [], [], none⟩).lonely
  | 0, _ => fun g hg => by cases hg
  | i + 1, hi => by
    have e : ((singles n).take (i + 1)).foldl chargeF ⟨cs, [], [], none⟩ = chargeF (((singles n).take i).foldl chargeF ⟨cs, [], [], none⟩) [1 + (i : Int)] := by
      rw [List.take_add_one]
      unfold singles
      rw [List.getElem?_map, List.getElem?_range (by omega)]
      show List.foldl chargeF _ (_ ++ [[1 + (i : Int)]]) = _
      rw [List.foldl_append]
      rfl
    rw [e]
    exact charge_LOk (singles_LOk i (by omega)) (good_single (by omega))
theorem st1_keys {n : Nat} {cs : Cs} : keysC (st1 n cs).rests = keysC cs := by
  unfold st1
  have : ∀ (L : List Grp) (st : PSt), keysC (L.foldl chargeF st).rests = keysC st.rests := by
    intro L
    induction L with
    | nil => intro st; rfl
    | cons g r ih => intro st; rw [List.foldl_cons, ih, keys_charge]
  rw [this]
theorem steps_LOk {n : Nat} {cs : Cs} {st : PSt} (h : Steps n (st1 n cs) st) : LOk n (keysC st.rests) st.lonely ∧ keysC st.rests = keysC cs := by
  induction h with
  | refl =>
    have h1 := singles_LOk (n := n) (cs := cs) (n - 1) (Nat.le_refl _)
    have e : (singles n).take (n - 1) = singles n := by
      have : (singles n).length = n - 1 := by simp [singles]
      rw [← this, List.take_length]
    rw [e] at h1
    exact ⟨h1, st1_keys⟩
  | tail _ h2 _ ih => exact ⟨charge_LOk ih.1 (good_cut h2), by rw [keys_charge]; exact ih.2⟩
theorem priced_lonely {n : Nat} {cs : Cs} {st : PSt} (pr : Priced n cs st) {g : Grp} (h : st.lonely = some g) : GoodG n g ∧ ∀ k ∈ keysC cs, entersB g k = false := by
  obtain ⟨h1, h2⟩ := steps_LOk pr.1
  have := h1 g h
  rwa [h2] at this
theorem priced_reach {n : Nat} {cs : Cs} {st : PSt} (hn : 1 ≤ n) (pr : Priced n cs st) (h : st.lonely = none) : ∀ t : Int, 1 ≤ t → t < n → Reach st.spent t 0 := by
  refine ended_reach hn ?_
  rcases pr.2 with h1 | h1
  · exact h1
  · exact absurd h h1
theorem lw_some {n : Nat} {hs : Cs} (ho : HsOk n hs) {c : Int} (h : lwF n hs = some c) : ∃ st, Priced n hs st ∧ st.lonely = none ∧ c = (st.prices.map (·.2)).sum := by
  obtain ⟨st, pr⟩ := priced_exists ho
  unfold lwF at h
  rw [pricedF_eq pr] at h
  unfold worthS at h
  cases hl : st.lonely with
  | some g => rw [hl] at h; cases h
  | none => rw [hl] at h; exact ⟨st, pr, hl, (Option.some.inj h).symm⟩
theorem lw_none {n : Nat} {hs : Cs} (ho : HsOk n hs) (h : lwF n hs = none) : ∃ st g, Priced n hs st ∧ st.lonely = some g := by
  obtain ⟨st, pr⟩ := priced_exists ho
  unfold lwF at h
  rw [pricedF_eq pr] at h
  unfold worthS at h
  cases hl : st.lonely with
  | some g => exact ⟨st, g, pr, hl⟩
  | none => rw [hl] at h; cases h
end Hw

set_option maxHeartbeats 1000000

namespace Hw
open PySem L2 HwSort
theorem RowsOk.bk {n : Nat} {cs : Cs} (r : RowsOk n cs) : BkOk n cs := ⟨⟨r.nd, r.ok, r.len, fun e he => (r.cost e he).1⟩, .inr r.rise⟩
end Hw

set_option maxHeartbeats 1000000

namespace Hw
open PySem L2 HwSort
noncomputable def kindOf (n : Nat) (hs : Cs) : Str := match (pricedF n hs).lonely with
  | none => "family"
  | some _ => "lonely"
mutual

theorem DRep.keepBut {H H' : Hp} {d : Addr} {kvs : List (List Key × V)} (kb : KeepBut d H H') (dc : H d = some (.dT kvs)) : ∀ {v : V} {x : PyData}, DRep H v x → DRep H' v x
  | _, _, .non => .non
  | _, _, .bl b => .bl b
  | _, _, .int i => .int i
  | _, _, .str x => .str x
  | _, _, .lst h t => .lst (kb _ _ h (ne_of h dc (fun z => nomatch z))) (DReps.keepBut kb dc t)
  | _, _, .tup h t => .tup (kb _ _ h (ne_of h dc (fun z => nomatch z))) (DReps.keepBut kb dc t)
theorem DReps.keepBut {H H' : Hp} {d : Addr} {kvs : List (List Key × V)} (kb : KeepBut d H H') (dc : H d = some (.dT kvs)) : ∀ {xs : List V} {ds : List PyData}, DReps H xs ds → DReps H' xs ds
  | _, _, .nil => .nil
  | _, _, .cons h t => .cons (DRep.keepBut kb dc h) (DReps.keepBut kb dc t)
end

theorem HsOk.put {n : Nat} {cs : Cs} (h : HsOk n cs) {k : Pr} {v : Int} (hk : Ok2 n k.1 k.2) (hv : 0 ≤ v) (hl : cs.length < 144) : HsOk n (putC cs k v) := by
  refine ⟨nodup_put k v h.nd, fun j hj => ?_, by have := len_put cs k v; omega, fun e he => ?_⟩
  · rcases mem_keys_put hj with rfl | hj
    · exact hk
    · exact h.ok j hj
  · unfold putC at he
    split at he
    · obtain ⟨x, hx, rfl⟩ := List.mem_map.mp he
      by_cases hxk : x.1 = k
      · rw [if_pos hxk]; exact hv
      · rw [if_neg hxk]; exact h.nn x hx
    · rcases List.mem_append.mp he with h1 | h1
      · exact h.nn e h1
      · rw [List.mem_singleton.mp h1]; exact hv
theorem HsOk.drop {n : Nat} {cs : Cs} (h : HsOk n cs) (k : Pr) : HsOk n (dropC cs k) := h.filter _
end Hw

set_option maxHeartbeats 1000000

namespace Hw
open PySem L2 HwSort
inductive Led (p : Int → Int) : Int → Prop
  | zero : Led p 0
  | step {t : Int} : Led p (p t) → Led p t
structure FamP (n : Nat) (cs : Cs) (p : Int → Int) : Prop where
  has : ∀ t : Int, 1 ≤ t → t < n → (p t, t) ∈ keysC cs
  led : ∀ t : Int, 1 ≤ t → t < n → Led p t
noncomputable def others (n : Nat) : List Int := (List.range (n - 1)).map fun (i : Nat) => 1 + (i : Int)
theorem mem_others {n : Nat} {t : Int} : t ∈ others n ↔ 1 ≤ t ∧ t < n := by
  unfold others
  rw [List.mem_map]
  constructor
  · rintro ⟨i, hi, rfl⟩
    have := List.mem_range.mp hi
    omega
  · rintro ⟨h1, h2⟩
    exact ⟨(t - 1).toNat, List.mem_range.mpr (by omega), by omega⟩
theorem others_nd (n : Nat) : (others n).Nodup := by
  unfold others
  rw [List.nodup_iff_pairwise_ne, List.pairwise_map]
  exact List.pairwise_lt_range.imp fun h => by omega
noncomputable def worthP (n : Nat) (cs : Cs) (p : Int → Int) : Int := ((others n).map fun t => costOf cs (p t, t)).sum

noncomputable def enterSum (ps : List (Grp × Int)) (k : Pr) : Int := ((ps.filter fun x => entersB x.1 k).map (·.2)).sum
theorem enterSum_nil (k : Pr) : enterSum [] k = 0 := rfl
theorem enterSum_cons (x : Grp × Int) (r : List (Grp × Int)) (k : Pr) : enterSum (x :: r) k = (if entersB x.1 k = true then x.2 else 0) + enterSum r k := by
  unfold enterSum
  rw [List.filter_cons]
  split
  · rw [List.map_cons, List.sum_cons]
  · rw [Int.zero_add]
theorem enterSum_snoc (ps : List (Grp × Int)) (x : Grp × Int) (k : Pr) : enterSum (ps ++ [x]) k = enterSum ps k + if entersB x.1 k = true then x.2 else 0 := by
  induction ps with
  | nil => rw [List.nil_append, enterSum_cons, enterSum_nil]; omega
  | cons a r ih => rw [List.cons_append, enterSum_cons, enterSum_cons, ih]; omega

structure OI (n : Nat) (cs : Cs) (st : PSt) : Prop where
  rest : ∀ k ∈ keysC cs, costOf st.rests k + enterSum st.prices k = costOf cs k
  nil : ∀ k ∈ st.spent, costOf st.rests k = 0
  pos : ∀ x ∈ st.prices, GoodG n x.1 ∧ 0 < x.2
  tied : ∀ x ∈ st.prices, ∃ pre post, st.spent = pre ++ post ∧ (∀ k ∈ pre, entersB x.1 k = false) ∧ ∀ c ∈ x.1, ∀ b ∈ x.1, Reach pre b c
  met : ∀ x ∈ st.prices, ∃ k ∈ st.spent, entersB x.1 k = true
  lam : st.prices.Pairwise fun x y => x.1 ≠ y.1 ∧ ((∀ a ∈ x.1, a ∈ y.1) ∨ ∀ a ∈ x.1, a ∉ y.1)
theorem costOf_lowered {rests : Cs} {ks : List Pr} {price : Int} {k : Pr} (h : k ∈ keysC rests) : costOf (lowered rests ks price) k = if k ∈ ks then costOf rests k - price else costOf rests k := by
  unfold costOf
  rw [look_lowered]
  cases e : lookC rests k with
  | none => exact absurd h (look_none e)
  | some c =>
    simp only [Option.map_some, Option.getD_some]
theorem reach_mono {a b : List Pr} (h : ∀ k ∈ a, k ∈ b) {t x : Int} (r : Reach a t x) : Reach b t x := by
  induction r with
  | base => exact .base
  | step h1 _ ih => exact .step (h _ h1) ih
theorem reach_closed {spent : List Pr} {g : Grp} (hc : ∀ k ∈ spent, entersB g k = false) {t x : Int} (r : Reach spent t x) (ht : t ∈ g) : x ∈ g := by
  induction r with
  | base => exact ht
  | @step a b h1 _ ih =>
    have := hc _ h1
    unfold entersB at this
    simp only [ih, decide_true, Bool.true_and, Bool.not_eq_false', decide_eq_true_eq] at this
    exact this
theorem charge_OI {n : Nat} {cs : Cs} {st : PSt} {g : Grp} (pi : PI n st) (hk : keysC st.rests = keysC cs) (x : OI n cs st) (hc : ∀ k ∈ st.spent, entersB g k = false) (hg : GoodG n g) (hr : ∀ c ∈ g, ∀ b ∈ g, Reach st.spent b c) : OI n cs (chargeF st g) := by
  by_cases he : entering st.rests g = []
  · have e : chargeF st g = { st with lonely := some g } := by unfold chargeF; rw [if_pos he]
    rw [e]
    exact ⟨x.rest, x.nil, x.pos, x.tied, x.met, x.lam⟩
  · have hent : ∀ k, k ∈ keysC cs → (k ∈ entering st.rests g ↔ entersB g k = true) := fun k hks => by
      unfold entering
      rw [hk, List.mem_filter]
      exact ⟨fun h => h.2, fun h => ⟨hks, h⟩⟩
    have hp0 : 0 ≤ priceOf st.rests g := by
      obtain ⟨k, h1, h2⟩ := price_at he
      rw [← h2]
      have h3 := entering_cost pi.nd h1
      exact pi.nn (k, costOf st.rests k) (look_some_mem h3)
    have e : chargeF st g = { rests := lowered st.rests (entering st.rests g) (priceOf st.rests g), spent := st.spent ++ (entering st.rests g).filter fun k => decide (costOf st.rests k = priceOf st.rests g), prices := if priceOf st.rests g = 0 then st.prices else st.prices ++ [(g, priceOf st.rests g)], lonely := st.lonely } := by unfold chargeF; rw [if_neg he]
    have hrest : ∀ k ∈ keysC cs, costOf (chargeF st g).rests k = if entersB g k = true then costOf st.rests k - priceOf st.rests g else costOf st.rests k := fun k hks => by
      rw [e]
      show costOf (lowered _ _ _) k = _
      rw [costOf_lowered (hk ▸ hks)]
      by_cases hb : entersB g k = true
      · rw [if_pos hb, if_pos ((hent k hks).mpr hb)]
      · rw [if_neg hb, if_neg fun z => hb ((hent k hks).mp z)]
    have hpr : (chargeF st g).prices = if priceOf st.rests g = 0 then st.prices else st.prices ++ [(g, priceOf st.rests g)] := by rw [e]
    have hsp : (chargeF st g).spent = st.spent ++ (entering st.rests g).filter fun k => decide (costOf st.rests k = priceOf st.rests g) := by rw [e]
    have hnew : ∃ k ∈ (chargeF st g).spent, entersB g k = true := by
      obtain ⟨k, h1, h2⟩ := price_at he
      exact ⟨k, by rw [hsp]; exact List.mem_append_right _ (List.mem_filter.mpr ⟨h1, by simpa using h2⟩), (List.mem_filter.mp h1).2⟩
    refine ⟨fun k hks => ?_, fun k hks => ?_, fun y hy => ?_, fun y hy => ?_, fun y hy => ?_, ?_⟩
    · rw [hrest k hks, hpr]
      have h0 := x.rest k hks
      by_cases hz : priceOf st.rests g = 0
      · rw [if_pos hz, hz]
        split <;> omega
      · rw [if_neg hz, enterSum_snoc]
        split <;> omega
    · rw [hsp] at hks
      rcases List.mem_append.mp hks with h | h
      · have h1 : k ∈ keysC cs := hk ▸ pi.ssub k h
        rw [hrest k h1, if_neg (by rw [hc k h]; exact Bool.false_ne_true)]
        exact x.nil k h
      · obtain ⟨h1, h2⟩ := List.mem_filter.mp h
        have h3 : k ∈ keysC cs := hk ▸ entering_mem h1
        rw [hrest k h3, if_pos ((hent k h3).mp h1)]
        have : costOf st.rests k = priceOf st.rests g := of_decide_eq_true h2
        omega
    · rw [hpr] at hy
      split at hy
      · exact x.pos y hy
      · rcases List.mem_append.mp hy with h | h
        · exact x.pos y h
        · rw [List.mem_singleton.mp h]
          exact ⟨hg, by show 0 < priceOf st.rests g; omega⟩
    · have old : ∀ y ∈ st.prices, ∃ pre post, (chargeF st g).spent = pre ++ post ∧ (∀ k ∈ pre, entersB y.1 k = false) ∧ ∀ c ∈ y.1, ∀ b ∈ y.1, Reach pre b c := fun y hy => by
        obtain ⟨pre, post, e1, e2, e3⟩ := x.tied y hy
        exact ⟨pre, post ++ (entering st.rests g).filter fun k => decide (costOf st.rests k = priceOf st.rests g), by rw [hsp, e1, List.append_assoc], e2, e3⟩
      rw [hpr] at hy
      split at hy
      · exact old y hy
      · rcases List.mem_append.mp hy with h | h
        · exact old y h
        · rw [List.mem_singleton.mp h]
          exact ⟨st.spent, _, hsp, hc, hr⟩
    · have old : ∀ y ∈ st.prices, ∃ k ∈ (chargeF st g).spent, entersB y.1 k = true := fun y hy => by
        obtain ⟨k, h1, h2⟩ := x.met y hy
        exact ⟨k, by rw [hsp]; exact List.mem_append_left _ h1, h2⟩
      rw [hpr] at hy
      split at hy
      · exact old y hy
      · rcases List.mem_append.mp hy with h | h
        · exact old y h
        · rw [List.mem_singleton.mp h]
          exact hnew
    · rw [hpr]
      split
      · exact x.lam
      · rw [List.pairwise_append]
        refine ⟨x.lam, List.pairwise_singleton _ _, fun y hy z hz => ?_⟩
        rw [List.mem_singleton.mp hz]
        obtain ⟨k, h1, h2⟩ := x.met y hy
        refine ⟨fun e => ?_, ?_⟩
        · have : entersB g k = false := hc k h1
          rw [show y.1 = g from e] at h2
          rw [h2] at this
          cases this
        · by_cases hm : ∃ a ∈ y.1, a ∈ g
          · obtain ⟨a, ha, hag⟩ := hm
            obtain ⟨pre, post, e1, _, e3⟩ := x.tied y hy
            left
            intro b hb
            refine reach_closed hc (reach_mono (fun k hk => ?_) (e3 b hb a ha)) hag
            rw [e1]
            exact List.mem_append_left _ hk
          · right
            exact fun a ha hag => hm ⟨a, ha, hag⟩
theorem cut_tied {n : Nat} {spent : List Pr} {G : Grp} (so : SpOk n spent) (h : cutF n spent = some G) : ∀ c ∈ G, ∀ b ∈ G, Reach spent b c := by
  intro c hc b hb
  have hg := good_cut h
  have hcl := cut_closed so h
  -- behind b stands all of G
  have hb0 := hg.ok b hb
  have sub : ∀ a ∈ behindF n spent b, a ∈ G := fun a ha => reach_closed hcl (mem_behind.mp ha).2 hb
  have hin : behindF n spent b ∈ (groupsF n spent).filter fun g => !decide (g.headD 0 = 0) := by
    refine List.mem_filter.mpr ⟨?_, ?_⟩
    · unfold groupsF
      refine List.mem_map.mpr ⟨(b - 1).toNat, List.mem_range.mpr (by omega), ?_⟩
      have : 1 + (((b - 1).toNat : Nat) : Int) = b := by omega
      simp only [this]
    · cases hbh : behindF n spent b with
      | nil =>
        have : b ∈ behindF n spent b := mem_behind.mpr ⟨⟨by omega, hb0.2⟩, .base⟩
        rw [hbh] at this
        cases this
      | cons a r =>
        have : a ∈ behindF n spent b := by rw [hbh]; exact List.mem_cons_self ..
        have := (hg.ok a (sub a this)).1
        have hne : ¬ a = 0 := by omega
        simp [hne]
  have hle := firstMin_le h _ hin
  have hnd : (behindF n spent b).Nodup := (behind_rise n spent b).imp fun h e => by omega
  have hGnd : G.Nodup := hg.rise.imp fun h e => by omega
  refine Classical.byContradiction fun hno => ?_
  have h1 : ∀ a ∈ behindF n spent b, a ∈ G.erase c := fun a ha => by
    have hne : a ≠ c := fun e => hno (e ▸ (mem_behind.mp ha).2)
    exact (List.mem_erase_of_ne hne).mpr (sub a ha)
  have h2 := nodup_len hnd h1
  rw [List.length_erase_of_mem hc] at h2
  have : 0 < G.length := List.length_pos_of_mem hc
  omega
theorem singles_OI {n : Nat} {cs : Cs} (ho : HsOk n cs) : ∀ i, i ≤ n - 1 → OI n cs (((singles n).take i).foldl chargeF ⟨cs, [], [], none⟩)
  | 0, _ => ⟨(fun k _ => by show costOf cs k + enterSum [] k = _; rw [enterSum_nil]; omega), (fun k hk => by cases hk), (fun k hk => by cases hk), (fun k hk => by cases hk), (fun k hk => by cases hk), .nil⟩
  | i + 1, hi => by
    have e : ((singles n).take (i + 1)).foldl chargeF ⟨cs, [], [], none⟩ = chargeF (((singles n).take i).foldl chargeF ⟨cs, [], [], none⟩) [1 + (i : Int)] := by
      rw [List.take_add_one]
      unfold singles
      rw [List.getElem?_map, List.getElem?_range (by omega)]
      show List.foldl chargeF _ (_ ++ [[1 + (i : Int)]]) = _
      rw [List.foldl_append]
      rfl
    rw [e]
    obtain ⟨h1, h2, _⟩ := singles_inv ho i (by omega)
    have hks : ∀ (L : List Grp) (st : PSt), keysC (L.foldl chargeF st).rests = keysC st.rests := by
      intro L
      induction L with
      | nil => intro st; rfl
      | cons a r ih => intro st; rw [List.foldl_cons, ih, keys_charge]
    refine charge_OI h1 (hks _ _) (singles_OI ho i (by omega)) (singles_step (n := n) h2).1 (good_single (by omega)) fun c hc b hb => ?_
    rw [List.mem_singleton.mp hc, List.mem_singleton.mp hb]
    exact .base
theorem st1_OI {n : Nat} {cs : Cs} (ho : HsOk n cs) : OI n cs (st1 n cs) := by
  have h1 := singles_OI ho (n - 1) (Nat.le_refl _)
  have e : (singles n).take (n - 1) = singles n := by
    have : (singles n).length = n - 1 := by simp [singles]
    rw [← this, List.take_length]
  rw [e] at h1
  exact h1
theorem steps_OI {n : Nat} {cs : Cs} (ho : HsOk n cs) {st : PSt} (h : Steps n (st1 n cs) st) : OI n cs st ∧ keysC st.rests = keysC cs := by
  induction h with
  | refl => exact ⟨st1_OI ho, st1_keys⟩
  | @tail b G h1 h2 _ ih =>
    have pi := (steps_inv ho h1).1
    exact ⟨charge_OI pi ih.2 ih.1 (cut_closed pi.so h2) (good_cut h2) (cut_tied pi.so h2), by rw [keys_charge]; exact ih.2⟩

theorem sum_add {α : Type} (l : List α) (f g : α → Int) : (l.map fun t => f t + g t).sum = (l.map f).sum + (l.map g).sum := by
  induction l with
  | nil => rfl
  | cons a r ih => simp only [List.map_cons, List.sum_cons]; rw [ih]; omega
theorem sum_if {α : Type} (l : List α) (q : α → Bool) (c : Int) : (l.map fun t => if q t = true then c else 0).sum = c * ((l.countP q : Nat) : Int) := by
  induction l with
  | nil => simp
  | cons a r ih =>
    simp only [List.map_cons, List.sum_cons, List.countP_cons]
    rw [ih]
    split
    · rw [Int.natCast_add, Int.mul_add]; simp; omega
    · simp
theorem sum_le {α : Type} (l : List α) (f g : α → Int) (h : ∀ t ∈ l, f t ≤ g t) : (l.map f).sum ≤ (l.map g).sum := by
  induction l with
  | nil => exact Int.le_refl _
  | cons a r ih =>
    simp only [List.map_cons, List.sum_cons]
    have := h a (List.mem_cons_self ..)
    have := ih fun t ht => h t (List.mem_cons_of_mem _ ht)
    omega
theorem sum_enters (l : List Int) (k : Int → Pr) : ∀ ps : List (Grp × Int), (l.map fun t => enterSum ps (k t)).sum = (ps.map fun x => x.2 * ((l.countP (fun t => entersB x.1 (k t)) : Nat) : Int)).sum
  | [] => by
    rw [List.map_nil, List.sum_nil]
    have : (fun t => enterSum [] (k t)) = fun _ : Int => (0 : Int) := rfl
    rw [this]
    induction l with
    | nil => rfl
    | cons a r ih => rw [List.map_cons, List.sum_cons, ih]; rfl
  | x :: r => by
    have e : (fun t => enterSum (x :: r) (k t)) = fun t => (if entersB x.1 (k t) = true then x.2 else 0) + enterSum r (k t) := by
      funext t
      exact enterSum_cons x r (k t)
    rw [e, sum_add, sum_if, sum_enters l k r, List.map_cons, List.sum_cons]

theorem led_enters {p : Int → Int} {g : Grp} {a : Int} (h : Led p a) (h0 : (0 : Int) ∉ g) (ha : a ∈ g) : ∃ t ∈ g, p t ∉ g := by
  induction h with
  | zero => exact absurd ha h0
  | @step t _ ih =>
    by_cases hp : p t ∈ g
    · exact ih hp
    · exact ⟨t, ha, hp⟩
theorem fam_enters {n : Nat} {cs : Cs} {p : Int → Int} (fp : FamP n cs p) {g : Grp} (hg : GoodG n g) : ∃ t ∈ others n, entersB g (p t, t) = true := by
  obtain ⟨a, ha⟩ : ∃ a, a ∈ g := by
    cases hgg : g with
    | nil => exact absurd hgg hg.ne
    | cons a r => exact ⟨a, List.mem_cons_self ..⟩
  obtain ⟨t, ht, hp⟩ := led_enters (fp.led a (hg.ok a ha).1 (hg.ok a ha).2) (fun z => by have := (hg.ok 0 z).1; omega) ha
  exact ⟨t, mem_others.mpr (hg.ok t ht), by simp [entersB, ht, hp]⟩
theorem OI.rest_nn {n : Nat} {cs : Cs} {st : PSt} (pi : PI n st) (hk : keysC st.rests = keysC cs) (x : OI n cs st) {k : Pr} (h : k ∈ keysC cs) : enterSum st.prices k ≤ costOf cs k := by
  have h1 := x.rest k h
  have h2 : 0 ≤ costOf st.rests k := by
    unfold costOf
    cases e : lookC st.rests k with
    | none => exact Int.le_refl _
    | some c => exact pi.nn _ (look_some_mem e)
  omega
noncomputable def total (st : PSt) : Int := (st.prices.map (·.2)).sum
theorem weak {n : Nat} {cs : Cs} {st : PSt} (pi : PI n st) (hk : keysC st.rests = keysC cs) (x : OI n cs st) {p : Int → Int} (fp : FamP n cs p) : total st ≤ worthP n cs p := by
  have h1 : ((others n).map fun t => enterSum st.prices (p t, t)).sum ≤ worthP n cs p := by
    refine sum_le _ _ _ fun t ht => ?_
    have := mem_others.mp ht
    exact x.rest_nn pi hk (fp.has t this.1 this.2)
  rw [sum_enters] at h1
  refine Int.le_trans (sum_le st.prices _ _ fun y hy => ?_) h1
  obtain ⟨hg, hp⟩ := x.pos y hy
  obtain ⟨t, ht, hb⟩ := fam_enters fp hg
  have : 0 < (others n).countP fun t => entersB y.1 (p t, t) := List.countP_pos_iff.mpr ⟨t, ht, hb⟩
  have h3 : y.2 * 1 ≤ y.2 * (((others n).countP (fun t => entersB y.1 (p t, t)) : Nat) : Int) := Int.mul_le_mul_of_nonneg_left (by omega) (by omega)
  omega
theorem count_le_one {l : List Int} (hn : l.Nodup) {q : Int → Bool} (h : ∀ a ∈ l, ∀ b ∈ l, q a = true → q b = true → a = b) : l.countP q ≤ 1 := by
  induction l with
  | nil => simp
  | cons a r ih =>
    obtain ⟨h1, h2⟩ := List.nodup_cons.mp hn
    rw [List.countP_cons]
    by_cases ha : q a = true
    · have : r.countP q = 0 := by
        rw [List.countP_eq_zero]
        intro b hb hq
        have := h a (List.mem_cons_self ..) b (List.mem_cons_of_mem _ hb) ha hq
        exact h1 (this ▸ hb)
      rw [this, if_pos ha]
      exact Nat.le_refl _
    · rw [if_neg ha]
      exact ih h2 fun x hx y hy => h x (List.mem_cons_of_mem _ hx) y (List.mem_cons_of_mem _ hy)

theorem strong {n : Nat} {cs : Cs} {st : PSt} (pi : PI n st) (hk : keysC st.rests = keysC cs) (x : OI n cs st) {p : Int → Int} (fp : FamP n cs p) (hs : ∀ t ∈ others n, (p t, t) ∈ st.spent)
    (once : ∀ y ∈ st.prices, ∀ a ∈ others n, ∀ b ∈ others n, entersB y.1 (p a, a) = true → entersB y.1 (p b, b) = true → a = b) : worthP n cs p = total st := by
  refine Int.le_antisymm ?_ (weak pi hk x fp)
  have h1 : worthP n cs p ≤ ((others n).map fun t => enterSum st.prices (p t, t)).sum := by
    refine sum_le _ _ _ fun t ht => ?_
    have := mem_others.mp ht
    have h1 := x.rest _ (fp.has t this.1 this.2)
    have h2 := x.nil _ (hs t ht)
    omega
  rw [sum_enters] at h1
  refine Int.le_trans h1 (sum_le st.prices _ _ fun y hy => ?_)
  obtain ⟨hg, hp⟩ := x.pos y hy
  have : (others n).countP (fun t => entersB y.1 (p t, t)) ≤ 1 := count_le_one (others_nd n) (once y hy)
  have h3 : y.2 * (((others n).countP (fun t => entersB y.1 (p t, t)) : Nat) : Int) ≤ y.2 * 1 := Int.mul_le_mul_of_nonneg_left (by omega) (by omega)
  omega

noncomputable def parF (f : Fam) (t : Int) : Int := (f.getD t.toNat none).getD 0
theorem led_congr {p p' : Int → Int} {ks : List Int} (h : ∀ t ∈ ks, t ≠ 0 → p t ∈ ks ∧ p' t = p t) {t : Int} (l : Led p t) (ht : t ∈ ks) : Led p' t := by
  induction l with
  | zero => exact .zero
  | @step t _ ih =>
    by_cases h0 : t = 0
    · rw [h0]; exact .zero
    · obtain ⟨h1, h2⟩ := h t ht h0
      have := ih h1
      rw [← h2] at this
      exact .step this
structure GP (n : Nat) (spent : List Pr) (x : Fam × List Int) : Prop where
  sp : ∀ t ∈ x.2, t ≠ 0 → (parF x.1 t, t) ∈ spent ∧ parF x.1 t ∈ x.2 ∧ x.1.getD t.toNat none ≠ none
  led : ∀ t ∈ x.2, Led (parF x.1) t
  hd : x.1.getD 0 none = none
  once : ∀ g : Grp, (∃ pre post, spent = pre ++ post ∧ (∀ k ∈ pre, entersB g k = false) ∧ ∀ c ∈ g, ∀ b ∈ g, Reach pre b c) → ∀ a ∈ x.2, ∀ b ∈ x.2, a ≠ 0 → b ≠ 0 → entersB g (parF x.1 a, a) = true → entersB g (parF x.1 b, b) = true → a = b
theorem parF_set {f : Fam} {i : Nat} {v : Int} {t : Int} (h : t.toNat ≠ i) : parF (f.set i (some v)) t = parF f t ∧ (f.set i (some v)).getD t.toNat none = f.getD t.toNat none := by
  have : (f.set i (some v)).getD t.toNat none = f.getD t.toNat none := by
    simp [List.getD, List.getElem?_set, Ne.symm h]
  exact ⟨by unfold parF; rw [this], this⟩
theorem parF_at {f : Fam} {v : Int} {t : Int} (h : t.toNat < f.length) : parF (f.set t.toNat (some v)) t = v ∧ (f.set t.toNat (some v)).getD t.toNat none = some v := by
  have : (f.set t.toNat (some v)).getD t.toNat none = some v := by
    simp [List.getD, List.getElem?_set, h]
  exact ⟨by unfold parF; rw [this]; rfl, this⟩
theorem enters_in {g : Grp} {k : Pr} (h : entersB g k = true) : k.2 ∈ g ∧ k.1 ∉ g := by
  unfold entersB at h
  simpa using h
theorem grow_GP {n : Nat} {spent : List Pr} (so : SpOk n spent) (hn : 1 ≤ n) (hr : ∀ t : Int, 1 ≤ t → t < n → Reach spent t 0) : ∀ i, i + 1 ≤ n → GP n spent (growI n spent i)
  | 0, _ => by
    refine ⟨fun t ht h0 => absurd (List.mem_singleton.mp ht) h0, fun t ht => ?_, ?_, fun g _ a ha b hb h0 => absurd (List.mem_singleton.mp ha) h0⟩
    · rw [List.mem_singleton.mp ht]; exact .zero
    · show (List.replicate n none).getD 0 none = none
      cases n with
      | zero => rfl
      | succ m => rfl
  | i + 1, h => by
    obtain ⟨g, hl⟩ := grow_inv so hn hr i (by omega)
    have G := grow_GP so hn hr i (by omega)
    obtain ⟨k, e, hk, h1, h2⟩ := find_leads g (by omega) hr
    have e2 : growI n spent (i + 1) = ((growI n spent i).1.set k.2.toNat (some k.1), (growI n spent i).2 ++ [k.2]) := by
      show growStep spent (growI n spent i) = _
      unfold growStep
      rw [e]
    rw [e2]
    generalize growI n spent i = x at *
    obtain ⟨f, ks⟩ := x
    have hk2 := (so.ok k hk).2
    have hk0 : k.2 ≠ 0 := fun z => h2 (z ▸ g.zero)
    have hlt : k.2.toNat < f.length := by have : f.length = n := g.fl; omega
    have pold : ∀ t ∈ ks, parF (f.set k.2.toNat (some k.1)) t = parF f t ∧ (f.set k.2.toNat (some k.1)).getD t.toNat none = f.getD t.toNat none := fun t ht => by
      refine parF_set fun z => ?_
      have := (g.ok t ht).1
      have e3 : t = k.2 := by omega
      exact h2 (e3 ▸ ht)
    have pnew := parF_at (f := f) (v := k.1) hlt
    refine ⟨fun t ht h0 => ?_, fun t ht => ?_, ?_, fun gr hgr a ha b hb ha0 hb0 h3 h4 => ?_⟩
    · rcases List.mem_append.mp ht with ht | ht
      · obtain ⟨a1, a2, a3⟩ := G.sp t ht h0
        show (parF (f.set _ _) t, t) ∈ spent ∧ parF (f.set _ _) t ∈ ks ++ [k.2] ∧ (f.set _ _).getD t.toNat none ≠ none
        rw [(pold t ht).1, (pold t ht).2]
        exact ⟨a1, List.mem_append_left _ a2, a3⟩
      · rw [List.mem_singleton.mp ht]
        show (parF (f.set _ _) k.2, k.2) ∈ spent ∧ parF (f.set _ _) k.2 ∈ ks ++ [k.2] ∧ (f.set _ _).getD k.2.toNat none ≠ none
        rw [pnew.1, pnew.2]
        exact ⟨hk, List.mem_append_left _ h1, fun z => nomatch z⟩
    · have old : ∀ t ∈ ks, Led (parF (f.set k.2.toNat (some k.1))) t := fun t ht => led_congr (fun s hs hs0 => ⟨(G.sp s hs hs0).2.1, (pold s hs).1⟩) (G.led t ht) ht
      rcases List.mem_append.mp ht with ht | ht
      · exact old t ht
      · rw [List.mem_singleton.mp ht]
        refine .step ?_
        show Led (parF (f.set k.2.toNat (some k.1))) (parF (f.set k.2.toNat (some k.1)) k.2)
        rw [pnew.1]
        exact old k.1 h1
    · have h5 := (pold 0 g.zero).2
      exact h5.trans G.hd
    · -- a group is not entered again
      have key : ∀ a ∈ ks, a ≠ 0 → entersB gr (parF f a, a) = true → entersB gr k = true → False := fun a ha _ h3 h4 => by
        obtain ⟨pre, post, e1, e3, e4⟩ := hgr
        have ha' := (enters_in h3).1
        have hb' := (enters_in h4).1
        obtain ⟨k', hk', hb2⟩ := leads_exists (e4 a ha' k.2 hb') ha h2
        have hfind : ∃ k0, pre.find? (leadsB ks) = some k0 := by
          cases hf : pre.find? (leadsB ks) with
          | none => exact absurd hb2 (by simpa using List.find?_eq_none.mp hf k' hk')
          | some k0 => exact ⟨k0, rfl⟩
        obtain ⟨k0, hf⟩ := hfind
        have e5 : spent.find? (leadsB ks) = some k0 := by rw [e1, List.find?_append, hf]; rfl
        have e6 : k0 = k := by
          have : spent.find? (leadsB ks) = some k := e
          rw [this] at e5
          exact (Option.some.inj e5).symm
        have := e3 k (e6 ▸ List.mem_of_find?_eq_some hf)
        rw [h4] at this
        cases this
      rcases List.mem_append.mp ha with ha | ha <;> rcases List.mem_append.mp hb with hb | hb
      · have h3' : entersB gr (parF f a, a) = true := by rw [← (pold a ha).1]; exact h3
        have h4' : entersB gr (parF f b, b) = true := by rw [← (pold b hb).1]; exact h4
        exact G.once gr hgr a ha b hb ha0 hb0 h3' h4'
      · have h3' : entersB gr (parF f a, a) = true := by rw [← (pold a ha).1]; exact h3
        have eb := List.mem_singleton.mp hb
        have h4' : entersB gr k = true := by
          have : (parF (f.set k.2.toNat (some k.1)) b, b) = k := by rw [eb, pnew.1]
          rw [← this]; exact h4
        exact (key a ha ha0 h3' h4').elim
      · have h4' : entersB gr (parF f b, b) = true := by rw [← (pold b hb).1]; exact h4
        have ea := List.mem_singleton.mp ha
        have h3' : entersB gr k = true := by
          have : (parF (f.set k.2.toNat (some k.1)) a, a) = k := by rw [ea, pnew.1]
          rw [← this]; exact h3
        exact (key b hb hb0 h4' h3').elim
      · rw [List.mem_singleton.mp ha, List.mem_singleton.mp hb]

structure IsFam (n : Nat) (cs : Cs) (f : Fam) : Prop where
  len : f.length = n
  hd : f.getD 0 none = none
  full : ∀ t : Int, 1 ≤ t → t < n → f.getD t.toNat none ≠ none
  fp : FamP n cs (parF f)
theorem grow_all {n : Nat} {spent : List Pr} (so : SpOk n spent) (hn : 1 ≤ n) (hr : ∀ t : Int, 1 ≤ t → t < n → Reach spent t 0) : ∀ t : Int, 0 ≤ t → t < n → t ∈ (growI n spent (n - 1)).2 := by
  intro t h1 h2
  obtain ⟨g, hl⟩ := grow_inv so hn hr (n - 1) (by omega)
  refine Classical.byContradiction fun hno => ?_
  have h3 : ∀ x ∈ (growI n spent (n - 1)).2, x ∈ ((List.range n).map Int.ofNat).erase t := fun x hx => by
    have hne : x ≠ t := fun e => hno (e ▸ hx)
    exact (List.mem_erase_of_ne hne).mpr (mem_tellers.mpr (g.ok x hx))
  have h4 := nodup_len g.nd h3
  rw [List.length_erase_of_mem (mem_tellers.mpr ⟨h1, h2⟩), hl] at h4
  simp at h4
  omega

theorem grown_fam {n : Nat} {cs : Cs} {st : PSt} (hn : 1 ≤ n) (ho : HsOk n cs) (pr : Priced n cs st) (h : st.lonely = none) : IsFam n cs (growF n st.spent) ∧ worthP n cs (parF (growF n st.spent)) = total st := by
  have pi := (steps_inv ho pr.1).1
  obtain ⟨oi, hk⟩ := steps_OI ho pr.1
  have hr := priced_reach hn pr h
  have G := grow_GP pi.so hn hr (n - 1) (by omega)
  have al := grow_all pi.so hn hr
  have GI := (grow_inv pi.so hn hr (n - 1) (by omega)).1
  have fp : FamP n cs (parF (growF n st.spent)) := by
    refine ⟨fun t h1 h2 => ?_, fun t h1 h2 => G.led t (al t (by omega) h2)⟩
    exact hk ▸ pi.ssub _ (G.sp t (al t (by omega) h2) (by omega)).1
  refine ⟨⟨GI.fl, G.hd, fun t h1 h2 => (G.sp t (al t (by omega) h2) (by omega)).2.2, fp⟩, ?_⟩
  refine strong pi hk oi fp (fun t ht => ?_) fun y hy a ha b hb h3 h4 => ?_
  · have := mem_others.mp ht
    exact (G.sp t (al t (by omega) this.2) (by omega)).1
  · have h5 := mem_others.mp ha
    have h6 := mem_others.mp hb
    exact G.once y.1 (oi.tied y hy) a (al a (by omega) h5.2) b (al b (by omega) h6.2) (by omega) (by omega) h3 h4

theorem lonely_none {n : Nat} {cs : Cs} {st : PSt} (pr : Priced n cs st) {g : Grp} (h : st.lonely = some g) {p : Int → Int} (fp : FamP n cs p) : False := by
  obtain ⟨hg, hk⟩ := priced_lonely pr h
  obtain ⟨t, ht, hb⟩ := fam_enters fp hg
  have := mem_others.mp ht
  rw [hk _ (fp.has t this.1 this.2)] at hb
  cases hb
structure IsLeast (n : Nat) (cs : Cs) (c : Int) : Prop where
  at' : ∃ f, IsFam n cs f ∧ worthP n cs (parF f) = c
  le : ∀ p, FamP n cs p → c ≤ worthP n cs p
theorem lw_least {n : Nat} {cs : Cs} (hn : 1 ≤ n) (ho : HsOk n cs) {c : Int} (h : lwF n cs = some c) : IsLeast n cs c := by
  obtain ⟨st, pr, h1, rfl⟩ := lw_some ho h
  obtain ⟨f1, f2⟩ := grown_fam hn ho pr h1
  have pi := (steps_inv ho pr.1).1
  obtain ⟨oi, hk⟩ := steps_OI ho pr.1
  exact ⟨⟨_, f1, f2⟩, fun p fp => weak pi hk oi fp⟩
theorem lw_no {n : Nat} {cs : Cs} (ho : HsOk n cs) (h : lwF n cs = none) {p : Int → Int} (fp : FamP n cs p) : False := by
  obtain ⟨st, g, pr, hg⟩ := lw_none ho h
  exact lonely_none pr hg fp
theorem lw_none_iff {n : Nat} {cs : Cs} (hn : 1 ≤ n) (ho : HsOk n cs) : lwF n cs = none ↔ ∀ p, ¬ FamP n cs p := by
  constructor
  · exact fun h p fp => lw_no ho h fp
  · intro h
    cases e : lwF n cs with
    | none => rfl
    | some d =>
      obtain ⟨f, h1, _⟩ := (lw_least hn ho e).at'
      exact absurd h1.fp (h _)
end Hw

set_option maxHeartbeats 1000000

namespace Hw
open PySem L2 HwSort
theorem w_is {b : Bool} {A B : Prop} (hb : b = true) (h : A) : if b = true then A else B := by rw [if_pos hb]; exact h
theorem w_isnt {b : Bool} {A B : Prop} (hb : b = false) (h : B) : if b = true then A else B := by rw [if_neg (by rw [hb]; exact Bool.false_ne_true)]; exact h
structure FamShape (n : Nat) (cs : Cs) (f : Fam) : Prop where
  len : f.length = n
  hd : f.getD 0 none = none
  full : ∀ t : Int, 1 ≤ t → t < n → f.getD t.toNat none ≠ none
  has : ∀ t : Int, 1 ≤ t → t < n → (parF f t, t) ∈ keysC cs
theorem IsFam.shape {n : Nat} {cs : Cs} {f : Fam} (h : IsFam n cs f) : FamShape n cs f := ⟨h.len, h.hd, h.full, h.fp.has⟩
theorem FamShape.at {n : Nat} {cs : Cs} {f : Fam} (h : FamShape n cs f) {t : Int} (h1 : 1 ≤ t) (h2 : t < n) : (f.map optV)[t.toNat]? = some (V.int (parF f t)) := by
  have hl : t.toNat < f.length := by have := h.len; omega
  have h3 := h.full t h1 h2
  have h4 : f.getD t.toNat none = f[t.toNat] := by simp [List.getD, hl]
  rw [List.getElem?_map, List.getElem?_eq_getElem hl]
  have h5 : parF f t = (f[t.toNat]).getD 0 := by unfold parF; rw [h4]
  rw [h4] at h3
  rw [h5]
  cases e : f[t.toNat] with
  | none => exact absurd e h3
  | some v => rfl
theorem FamShape.at0 {n : Nat} {cs : Cs} {f : Fam} (h : FamShape n cs f) (hn : 1 ≤ n) : (f.map optV)[0]? = some V.non := by
  have hl : 0 < f.length := by have := h.len; omega
  have h4 : f.getD 0 none = f[0] := by simp [List.getD, hl]
  rw [List.getElem?_map, List.getElem?_eq_getElem hl]
  rw [← h4, h.hd]
  rfl
open Classical in
noncomputable def ledB (n : Nat) (f : Fam) : Bool := decide (∀ t : Int, 1 ≤ t → t < n → Led (parF f) t)
theorem IsFam.ledB {n : Nat} {cs : Cs} {f : Fam} (h : IsFam n cs f) : ledB n f = true := by unfold Hw.ledB; exact @decide_eq_true _ (Classical.propDecidable _) h.fp.led
theorem put_take {cs : Cs} (nd : (keysC cs).Nodup) {i : Nat} {e : Pr × Int} (he : cs[i]? = some e) : cs.take (i + 1) = putC (cs.take i) (e.1.1, e.1.2) e.2 := by
  have hil : i < cs.length := (List.getElem?_eq_some_iff.mp he).1
  rw [put_new]
  · rw [List.take_add_one, he]
    rfl
  · intro hk
    obtain ⟨e', he', e2⟩ := List.mem_map.mp hk
    obtain ⟨j, hj, e3⟩ := List.mem_iff_getElem.mp he'
    rw [List.length_take] at hj
    rw [List.getElem_take] at e3
    have h1 : (keysC cs)[j]? = some e.1 := by
      unfold keysC
      rw [List.getElem?_map, List.getElem?_eq_getElem (by omega), e3]
      exact congrArg some e2
    have h2 : (keysC cs)[i]? = some e.1 := by
      unfold keysC
      rw [List.getElem?_map, he]
      rfl
    have := (List.getElem?_inj (by rw [keys_len]; omega) nd).mp (h1.trans h2.symm)
    omega
theorem tri_get {H : Hp} {rs : List V} {cs : Cs} (tr : TupRefs H rs (cs.map tri)) {i : Nat} {x : V} (hx : rs[i]? = some x) : ∃ b e, x = .ref b ∧ cs[i]? = some e ∧ H b = some (.tup [.int e.1.1, .int e.1.2, .int e.2]) := by
  obtain ⟨b, ks, rfl, hks, hb⟩ := tr.get hx
  rw [List.getElem?_map] at hks
  cases he : cs[i]? with
  | none => rw [he] at hks; cases hks
  | some e =>
    rw [he] at hks
    obtain rfl := Option.some.inj hks
    exact ⟨b, e, rfl, rfl, hb⟩

theorem RowsOk.filter {many : Int} {cs : Cs} (r : RowsOk many cs) (p : Pr × Int → Bool) : RowsOk many (cs.filter p) := by
  have sub : (keysC (cs.filter p)).Sublist (keysC cs) := List.filter_sublist.map _
  exact ⟨r.rise.sublist sub, fun k hk => r.ok k (sub.subset hk), fun e he => r.cost e (List.mem_filter.mp he).1, Nat.le_trans (List.length_filter_le ..) r.len⟩

theorem keys_few {n : Nat} {cs : Cs} (nd : (keysC cs).Nodup) (ok : ∀ k ∈ keysC cs, Ok2 n k.1 k.2) : cs.length ≤ n * n := by
  have h := nodup_len nd (m := ((List.range n).map Int.ofNat).flatMap fun a => ((List.range n).map Int.ofNat).map fun b => (a, b)) fun k hk => by
    obtain ⟨h1, h2, h3, h4, _, _⟩ := ok k hk
    refine List.mem_flatMap.mpr ⟨k.1, mem_tellers.mpr ⟨h1, h2⟩, List.mem_map.mpr ⟨k.2, mem_tellers.mpr ⟨h3, h4⟩, rfl⟩⟩
  rw [keys_len] at h
  refine Nat.le_trans h (Nat.le_of_eq ?_)
  rw [List.length_flatMap]
  simp
  rw [show ((fun _ : Int => n) ∘ Int.ofNat) = fun _ => n from rfl, List.map_const']
  simp
end Hw

set_option maxHeartbeats 1000000

namespace Hw
open PySem L2 HwSort
theorem fam_congr {n : Nat} {hs : Cs} (ok : ∀ k ∈ keysC hs, Ok2 n k.1 k.2) {p q : Int → Int} (h : ∀ t : Int, 1 ≤ t → t < n → q t = p t) (fp : FamP n hs p) : FamP n hs q := by
  refine ⟨fun t h1 h2 => by rw [h t h1 h2]; exact fp.has t h1 h2, fun t h1 h2 => ?_⟩
  refine led_congr (ks := (List.range n).map Int.ofNat) (fun s hs0 hs1 => ?_) (fp.led t h1 h2) (mem_tellers.mpr ⟨by omega, h2⟩)
  have := mem_tellers.mp hs0
  have h3 := ok _ (fp.has s (by omega) this.2)
  exact ⟨mem_tellers.mpr ⟨h3.1, h3.2.1⟩, h s (by omega) this.2⟩
noncomputable def lexLe (n : Nat) (f q : Int → Int) : Prop := (∀ t : Int, 1 ≤ t → t < n → q t = f t) ∨ ∃ t : Int, 1 ≤ t ∧ t < n ∧ f t < q t ∧ ∀ s : Int, 1 ≤ s → s < t → q s = f s
structure SI (n : Nat) (hs hi : Cs) (goal : Int) (i : Nat) (f : Int → Int) : Prop where
  sub : ∀ e ∈ hi, e ∈ hs
  lw : lwF n hi = some goal
  fam : ∀ p, FamP n hi p ↔ FamP n hs p ∧ ∀ t : Int, 1 ≤ t → t < 1 + (i : Int) → p t = f t
  one : ∀ k ∈ keysC hi, k.2 < 1 + (i : Int) → k.1 = f k.2
  lex : ∀ q, FamP n hs q → worthP n hs q = goal → (∀ t : Int, 1 ≤ t → t < 1 + (i : Int) → q t = f t) ∨ ∃ t : Int, 1 ≤ t ∧ t < 1 + (i : Int) ∧ f t < q t ∧ ∀ s : Int, 1 ≤ s → s < t → q s = f s
  rise : (keysC hi).Pairwise ltP
  ok : HsOk n hi
structure FirstFam (n : Nat) (hs : Cs) (goal : Int) (F : Fam) : Prop where
  fam : IsFam n hs F
  worth : worthP n hs (parF F) = goal
  least : ∀ q, FamP n hs q → goal ≤ worthP n hs q
  lex : ∀ q, FamP n hs q → worthP n hs q = goal → lexLe n (parF F) q
end Hw

set_option maxHeartbeats 1000000

namespace Hw
open PySem L2 HwSort
noncomputable def without (cs : Cs) (k : Pr) : Cs := cs.filter fun e => !decide (e.1 = k)
end Hw

set_option maxHeartbeats 1000000

namespace L2
open PySem PySem.Spec PyProof.Rows

theorem ixN_nat {n : Nat} {i : Int} (h1 : i.toNat < n) (h0 : 0 ≤ i) : ixN n i = some i.toNat := by
  unfold ixN
  rw [if_pos h0, if_pos (by omega)]
end L2

set_option maxHeartbeats 1000000

namespace Hw
open PySem L2 HwSort
structure TreeF (n : Nat) (f : Fam) : Prop where
  len : f.length = n
  hd : f.getD 0 none = none
  full : ∀ t : Int, 1 ≤ t → t < n → f.getD t.toNat none ≠ none
  val : ∀ t : Int, 1 ≤ t → t < n → (0 ≤ parF f t ∧ parF f t < n) ∧ parF f t ≠ t
  led : ∀ t : Int, 1 ≤ t → t < n → Led (parF f) t
structure TInv (n i : Nat) (L Th : List Int) (f : Fam) : Prop where
  lnd : L.Nodup
  cover : ∀ t : Int, 0 ≤ t → t < n → t ∈ L ∨ t ∈ Th
  lok : ∀ t ∈ L, (1 ≤ t ∧ t < n) ∧ t ∉ Th
  tok : ∀ t ∈ Th, 0 ≤ t ∧ t < n
  zero : (0 : Int) ∈ Th
  flen : f.length = n
  hd : f.getD 0 none = none
  has : ∀ t ∈ Th, t ≠ 0 → f.getD t.toNat none ≠ none ∧ parF f t ∈ Th ∧ parF f t ≠ t
  led : ∀ t ∈ Th, Led (parF f) t
  ll : L.length + i + 1 = n
  tl : Th.length = i + 1
theorem TreeF.at {n : Nat} {f : Fam} (h : TreeF n f) {t : Int} (h1 : 1 ≤ t) (h2 : t < n) : (f.map optV)[t.toNat]? = some (V.int (parF f t)) := by
  have hl : t.toNat < f.length := by have := h.len; omega
  have h3 := h.full t h1 h2
  have h4 : f.getD t.toNat none = f[t.toNat] := by simp [List.getD, hl]
  rw [List.getElem?_map, List.getElem?_eq_getElem hl]
  have h5 : parF f t = (f[t.toNat]).getD 0 := by unfold parF; rw [h4]
  rw [h4] at h3
  rw [h5]
  cases e : f[t.toNat] with
  | none => exact absurd e h3
  | some v => rfl
theorem TreeF.fam {n : Nat} {f : Fam} (h : TreeF n f) {cs : Cs} (hk : ∀ t : Int, 1 ≤ t → t < n → (parF f t, t) ∈ keysC cs) : IsFam n cs f := ⟨h.len, h.hd, h.full, ⟨hk, h.led⟩⟩
theorem keys_few2 {n : Nat} {cs : Cs} (nd : (keysC cs).Nodup) (ok : ∀ k ∈ keysC cs, Ok2 n k.1 k.2) : cs.length ≤ n * (n - 1) := by
  have h := nodup_len nd (m := ((List.range n).map Int.ofNat).flatMap fun a => (others n).map fun b => (a, b)) fun k hk => by
    obtain ⟨h1, h2, h3, h4, _, h6⟩ := ok k hk
    refine List.mem_flatMap.mpr ⟨k.1, mem_tellers.mpr ⟨h1, h2⟩, List.mem_map.mpr ⟨k.2, mem_others.mpr ⟨by omega, h4⟩, rfl⟩⟩
  rw [keys_len] at h
  refine Nat.le_trans h (Nat.le_of_eq ?_)
  have hol : (others n).length = n - 1 := by simp [others]
  rw [List.length_flatMap]
  simp only [List.length_map, hol]
  rw [List.map_map, show ((fun _ : Int => n - 1) ∘ Int.ofNat) = fun _ => n - 1 from rfl, List.map_const']
  simp

structure MadeI (n i : Nat) (cs ms : Cs) (f : Fam) : Prop where
  nd : (keysC ms).Nodup
  ok : ∀ k ∈ keysC ms, Ok2 n k.1 k.2
  cost : ∀ e ∈ ms, 0 ≤ e.2 ∧ e.2 ≤ 1000000
  new : ∀ k ∈ keysC ms, k ∈ keysC cs ∨ k.2 < 1 + (i : Int)
  sub : ∀ k ∈ keysC cs, k ∈ keysC ms
  has : ∀ t : Int, 1 ≤ t → t < 1 + (i : Int) → (parF f t, t) ∈ keysC ms
end Hw

set_option maxHeartbeats 1000000

namespace Hw
open PySem L2 HwSort
noncomputable def hearersOf (cs : Cs) (t : Int) : List Int := (cs.filter fun e => decide (e.1.2 = t)).map (·.1.1)
theorem mem_hearers {cs : Cs} {t a : Int} : a ∈ hearersOf cs t ↔ (a, t) ∈ keysC cs := by
  unfold hearersOf keysC
  constructor
  · intro h
    obtain ⟨e, he, rfl⟩ := List.mem_map.mp h
    obtain ⟨h1, h2⟩ := List.mem_filter.mp he
    exact List.mem_map.mpr ⟨e, h1, Prod.ext rfl (of_decide_eq_true h2)⟩
  · intro h
    obtain ⟨e, he, h2⟩ := List.mem_map.mp h
    exact List.mem_map.mpr ⟨e, List.mem_filter.mpr ⟨he, decide_eq_true (by rw [h2])⟩, by rw [h2]⟩
noncomputable def buildF (cs : Cs) : Nat → List Fam
  | 0 => [[none]]
  | k + 1 => (buildF cs k).flatMap fun f => (hearersOf cs (1 + (k : Int))).map fun a => f ++ [some a]
theorem mem_build {cs : Cs} : ∀ {k : Nat} {f : Fam}, f ∈ buildF cs k ↔ FamShape (k + 1) cs f
  | 0, f => by
    constructor
    · intro h
      rw [show f = [none] from List.mem_singleton.mp h]
      exact ⟨rfl, rfl, fun t h1 h2 => by omega, fun t h1 h2 => by omega⟩
    · intro h
      refine List.mem_singleton.mpr ?_
      obtain ⟨a, rfl⟩ := len_one h.len
      have := h.hd
      simp at this
      rw [this]
  | k + 1, f => by
    show f ∈ (buildF cs k).flatMap _ ↔ _
    rw [List.mem_flatMap]
    constructor
    · rintro ⟨g, hg, hf⟩
      obtain ⟨a, ha, rfl⟩ := List.mem_map.mp hf
      have sg := mem_build.mp hg
      have hl := sg.len
      have old : ∀ t : Int, 0 ≤ t → t < k + 1 → (g ++ [some a]).getD t.toNat none = g.getD t.toNat none := fun t h1 h2 => by
        rw [List.getD_eq_getElem?_getD, List.getD_eq_getElem?_getD, List.getElem?_append_left (by omega)]
      have new : (g ++ [some a]).getD (k + 1) none = some a := by
        rw [List.getD_eq_getElem?_getD, List.getElem?_append_right (by omega), hl, Nat.sub_self]
        rfl
      refine ⟨by rw [List.length_append, hl]; rfl, ?_, fun t h1 h2 => ?_, fun t h1 h2 => ?_⟩
      · have := old 0 (by omega) (by omega)
        exact this.trans sg.hd
      · by_cases ht : t = 1 + (k : Int)
        · rw [ht, show (1 + (k : Int)).toNat = k + 1 by omega, new]
          exact fun z => nomatch z
        · rw [old t (by omega) (by omega)]
          exact sg.full t h1 (by omega)
      · by_cases ht : t = 1 + (k : Int)
        · unfold parF
          rw [ht, show (1 + (k : Int)).toNat = k + 1 by omega, new]
          exact mem_hearers.mp ha
        · unfold parF
          rw [old t (by omega) (by omega)]
          exact sg.has t h1 (by omega)
    · intro sf
      have hl := sf.len
      have hd : f.dropLast.length = k + 1 := by rw [List.length_dropLast]; omega
      obtain ⟨v, hv⟩ : ∃ v, f.getD (k + 1) none = some v := by
        have := sf.full (1 + (k : Int)) (by omega) (by omega)
        rw [show (1 + (k : Int)).toNat = k + 1 by omega] at this
        cases h : f.getD (k + 1) none with
        | none => exact absurd h this
        | some v => exact ⟨v, rfl⟩
      have fe : f = f.dropLast ++ [some v] := by
        have hne : f ≠ [] := fun z => by rw [z] at hl; cases hl
        have h1 := (List.dropLast_concat_getLast hne).symm
        have h2 : f.getLast hne = some v := by
          rw [List.getLast_eq_getElem]
          have h3 : f.length - 1 = k + 1 := by omega
          have h4 : f.getD (k + 1) none = f[k + 1]'(by omega) := by simp [List.getD, show k + 1 < f.length by omega]
          simp only [h3]
          rw [← h4]
          exact hv
        rw [h2] at h1
        exact h1
      have old : ∀ t : Int, 0 ≤ t → t < k + 1 → f.dropLast.getD t.toNat none = f.getD t.toNat none := fun t h1 h2 => by
        conv => rhs; rw [fe]
        rw [List.getD_eq_getElem?_getD, List.getD_eq_getElem?_getD, List.getElem?_append_left (by omega)]
      refine ⟨f.dropLast, mem_build.mpr ⟨hd, ?_, fun t h1 h2 => ?_, fun t h1 h2 => ?_⟩, List.mem_map.mpr ⟨v, mem_hearers.mpr ?_, fe.symm⟩⟩
      · exact (old 0 (by omega) (by omega)).trans sf.hd
      · rw [old t (by omega) (by omega)]
        exact sf.full t h1 (by omega)
      · unfold parF
        rw [old t (by omega) (by omega)]
        exact sf.has t h1 (by omega)
      · have := sf.has (1 + (k : Int)) (by omega) (by omega)
        unfold parF at this
        rw [show (1 + (k : Int)).toNat = k + 1 by omega, hv] at this
        exact this

noncomputable def allF (n : Nat) (cs : Cs) : List Fam := (buildF cs (n - 1)).filter fun f => ledB n f
theorem mem_all {n : Nat} {cs : Cs} (hn : 1 ≤ n) {f : Fam} : f ∈ allF n cs ↔ IsFam n cs f := by
  unfold allF
  rw [List.mem_filter, mem_build, show n - 1 + 1 = n by omega]
  constructor
  · rintro ⟨sh, hl⟩
    refine ⟨sh.len, sh.hd, sh.full, ⟨sh.has, ?_⟩⟩
    unfold ledB at hl
    exact @of_decide_eq_true _ (Classical.propDecidable _) hl
  · intro h
    exact ⟨h.shape, h.ledB⟩

theorem fam_list {n : Nat} {cs : Cs} (hn : 1 ≤ n) (ok : ∀ k ∈ keysC cs, Ok2 n k.1 k.2) {p : Int → Int} (fp : FamP n cs p) : ∃ f, IsFam n cs f ∧ ∀ t : Int, 1 ≤ t → t < n → parF f t = p t := by
  have hat : ∀ t : Int, 1 ≤ t → t < n → ((none :: (others n).map fun t => some (p t)) : Fam).getD t.toNat none = some (p t) := fun t h1 h2 => by
    obtain ⟨i, hi⟩ : ∃ i : Nat, t = 1 + (i : Int) := ⟨(t - 1).toNat, by omega⟩
    subst hi
    rw [show (1 + (i : Int)).toNat = i + 1 by omega, List.getD_cons_succ, List.getD_eq_getElem?_getD, List.getElem?_map]
    unfold others
    rw [List.getElem?_map, List.getElem?_range (by omega)]
    rfl
  have hp : ∀ t : Int, 1 ≤ t → t < n → parF (none :: (others n).map fun t => some (p t)) t = p t := fun t h1 h2 => by
    unfold parF
    rw [hat t h1 h2]
    rfl
  refine ⟨none :: (others n).map fun t => some (p t), ⟨?_, rfl, fun t h1 h2 => ?_, fam_congr ok hp fp⟩, hp⟩
  · rw [List.length_cons, List.length_map]
    have : (others n).length = n - 1 := by simp [others]
    omega
  · rw [hat t h1 h2]
    exact fun z => nomatch z
theorem all_nil {n : Nat} {cs : Cs} (hn : 1 ≤ n) (ho : HsOk n cs) : allF n cs = [] ↔ lwF n cs = none := by
  rw [lw_none_iff hn ho]
  constructor
  · intro h p fp
    obtain ⟨f, hf, _⟩ := fam_list hn ho.ok fp
    have := (mem_all hn).mpr hf
    rw [h] at this
    cases this
  · intro h
    refine List.eq_nil_iff_forall_not_mem.mpr fun f hf => ?_
    exact h _ ((mem_all hn).mp hf).fp

noncomputable def FamRefs (N : Addr → Prop) (H : Hp) : List V → List Fam → Prop := Paired fun y f => ∃ b, y = V.ref b ∧ H b = some (.lst (f.map optV)) ∧ N b
theorem FamRefs.length {N : Addr → Prop} {H : Hp} {vs : List V} {fs : List Fam} (x : FamRefs N H vs fs) : vs.length = fs.length := Paired.length x
theorem FamRefs.same {N : Addr → Prop} {H H' : Hp} {vs : List V} {fs : List Fam} (x : FamRefs N H vs fs) (k : Same H H') : FamRefs N H' vs fs := Paired.mapP x fun _ _ h => by obtain ⟨b, e, h1, h2⟩ := h; exact ⟨b, e, k _ _ h1, h2⟩
theorem FamRefs.imp {N N' : Addr → Prop} {H : Hp} {vs : List V} {fs : List Fam} (x : FamRefs N H vs fs) (k : ∀ b f, H b = some (.lst f) → N b → N' b) : FamRefs N' H vs fs := Paired.mapP x fun _ _ h => by obtain ⟨b, e, h1, h2⟩ := h; exact ⟨b, e, h1, k _ _ h1 h2⟩
theorem FamRefs.upd {N : Addr → Prop} {H : Hp} {p : Addr} {o : HO} {vs : List V} {fs : List Fam} (x : FamRefs N H vs fs) (k : ∀ b, N b → b ≠ p) : FamRefs N (L2.upd H p o) vs fs := Paired.mapP x fun _ _ h => by obtain ⟨b, e, h1, h2⟩ := h; exact ⟨b, e, (upd_ne (k b h2)).trans h1, h2⟩
theorem FamRefs.snoc {N : Addr → Prop} {H : Hp} {vs : List V} {fs : List Fam} (x : FamRefs N H vs fs) {b : Addr} {f : Fam} (h : H b = some (.lst (f.map optV))) (hN : N b) : FamRefs N H (vs ++ [.ref b]) (fs ++ [f]) := paired_snoc x ⟨b, rfl, h, hN⟩
theorem FamRefs.get {N : Addr → Prop} {H : Hp} {vs : List V} {fs : List Fam} (x : FamRefs N H vs fs) {i : Nat} {y : V} (hy : vs[i]? = some y) : ∃ b f, y = .ref b ∧ fs[i]? = some f ∧ H b = some (.lst (f.map optV)) ∧ N b := by
  unfold FamRefs at x
  induction x generalizing i with
  | nil => simp at hy
  | cons h t ih =>
    cases i with
    | zero =>
      obtain ⟨b, e, h1, h2⟩ := h
      rw [List.getElem?_cons_zero] at hy
      exact ⟨b, _, (Option.some.inj hy).symm.trans e, rfl, h1, h2⟩
    | succ i => exact ih hy
theorem len5D {α : Type} {l : List α} (h : l.length = 5) : ∃ a b c d e, l = [a, b, c, d, e] := by
  match l, h with
  | [a, b, c, d, e], _ => exact ⟨a, b, c, d, e, rfl⟩
end Hw

set_option maxHeartbeats 1000000

namespace L2
open PySem PySem.Spec PyProof.Rows
noncomputable def rJoin (K : PySem.W.Frag) : V → List V → Hp → VK → Prop := fun x xs H Q => ∃ (y : Str) (p : Addr) (ys : List Str), x = .str y ∧ xs = [.ref p] ∧ SqL K H p (ys.map V.str) ∧ (ys.map (·.length)).sum + ys.length * y.length ≤ 16777216 ∧ Q (.str (Str.join y ys)) H
theorem strs_of : ∀ {ys : List Str} {its : List Value}, Vals (ys.map V.str) its → StrsAre its ys
  | [], _, h => by cases h; exact .nil
  | y :: r, _, h => by
    cases h with
    | cons a b =>
      obtain ⟨t, rfl⟩ := a
      exact .cons y t (strs_of b)
theorem mt_join {X : Cx} : MtR X "str.join" (rJoin X.K) := by
  intro pins s σ H x xs v us Q I rx rv h
  obtain ⟨y, p, ys, rfl, rfl, hp, hz, q⟩ := h
  obtain ⟨t, rfl⟩ := rx
  obtain ⟨u, rfl, ru⟩ := vals1 rv
  cases ru
  obtain ⟨its, r', pl, _⟩ := I.list hp
  refine PyProof.Rows.join_list pl.isList (strs_of r') hz fun t' k => ⟨.str _, H, I.tok k, ⟨_, rfl⟩, ?_⟩
  rw [show Txt.join y ys = Str.join y ys from StrLaws.glued_eq_join y ys]
  exact q
end L2
namespace Hw
open PySem L2 HwSort
theorem small_log {i : Int} (h0 : 0 ≤ i) (h1 : i ≤ 1000000) : i.natAbs.log2 < 1920 := by
  by_cases hz : i.natAbs = 0
  · rw [hz]; decide
  · refine (Nat.log2_lt hz).mpr (Nat.lt_of_lt_of_le (show i.natAbs < 2 ^ 20 by omega) (Nat.pow_le_pow_right (by decide) (by decide)))
theorem num_len {i : Int} (h0 : 0 ≤ i) (h1 : i ≤ 1000000) : (Str.ofString (toString i)).length ≤ 7 := PyProof.Rows.toString_length_le h0 (by decide) (by omega)
noncomputable def lineS (e : Pr × Int) : Str := Str.ofString (toString e.1.1) ++ " to " ++ Str.ofString (toString e.1.2) ++ " costs " ++ Str.ofString (toString e.2)
noncomputable def headS (n : Int) : Str := "tellers " ++ Str.ofString (toString n)
noncomputable def textS (n : Int) (cs : Cs) : Str := cs.foldl (fun t e => t ++ "\n" ++ lineS e) (headS n)
theorem join_fold (sep : Str) : ∀ (ls : List Str) (x : Str), Str.join sep (x :: ls) = ls.foldl (fun t l => t ++ sep ++ l) x
  | [], x => rfl
  | y :: r, x => by
    show x ++ sep ++ Str.join sep (y :: r) = _
    rw [← StrLaws.join_shift, join_fold sep r]
    rfl
theorem text_join (n : Int) (cs : Cs) : Str.join "\n" (headS n :: cs.map lineS) = textS n cs := by
  rw [join_fold, List.foldl_map]
  rfl
noncomputable def RowIn (e : Pr × Int) : Prop := (0 ≤ e.1.1 ∧ e.1.1 ≤ 1000000) ∧ (0 ≤ e.1.2 ∧ e.1.2 ≤ 1000000) ∧ (0 ≤ e.2 ∧ e.2 ≤ 1000000)
theorem rowIn_of {n : Nat} {cs : Cs} (hn : n ≤ 12) (R : RowsOk n cs) : ∀ e ∈ cs, RowIn e := fun e he => by
  obtain ⟨h1, h2, h3, h4, _, _⟩ := R.ok e.1 (List.mem_map_of_mem he)
  have := R.cost e he
  exact ⟨⟨h1, by omega⟩, ⟨h3, by omega⟩, this⟩
theorem line_len {e : Pr × Int} (h : RowIn e) : (lineS e).length ≤ 32 := by
  obtain ⟨⟨a1, a2⟩, ⟨b1, b2⟩, ⟨c1, c2⟩⟩ := h
  have h1 := num_len a1 a2
  have h2 := num_len b1 b2
  have h3 := num_len c1 c2
  have h4 : (" to " : Str).length = 4 := by decide +kernel
  have h5 : (" costs " : Str).length = 7 := by decide +kernel
  unfold lineS
  simp only [Str.length_append]
  omega
theorem head_len {n : Int} (h0 : 0 ≤ n) (h1 : n ≤ 1000000) : (headS n).length ≤ 15 := by
  have h2 := num_len h0 h1
  have h3 : ("tellers " : Str).length = 8 := by decide +kernel
  unfold headS
  rw [Str.length_append]
  omega
theorem text_snoc (n : Int) (cs : Cs) (e : Pr × Int) : textS n (cs ++ [e]) = textS n cs ++ "\n" ++ lineS e := by
  unfold textS
  rw [List.foldl_append]
  rfl
theorem text_len {n : Int} (h0 : 0 ≤ n) (h1 : n ≤ 1000000) : ∀ (m : Nat) (cs : Cs), cs.length = m → (∀ e ∈ cs, RowIn e) → (textS n cs).length ≤ 15 + 33 * m
  | 0, cs, hm, _ => by
    have : cs = [] := List.eq_nil_of_length_eq_zero hm
    subst this
    exact head_len h0 h1
  | m + 1, cs, hm, hr => by
    have hne : cs ≠ [] := fun e => by rw [e] at hm; cases hm
    obtain ⟨e0, he0⟩ : ∃ e0, cs = cs.dropLast ++ [e0] := ⟨_, (List.dropLast_concat_getLast hne).symm⟩
    have ih := text_len h0 h1 m cs.dropLast (by rw [List.length_dropLast]; omega) fun e he => hr e (List.dropLast_sublist cs |>.subset he)
    have hl := line_len (hr e0 (by rw [he0]; simp))
    have h3 : ("\n" : Str).length = 1 := by decide +kernel
    rw [he0, text_snoc, Str.length_append, Str.length_append]
    omega

inductive sp_shown (C : Addr) (vs : List V) (H : Hp) (Q : VK) (E : XK) : Prop
  | mk (p d : Addr) (n : Nat) (cs : Cs) (h09 : vs = [.ref p]) (h19 : BookAt C H p d n cs) (h29 : BkOk n cs) (h39 : n ≤ 12) (h49 : (∀ e ∈ cs, RowIn e)) (h59 : ∀ hs H', Same H H' → SortedOf cs hs → Q (.str (textS n hs)) H') : sp_shown C vs H Q E
inductive sp_text (vs : List V) (H : Hp) (Q : VK) (E : XK) : Prop
  | mk (l : Addr) (rs : List V) (cs : Cs) (n : Nat) (h09 : vs = [.int n, .ref l]) (h19 : H l = some (.lst rs)) (h29 : TupRefs H rs (cs.map tri)) (h39 : n ≤ 12) (h49 : cs.length ≤ 144) (h59 : (∀ e ∈ cs, RowIn e)) (h69 : Q (.str (textS n cs)) H) : sp_text vs H Q E
theorem TupRefs.erase {H : Hp} : ∀ {bs : List V} {kss : List (List Int)} (j : Nat), TupRefs H bs kss → TupRefs H (bs.eraseIdx j) (kss.eraseIdx j)
  | _, _, _, .nil => .nil
  | _, _, 0, .cons _ t => t
  | _, _, j + 1, .cons h t => .cons h (TupRefs.erase j t)
theorem cut_tail (xs : List V) (j : Nat) : cutV xs (some ((j : Int) + 1)) none = xs.drop (j + 1) := by
  unfold cutV
  rw [show ((j : Int) + 1) = ((j + 1 : Nat) : Int) by omega, HT.sIx_nat, HT.sIx_none]
  by_cases h : j + 1 ≤ xs.length
  · rw [Nat.min_eq_left h, List.take_of_length_le (by rw [List.length_drop]; omega)]
  · rw [Nat.min_eq_right (by omega), Nat.sub_self, List.take_zero, List.drop_eq_nil_of_le (by omega)]
theorem RowsOk.erase {many : Int} {cs : Cs} (r : RowsOk many cs) (j : Nat) : RowsOk many (cs.eraseIdx j) := by
  have sub : (cs.eraseIdx j).Sublist cs := List.eraseIdx_sublist cs j
  have sub2 : (keysC (cs.eraseIdx j)).Sublist (keysC cs) := sub.map _
  exact ⟨r.rise.sublist sub2, fun k hk => r.ok k (sub2.subset hk), fun e he => r.cost e (sub.subset he), Nat.le_trans sub.length_le r.len⟩
end Hw

set_option maxHeartbeats 1000000

namespace L2
open PySem PySem.Spec PyProof.Rows

noncomputable def Its (y : Str) : It := ⟨fun i _ => i < y.cps.size, fun i H x H' => H' = H ∧ ∃ c, y.cps[i]? = some c ∧ x = .str ⟨#[c]⟩, fun i _ => y.cps.size ≤ i⟩
theorem turn_str {P : Program} {w : World} {K : PySem.W.Frag} {tg : Expr} (y : Str) (t : Tok) (it : Addr) : Turn P w K tg (Its y) [it] it (fun i h => h.IsStrIter it "str_ascii_iterator" y t i) where
  mem := List.mem_singleton.mpr rfl
  obj := fun i h st b hb => by
    obtain rfl : b = it := List.mem_singleton.mp hb
    obtain ⟨o, eo, co, dd⟩ := st
    exact ⟨o, eo, fun v z => by rw [dd] at z; cases z⟩
  keep := fun i h h' st k => by
    obtain ⟨o, ho, r⟩ := st
    exact ⟨o, k it (List.mem_singleton.mpr rfl) o ho, r⟩
  item := by
    intro X hP hw hK hc i pins s σ H E I hf st hg
    subst hP hw hK
    have hlt : i < y.cps.size := hg
    obtain ⟨a0, a1, _, a3, a4, a5⟩ := hf it (List.mem_singleton.mpr rfl)
    refine wpAny_pyNext_ascii_item st (c := y.cps[i]) (by simp [hlt]) fun h' st' sb => ?_
    have I1 : Inv X pins σ H { s with heap := h', toks := s.toks + 1 } := I.turned (fun b o hb eo => (sb.2 b hb).trans eo) a0 a1 a3 a4 a5
    obtain ⟨o, eo, co, dd⟩ := id st'
    exact ⟨_, rfl, go_of (s := { s with heap := h', toks := s.toks + 1 }) eo co dd (by decide) ⟨.str ⟨#[y.cps[i]]⟩, H, I1, ⟨_, rfl⟩, ⟨rfl, _, by simp [hlt], rfl⟩, st', fun b hb => (hf b hb).1⟩⟩
  done := by
    intro X hP hw hK hc i pins s σ H E I hf st hg
    subst hP hw hK
    have hge : y.cps.size ≤ i := hg
    obtain ⟨a0, a1, _, a3, a4, a5⟩ := hf it (List.mem_singleton.mpr rfl)
    exact wpAny_pyNext_ascii_end (I.ok.hd hc) st (by simp [hge]) fun h' eb => ⟨rfl, I.turned (t' := s.toks) (fun b o hb eo => eb b o hb eo) a0 a1 a3 a4 a5⟩
  self := fun _ _ _ _ _ st h => wpAny_pyIter_striter_ascii st h
noncomputable def iStr (te : TE) : TI := fun σ H R => te σ H fun x H1 => ∃ y, x = .str y ∧ y.cps.all (· < 128) = true ∧ R (Its y) H1
section
variable {X : Cx} {tg : Expr}
theorem pi_str {l : Expr} {tl : TE} (hl : PE X l tl) : PI X tg l (iStr tl) := by
  intro pins s σ H R I h
  refine thn (hl pins s σ H _ I h) fun v s1 hh9 => ?_
  obtain ⟨x, H1, I1, r1, y, ey, ha, q⟩ := hh9
  subst ey
  obtain ⟨t, rfl⟩ := r1
  refine wpAny_pyIter_ascii ha ?_
  refine ⟨s1.heap.objs.size, [s1.heap.objs.size], _, Its y, H1, rfl, I1.kept (t' := s1.toks) fun b o eo => Heap.get?_push_of_some _ eo, turn_str y t _, ⟨_, Heap.get?_push_size _ rfl, rfl, rfl⟩, fun b hb => ?_, q⟩
  obtain rfl : b = s1.heap.objs.size := List.mem_singleton.mp hb
  exact I1.fpOk (Nat.le_refl _) (I1.hok.fresh (Nat.le_refl _))
end
section
variable {n0 : Nat} {g : Cz → TG} {tt : Cz → TT} {te : Cz → TE} {σ : St} {Q : VK} {H1 : Hp}
theorem w_istr {t : TE} {H : Hp} {R : It → Hp → Prop} (h : t σ H fun x H1 => ∃ y, x = .str y ∧ y.cps.all (· < 128) = true ∧ R (Its y) H1) : iStr t σ H R := h
theorem comp_str {y : Str} (Pv : Addr → Nat → St → Hp → Prop) (h0 : ∀ p, H1 p = none → Pv p 0 (σ ++ List.replicate n0 none) (upd H1 p (.lst [])))
    (hs : ∀ p z i c σ H, H1 p = none → y.cps[i]? = some c → Pv p i σ H → g z (.str ⟨#[c]⟩) σ H fun σ3 H3 => tt z σ3 H3 fun b H4 =>
      if b = true then te z σ3 H4 fun v H5 => ∃ ys, H5 p = some (.lst ys) ∧ ys.length < sizeLine ∧ Pv p (i + 1) σ3 (upd H5 p (.lst (ys ++ [v]))) else Pv p (i + 1) σ3 H4)
    (hd : ∀ p σ H, H1 p = none → Pv p y.cps.size σ H → Q (.ref p) H) : CompR n0 g tt te σ Q (Its y) H1 := by
  intro p hp
  refine ⟨fun i m σ H => m = y.cps.size - i ∧ i ≤ y.cps.size ∧ Pv p i σ H, ⟨y.cps.size, rfl, Nat.zero_le _, h0 p hp⟩, ?_⟩
  rintro z i m σ2 H ⟨rfl, hi, pv⟩
  by_cases hlt : i < y.cps.size
  · refine .inr ⟨hlt, Pv p (i + 1), fun σ' H' p' => ⟨y.cps.size - (i + 1), by omega, rfl, hlt, p'⟩, fun x H' yl => ?_⟩
    obtain ⟨e1, c, hc, e2⟩ := yl
    subst e1 e2
    exact hs p z i c σ2 _ hp hc pv
  · obtain rfl : i = y.cps.size := by omega
    exact .inl ⟨Nat.le_refl _, hd p σ2 H hp pv⟩
end

theorem vals_strs : ∀ l : List (Str × Tok), Vals ((l.map (·.1)).map V.str) (strValues l)
  | [] => .nil
  | p :: r => .cons ⟨p.2, rfl⟩ (vals_strs r)
noncomputable def rSplit : V → List V → Hp → VK → Prop := fun x xs H Q => ∃ y z : Str, x = .str y ∧ xs = [.str z] ∧ (z.length == 0) = false ∧ y.length + 2 ≤ sizeLine ∧ ∀ p, H p = none → Q (.ref p) (upd H p (.lst ((Txt.split y z).map V.str)))
open Builtin.Str in
theorem mt_split {X : Cx} : MtR X "str.split" rSplit := by
  intro pins s σ H x xs v us Q I rx rv h
  obtain ⟨y, z, rfl, rfl, hz, hsz, q⟩ := h
  obtain ⟨t, rfl⟩ := rx
  obtain ⟨u0, rfl, ru⟩ := vals1 rv
  obtain ⟨u, rfl⟩ := ru
  have fin : ∀ (l : List (Str × Tok)) (k : Nat), l.map (·.1) = Txt.split y z → EP X pins σ Q (.ref s.heap.objs.size) { s with heap := s.heap.push { cls := .type "list", data := .seq (strValues l).toArray }, toks := k } := fun l k el => by
    have hv := vals_strs l
    rw [el] at hv
    have hl : (Txt.split y z).length ≤ y.length + 2 := split_le y z
    refine ⟨.ref s.heap.objs.size, _, I.laid (t' := k) (fun b o eo => Heap.get?_push_of_some _ eo) (Nat.le_refl _) (show ObjOk X.prog X.w _ _ _ (.lst ((Txt.split y z).map V.str)) from ⟨by rw [List.length_map]; omega, strValues l, 0, hv, Heap.get?_push_size _ rfl⟩), rfl, q _ (I.hok.fresh (Nat.le_refl _))⟩
  have hn : (partsBetween y (occurrences y z 0 y.length (y.length + 1)) z.length).length ≤ sizeLine := by
    have := StrLaws.occ_length_le y z 0 y.length (y.length + 1)
    rw [length_partsBetween]
    omega
  by_cases h1 : (decide (y.length < z.length) || decide (strKind y < strKind z)) = true
  · exact call_meets F.slot_str_split (typeIs_str _ _ _) F.entry_str_split (F.args_str_split_2 _ _) (meets_str_split_cannot_occur y z t u h1) (fin [(y, t)] s.toks (if_pos h1).symm)
  · have h1' : (decide (y.length < z.length) || decide (strKind y < strKind z)) = false := by simpa using h1
    by_cases hf : (occurrences y z 0 y.length (y.length + 1)).isEmpty = true
    · exact call_meets F.slot_str_split (typeIs_str _ _ _) F.entry_str_split (F.args_str_split_2 _ _) (meets_str_split_not_found y z t u h1' hz hf) (fin [(y, t)] s.toks ((if_neg h1).trans (if_pos hf)).symm)
    · have hf' : (occurrences y z 0 y.length (y.length + 1)).isEmpty = false := by simpa using hf
      refine call_meets F.slot_str_split (typeIs_str _ _ _) F.entry_str_split (F.args_str_split_2 _ _) (meets_str_split_sep y z t u h1' hz hf' (by omega) hn) ?_
      have := fin (numbered s.toks (partsBetween y (occurrences y z 0 y.length (y.length + 1)) z.length)) (s.toks + (partsBetween y (occurrences y z 0 y.length (y.length + 1)) z.length).length) ((numbered_texts _ _).trans ((if_neg h1).trans (if_neg hf)).symm)
      rw [← strsFrom_eq] at this
      exact this

theorem call_intS {X : Cx} : CallR X (.type "int") (fun xs H Q => ∃ n : Int, xs = [.str (Str.ofString (toString n))] ∧ 0 ≤ n ∧ n < 10 ^ 10 ∧ Q (.int n) H) := by
  intro pins s σ H xs us Q I r h
  obtain ⟨n, rfl, h0, h1, q⟩ := h
  obtain ⟨u, rfl, ru⟩ := vals1 r
  obtain ⟨t, rfl⟩ := ru
  exact PySem.W.KIN.call_num h0 h1 ⟨.int n, H, I.tok _, ⟨_, rfl⟩, q⟩

noncomputable def tTry0 (t : TS) : TS := fun D σ H => t D σ H
theorem w_try0 {t : TS} {D : Ends} {σ : St} {H : Hp} (h : t D σ H) : tTry0 t D σ H := h
theorem ps_try0 {X : Cx} {body : List Stmt} {h₀ : ExceptHandler} {hs : List ExceptHandler} {t : TS} {pos : Pos} (hb : ∀ (F : Value → Shared → Prop) (pn : List (Addr × Obj)), PSs (X.tryx F pn) body t) : PS X (.Try body (h₀ :: hs) [] [] pos) (tTry0 t) := by
  intro pins s σ H Dn I h
  refine wpAny_Try_except ?_
  refine wpAny_mono (hb _ pins [] s σ H Dn I.tryx h) (fun f s1 q => ?_) fun e s1 q => q
  cases f with
  | next =>
    obtain ⟨σ', H', I', z⟩ := q
    exact wpAny_execs_nil ⟨σ', H', I'.untryx, z⟩
  | ret v =>
    obtain ⟨v', σ', H', I', r, z⟩ := q
    exact ⟨v', σ', H', I'.untryx, r, z⟩
  | brk =>
    obtain ⟨σ', H', I', z⟩ := q
    exact ⟨σ', H', I'.untryx, z⟩
  | cont =>
    obtain ⟨σ', H', I', z⟩ := q
    exact ⟨σ', H', I'.untryx, z⟩
end L2

set_option maxHeartbeats 1000000

namespace Hw
open PySem L2 HwSort
theorem app_cons_inj {c : Nat} : ∀ {a b x y : List Nat}, c ∉ a → c ∉ b → a ++ c :: x = b ++ c :: y → a = b ∧ x = y
  | [], [], x, y, _, _, e => by
    simp at e
    exact ⟨rfl, e⟩
  | [], d :: b, x, y, _, hb, e => by
    simp at e
    exact absurd (e.1 ▸ List.mem_cons_self) hb
  | d :: a, [], x, y, ha, _, e => by
    simp at e
    exact absurd (e.1 ▸ List.mem_cons_self) ha
  | d :: a, d' :: b, x, y, ha, hb, e => by
    rw [List.cons_append, List.cons_append, List.cons.injEq] at e
    obtain ⟨h1, h2⟩ := app_cons_inj (fun z => ha (List.mem_cons_of_mem _ z)) (fun z => hb (List.mem_cons_of_mem _ z)) e.2
    exact ⟨by rw [e.1, h1], h2⟩
theorem str_list {a b : Str} (h : a.cps.toList = b.cps.toList) : a = b := Str.ext' (Array.toList_inj.mp h)
theorem join_two (c : Nat) (p q : Str) (r : List Str) : (Str.join ⟨#[c]⟩ (p :: q :: r)).cps.toList = p.cps.toList ++ c :: (Str.join ⟨#[c]⟩ (q :: r)).cps.toList := by
  show (p ++ ⟨#[c]⟩ ++ Str.join ⟨#[c]⟩ (q :: r)).cps.toList = _
  rw [Str.cps_append, Str.cps_append]
  simp
theorem join_inj {c : Nat} : ∀ {ps qs : List Str}, ps ≠ [] → qs ≠ [] → (∀ p ∈ ps, c ∉ p.cps.toList) → (∀ q ∈ qs, c ∉ q.cps.toList) → Str.join ⟨#[c]⟩ ps = Str.join ⟨#[c]⟩ qs → ps = qs
  | [], _, h, _, _, _, _ => absurd rfl h
  | _, [], _, h, _, _, _ => absurd rfl h
  | [p], [q], _, _, _, _, e => by
    have e' : p = q := e
    rw [e']
  | [p], q :: q' :: s, _, _, hp, _, e => by
    have e' : p.cps.toList = (Str.join ⟨#[c]⟩ (q :: q' :: s)).cps.toList := congrArg (fun x : Str => x.cps.toList) e
    rw [join_two] at e'
    exact absurd (e' ▸ List.mem_append_right _ List.mem_cons_self) (hp p List.mem_cons_self)
  | p :: p' :: r, [q], _, _, _, hq, e => by
    have e' : (Str.join ⟨#[c]⟩ (p :: p' :: r)).cps.toList = q.cps.toList := congrArg (fun x : Str => x.cps.toList) e
    rw [join_two] at e'
    exact absurd (e' ▸ List.mem_append_right _ List.mem_cons_self) (hq q List.mem_cons_self)
  | p :: p' :: r, q :: q' :: s, _, _, hp, hq, e => by
    have e' := congrArg (fun x : Str => x.cps.toList) e
    have e' : (Str.join ⟨#[c]⟩ (p :: p' :: r)).cps.toList = (Str.join ⟨#[c]⟩ (q :: q' :: s)).cps.toList := e'
    rw [join_two, join_two] at e'
    obtain ⟨h1, h2⟩ := app_cons_inj (hp p List.mem_cons_self) (hq q List.mem_cons_self) e'
    have ih := join_inj (ps := p' :: r) (qs := q' :: s) (by simp) (by simp) (fun x hx => hp x (List.mem_cons_of_mem _ hx)) (fun x hx => hq x (List.mem_cons_of_mem _ hx)) (str_list h2)
    rw [str_list h1, ih]
theorem split_join {c : Nat} {ps : List Str} (h0 : ps ≠ []) (hp : ∀ p ∈ ps, c ∉ p.cps.toList) : Txt.split (Str.join ⟨#[c]⟩ ps) ⟨#[c]⟩ = ps := by
  refine join_inj ?_ h0 (StrLaws.split_free _ c) hp (StrLaws.join_split _ _)
  intro z
  have := PyProof.Rows.split_pos (Str.join ⟨#[c]⟩ ps) ⟨#[c]⟩
  rw [z] at this
  exact absurd this (by decide)
theorem blank_eq : (" " : Str) = ⟨#[32]⟩ := by decide +kernel
theorem nl_eq : ("\n" : Str) = ⟨#[10]⟩ := by decide +kernel
theorem num_signs {n : Int} (h0 : 0 ≤ n) : ∀ c ∈ (Str.ofString (toString n)).cps.toList, 48 ≤ c ∧ c ≤ 57 := by
  obtain ⟨m, rfl⟩ := Int.eq_ofNat_of_zero_le h0
  intro c hc
  rw [PySem.W.KIN.signs_num] at hc
  obtain ⟨ch, hch, e⟩ := List.mem_map.mp hc
  rw [← e]
  exact PyProof.Rows.digit_range (Nat.isDigit_of_mem_toDigits (by decide) (by decide) hch)
theorem num_free {n : Int} {c : Nat} (h0 : 0 ≤ n) (hc : c < 48) : c ∉ (Str.ofString (toString n)).cps.toList := fun z => by
  have := num_signs h0 c z
  omega
theorem num_pos {n : Int} (h0 : 0 ≤ n) : 1 ≤ (Str.ofString (toString n)).length := PySem.W.KLn.one_le h0
theorem mem_app {a b : Str} {c : Nat} : c ∈ (a ++ b).cps.toList ↔ c ∈ a.cps.toList ∨ c ∈ b.cps.toList := by
  rw [Str.cps_append]
  simp
theorem line_words (e : Pr × Int) : lineS e = Str.join " " [Str.ofString (toString e.1.1), "to", Str.ofString (toString e.1.2), "costs", Str.ofString (toString e.2)] := by
  show _ = Str.ofString (toString e.1.1) ++ " " ++ ("to" ++ " " ++ (Str.ofString (toString e.1.2) ++ " " ++ ("costs" ++ " " ++ Str.ofString (toString e.2))))
  have h1 : (" to " : Str) = " " ++ ("to" ++ " ") := by decide +kernel
  have h2 : (" costs " : Str) = " " ++ ("costs" ++ " ") := by decide +kernel
  unfold lineS
  rw [h1, h2]
  simp only [Str.append_assoc]
theorem head_words (n : Int) : headS n = Str.join " " [("tellers" : Str), Str.ofString (toString n)] := by
  show _ = ("tellers" : Str) ++ " " ++ Str.ofString (toString n)
  have h1 : ("tellers " : Str) = "tellers" ++ " " := by decide +kernel
  unfold headS
  rw [h1]
theorem line_split {e : Pr × Int} (h : RowIn e) : Txt.split (lineS e) " " = [Str.ofString (toString e.1.1), "to", Str.ofString (toString e.1.2), "costs", Str.ofString (toString e.2)] := by
  rw [line_words, blank_eq]
  refine split_join (by simp) fun p hp => ?_
  simp only [List.mem_cons, List.not_mem_nil, or_false] at hp
  rcases hp with rfl | rfl | rfl | rfl | rfl
  · exact num_free h.1.1 (by decide)
  · decide +kernel
  · exact num_free h.2.1.1 (by decide)
  · decide +kernel
  · exact num_free h.2.2.1 (by decide)
theorem head_split {n : Int} (h0 : 0 ≤ n) : Txt.split (headS n) " " = [("tellers" : Str), Str.ofString (toString n)] := by
  rw [head_words, blank_eq]
  refine split_join (by simp) fun p hp => ?_
  simp only [List.mem_cons, List.not_mem_nil, or_false] at hp
  rcases hp with rfl | rfl
  · decide +kernel
  · exact num_free h0 (by decide)
theorem line_free {e : Pr × Int} (h : RowIn e) : 10 ∉ (lineS e).cps.toList := by
  have h1 : 10 ∉ (" to " : Str).cps.toList := by decide +kernel
  have h2 : 10 ∉ (" costs " : Str).cps.toList := by decide +kernel
  unfold lineS
  simp only [mem_app]
  rintro ((((z | z) | z) | z) | z)
  · exact num_free h.1.1 (by decide) z
  · exact h1 z
  · exact num_free h.2.1.1 (by decide) z
  · exact h2 z
  · exact num_free h.2.2.1 (by decide) z
theorem head_free {n : Int} (h0 : 0 ≤ n) : 10 ∉ (headS n).cps.toList := by
  have h1 : 10 ∉ ("tellers " : Str).cps.toList := by decide +kernel
  unfold headS
  simp only [mem_app]
  rintro (z | z)
  · exact h1 z
  · exact num_free h0 (by decide) z
theorem text_split {n : Int} {cs : Cs} (h0 : 0 ≤ n) (hr : ∀ e ∈ cs, RowIn e) : Txt.split (textS n cs) "\n" = headS n :: cs.map lineS := by
  rw [← text_join, nl_eq]
  refine split_join (by simp) fun p hp => ?_
  rcases List.mem_cons.mp hp with rfl | hp
  · exact head_free h0
  · obtain ⟨e, he, rfl⟩ := List.mem_map.mp hp
    exact line_free (hr e he)
theorem figures_has : ∀ c, 48 ≤ c → c ≤ 57 → (!(Builtin.Str.occurrences ("0123456789" : Str) ⟨#[c]⟩ 0 ("0123456789" : Str).length 1).isEmpty) = true := by
  intro c h1 h2
  have : ∀ c, c < 58 → 48 ≤ c → (!(Builtin.Str.occurrences ("0123456789" : Str) ⟨#[c]⟩ 0 ("0123456789" : Str).length 1).isEmpty) = true := by decide +kernel
  exact this c (by omega) h1
theorem num_ascii {n : Int} (h0 : 0 ≤ n) : (Str.ofString (toString n)).cps.all (· < 128) = true := by
  rw [Array.all_eq_true_iff_forall_mem]
  intro c hc
  have := num_signs h0 c (Array.mem_toList_iff.mpr hc)
  exact decide_eq_true (by omega)
theorem cut_rest (xs : List V) : cutV xs (some 1) none = xs.drop 1 := by
  have := cut_tail xs 0
  simpa using this

structure IsBk (K : PySem.W.Frag) (C : Addr) : Prop where
  ha : PySem.W.findIn K (.ref C) "__class__" = some (some (.builtin "object.__class__"))
  hn : PySem.W.specialIn K (.builtin "object.__class__") "__get__" = some (some (.builtin "getset_descriptor.__get__"))
  htk : PySem.W.takesIn K (.builtin "object.__class__") = some true
  hm : PySem.W.mroIn K C (.type "object") = some true
theorem BookAt.ty {K : PySem.W.Frag} {C : Addr} {H : Hp} {p d : Addr} {n : Int} {cs : Cs} (B : BookAt C H p d n cs) (cl : Cls K C) (ib : IsBk K C) : TyOf K H (.ref p) (.ref C) := by
  obtain ⟨dx, h⟩ := B.ob
  exact .ins h cl ib.ha ib.hn ib.htk ib.hm
structure TxtN (mg : Str → Option Value) : Prop where
  g_MOST_COST : ∃ t, mg "MOST_COST" = some (.int 1000000 t)
  g_MOST_FIGURES : ∃ t, mg "MOST_FIGURES" = some (.int 7 t)
  g_FIGURES : ∃ t, mg "FIGURES" = some (.str "0123456789" t)
inductive sp_number (vs : List V) (H : Hp) (Q : VK) (E : XK) : Prop
  | mk (n : Int) (h09 : vs = [.str (Str.ofString (toString n))]) (h19 : 0 ≤ n) (h29 : n ≤ 1000000) (h39 : ∀ H', Same H H' → Q (.int n) H') : sp_number vs H Q E
inductive sp_words (vs : List V) (H : Hp) (Q : VK) (E : XK) : Prop
  | mk (line : Str) (k : Int) (ws : List Str) (h09 : vs = [.str line, .int k]) (h19 : Txt.split line " " = ws) (h29 : (ws.length : Int) = k) (h39 : line.length ≤ 1000) (h49 : ∀ p H', Same H H' → H p = none → H' p = some (.lst (ws.map V.str)) → Q (.ref p) H') : sp_words vs H Q E
inductive sp_letl (C : Addr) (vs : List V) (H : Hp) (Q : VK) (E : XK) : Prop
  | mk (p d : Addr) (n : Nat) (cs : Cs) (e : Pr × Int) (h09 : vs = [.ref p, .str (lineS e)]) (h19 : BookAt C H p d n cs) (h29 : RowIn e) (h39 : Ok2 n e.1.1 e.1.2) (h49 : cs.length < 1000) (h59 : ∀ H', BookAt C H' p d n (putC cs (e.1.1, e.1.2) e.2) → KeepBut d H H' → Q .non H') : sp_letl C vs H Q E
inductive sp_read (C : Addr) (vs : List V) (H : Hp) (Q : VK) (E : XK) : Prop
  | mk (n : Nat) (cs : Cs) (h09 : vs = [.str (textS n cs)]) (h19 : 1 ≤ n) (h29 : n ≤ 12) (h39 : RowsOk n cs) (h49 : ∀ p d H', Same H H' → H p = none → H d = none → BookAt C H' p d n cs → Q (.ref p) H') : sp_read C vs H Q E
end Hw

set_option maxHeartbeats 1000000

namespace L2
open PySem PySem.Spec
theorem entry_unchain : entryFor table "proto.unchain" = some Builtin.«proto.unchain» := entryFor_of_fast (by kernel_rfl)
theorem plain_unchain : plainId "proto.unchain" = true := by decide +kernel
section
variable {prog : Program} {w : World} {A : Around} {E : Value → Shared → Prop} {s : Shared} {a e : Addr} {oa : Obj} {va : Array Value}
theorem unchain_none {v : Value} {Q : Value → Shared → Prop} (ho : s.heap.get? a = some oa) (hd : oa.data = .fields va) (h2 : va[2]? = some .none) (h : Q .none s) :
    wpAny (model prog w) A (runValue (.builtin "proto.unchain" ⟨[v, .ref a, .ref a, .bool false], []⟩)) Q E s := by
  refine wpAny_runValue (codeAny_builtin entry_unchain ?_)
  rw [Around.under_plainId plain_unchain _]
  unfold Builtin.«proto.unchain»
  dsimp only
  refine wpAny_bind (wpAny_field ho hd h2 ?_)
  rw [if_pos (by decide)]
  first | exact wpAny_pure h | exact wpAny_bind (wpAny_pure (wpAny_pure h))
theorem raiseNew_in {α : Type} {oe : Obj} {ve : Array Value} {Q : α → Shared → Prop} (hh : A.handled = some (.ref a)) (hne : a ≠ e) (ho : s.heap.get? a = some oa) (hd : oa.data = .fields va) (h2 : va[2]? = some .none)
    (he : s.heap.get? e = some oe) (hde : oe.data = .fields ve) (hz : 2 < ve.size) (h : E (.ref e) { s with heap := s.heap.update e (Obj.mapFields (·.setIfInBounds 2 (.ref a))) }) : wpAny (model prog w) A (raiseNew (.ref e) : Sem α) Q E s := by
  unfold raiseNew
  refine wpAny_bind (wpAny_handled ?_)
  rw [hh]
  dsimp only
  rw [if_pos (show (Value.ref a != Value.ref e) = true from bne_iff_ne.mpr fun z => hne (Value.ref.inj z))]
  refine wpAny_bind (wpAny_holding (unchain_none ho hd h2 (wpAny_bind ?_)))
  show wpAny _ _ (setField (.ref e) 2 (.ref a)) _ _ _
  exact wpAny_setField he hde hz (wpAny_throw h)
end
section
variable {prog : Program} {w : World} {M : Model} {A : Around} {E : Value → Shared → Prop} {h : Heap} {g : Array GenState} {d : Drawn} {t : Nat} {os : OsState}
variable {nm q : Str} {C N : Addr} {bs bm : List Value} {hdct : Bool} {sn : List Str} {sub : List Value} {ab : Bool} {col : Option Bool} {dd : Option Addr} {k0 k1 k2 k3 k5 : Option Value} {newId : String}
theorem excFrom_own {e : Addr} {dt : Option Addr} {ve : Array Value} {sl : Array (Option Value)} {msg : String} {Q : Value → Shared → Prop} (hbase : bm.contains (.type "BaseException") = true) (hC : h.get? C = some (excClassObj nm q C N bs bm hdct sn sub ab col dd k0 k1 k2 k3 k5 newId))
    (he : h.get? e = some { cls := .ref C, dict := dt, data := .fields ve, slots := sl }) (hq : Q (.ref e) ⟨h, g, d, t, os⟩) : wpAny M A (excFromValue (.ref e) msg) Q E ⟨h, g, d, t, os⟩ := by
  have hcB : (Value.ref C :: bm).contains (.type "BaseException") = true := by rw [List.contains_cons, hbase, Bool.or_true]
  unfold excFromValue
  repeat (first | with_reducible refine wpAny_loadPart_at he ?_ | with_reducible refine wpAny_loadPart_at hC ?_ | (with_reducible refine wpAny_isSubtype_exc hC ?_; rw [hcB]) | wp_step)
  exact hq
theorem isType_own {e : Addr} {dt : Option Addr} {ve : Array Value} {sl : Array (Option Value)} {cls : Value} {Q : Bool → Shared → Prop} (he : h.get? e = some { cls := cls, dict := dt, data := .fields ve, slots := sl }) (hq : Q false ⟨h, g, d, t, os⟩) : wpAny M A (isType (.ref e)) Q E ⟨h, g, d, t, os⟩ := by
  repeat (first | with_reducible refine wpAny_loadPart_at he ?_ | wp_step)
  exact hq
theorem raisedInst_own {e : Addr} {dt : Option Addr} {ve : Array Value} {sl : Array (Option Value)} {Q : Value → Shared → Prop} (hC : h.get? C = some (excClassObj nm q C N bs bm hdct sn sub ab col dd k0 k1 k2 k3 k5 newId))
    (he : h.get? e = some { cls := .ref C, dict := dt, data := .fields ve, slots := sl }) (hq : Q (.ref e) ⟨h, g, d, t, os⟩) : wpAny M A (raisedInstance (.ref e)) Q E ⟨h, g, d, t, os⟩ := by
  unfold raisedInstance
  repeat (first | with_reducible refine wpAny_loadPart_at he ?_ | with_reducible refine wpAny_loadPart_at hC ?_ | wp_step)
  exact hq
end

noncomputable def ExC (h : Heap) (C : Addr) : Prop := ∃ nm q N bs bm hdct sn sub ab col dd k0 k1 k2 k3 k5 newId, h.get? C = some (excClassObj nm q C N bs bm hdct sn sub ab col dd k0 k1 k2 k3 k5 newId) ∧ bm.contains (.type "BaseException") = true
theorem upd_fields {h : Heap} {e : Addr} {cls : Value} {dt : Option Addr} {ve : Array Value} {sl : Array (Option Value)} (i : Nat) (x : Value) (he : h.get? e = some { cls := cls, dict := dt, data := .fields ve, slots := sl }) :
    (h.update e (Obj.mapFields (·.setIfInBounds i x))).get? e = some { cls := cls, dict := dt, data := .fields (ve.setIfInBounds i x), slots := sl } :=
  Heap.get?_update_self (Obj.mapFields (·.setIfInBounds i x)) he rfl
section
variable {prog : Program} {w : World} {A : Around} {E : Value → Shared → Prop} {s : Shared}
theorem raiseStmt_from {x c : Sem Value} {env : Env} {a D C : Addr} {oa : Obj} {va : Array Value} {Q : Flow → Shared → Prop} (hh : A.handled = some (.ref a)) (hac : oa.cls = .ref C) (hda : oa.data = .fields va) (h2 : va[2]? = some .none)
    (h : wpAny (model prog w) A x (fun v s₁ => ∃ e t, v = .ref e ∧ a ≠ e ∧ C ≠ e ∧ D ≠ e ∧ ExC s₁.heap D ∧ ExC s₁.heap C ∧ s₁.heap.get? a = some oa ∧ s₁.heap.get? e = some { cls := .ref D, data := .fields #[.ref t, .none, .none, .none, .bool false, .none] } ∧
      wpAny (model prog w) A c (fun u s₂ => u = .ref a ∧ s₂ = s₁) E s₁ ∧
      ∀ h' o vs, (∀ b, b ≠ e → h'.get? b = s₁.heap.get? b) → h'.get? e = some o → o.cls = .ref D → o.data = .fields vs → vs[0]? = some (.ref t) → vs[1]? = some .none → vs[2]? = some (.ref a) → E (.ref e) { s₁ with heap := h' }) E s) :
    wpAny (model prog w) A (raiseStmt env (some x) (some c)) Q E s := by
  unfold raiseStmt
  refine wpAny_bind (wpAny_mono h (fun v s₁ h₁ => ?_) fun _ _ z => z)
  obtain ⟨e, t, rfl, hae, hCe, hDe, ⟨nm, q, N, bs, bm, hdct, sn, sub, ab, col, dd, k0, k1, k2, k3, k5, newId, hD, hDb⟩, ⟨nm', q', N', bs', bm', hdct', sn', sub', ab', col', dd', k0', k1', k2', k3', k5', newId', hC, hCb⟩, ha, he, hc, hE⟩ := h₁
  obtain ⟨acls, adt, adata, asl⟩ := oa
  dsimp only at hac hda
  subst hac hda
  obtain ⟨hp, g, d, tk, os⟩ := s₁
  dsimp only at hD hC ha he hE
  refine wpAny_bind (wpAny_holding (wpAny_mono hc (fun u s₂ h₂ => wpAny_bind (wpAny_pure ?_)) fun _ _ z => z))
  obtain ⟨rfl, rfl⟩ := h₂
  refine wpAny_bind (wpAny_holding (excFrom_own hDb hD he ?_))
  dsimp only
  have he1 := upd_fields 3 (.ref a) he
  have he2 := upd_fields 4 (.bool true) he1
  have o1 : ∀ b, b ≠ e → (hp.update e (Obj.mapFields (·.setIfInBounds 3 (.ref a)))).get? b = hp.get? b := fun b hb => Heap.get?_update_other _ _ (Ne.symm hb)
  have o2 : ∀ b, b ≠ e → ((hp.update e (Obj.mapFields (·.setIfInBounds 3 (.ref a)))).update e (Obj.mapFields (·.setIfInBounds 4 (.bool true)))).get? b = hp.get? b := fun b hb => (Heap.get?_update_other _ _ (Ne.symm hb)).trans (o1 b hb)
  rw [if_neg (show ¬ ((Value.ref a == Value.none) = true) from fun z => by cases beq_iff_eq.mp z)]
  refine wpAny_bind (wpAny_holding (excFrom_own hCb hC ha ?_))
  refine wpAny_bind (wpAny_setField he rfl (by simp) ?_)
  refine wpAny_bind (wpAny_setField he1 rfl (by simp) ?_)
  refine wpAny_bind (isType_own he2 ?_)
  rw [if_neg Bool.false_ne_true]
  refine wpAny_bind (raisedInst_own ((o2 D hDe).trans hD) he2 ?_)
  refine wpAny_bind ?_
  unfold setFlight
  refine wpAny_bind (wpAny_field he2 rfl (x := .none) rfl ?_)
  rw [if_neg (by decide)]
  refine wpAny_pure ?_
  refine raiseNew_in hh hae ((o2 a hae).trans ha) rfl h2 he2 rfl (by simp) ?_
  exact hE _ _ _ (fun b hb => (Heap.get?_update_other _ _ (Ne.symm hb)).trans (o2 b hb)) (upd_fields 2 (.ref a) he2) rfl rfl rfl rfl rfl
end
end L2

set_option maxHeartbeats 1000000

namespace L2
open PySem PySem.Spec PyProof.Rows


noncomputable def HeldX (X : Cx) (E : XK) : Prop := ∀ (pins : List (Addr × Obj)) (σ : St) (H : Hp) (s : Shared) (h' : Heap) (e D : Addr) (a0 : Value) (d : Option Addr) (B : Heap), Inv X pins σ H s → FlyC B X.stack e (.ref D) a0 (ctxV d) (rawInt X.env.locals) h' → s.heap.UpToSlots h' → Bk X.fs H X.s₀.heap s.heap B →
  H e = none → X.s₀.heap.get? e = none → E (.ref D) d H → X.xe (.ref e) { s with heap := h' }
section
variable {P : Program} {w : World} {K : PySem.W.Frag} {mg : Str → Option Value} {base : Heap} {N : List Str} {qual : Str} {scope : Scope} {f : Addr} {cd : Value} {A : Around} {outer : List Env} {s : Shared} {H : Hp} {E : XK}
theorem heldX : HeldX (cxOf (CXF P w) P w K mg base N qual scope f cd A outer s H E) E := by
  intro pins σ H1 s1 h' e D a0 d B I x sm bk free new q
  refine leaveC_held rfl x fun h2 f1 sm2 => ⟨e, D, B, a0, d, H1, rfl, ?_, q⟩
  have hb : Un (frs outer) [] H H1 s.heap s1.heap := I.base
  have F0 := I.frames0
  have nf : ∀ b ∈ frs outer, H1 b = none := fun b hb' => by
    obtain ⟨o, e⟩ := F0.th b hb'
    exact hb.free b o e (F0.frf b hb') (by simp)
  exact ⟨I.os, I.bare, f1, hb.onB bk f1.1 (sm.trans sm2) F0.frf F0.fnf, I.hok.onB bk f1.1 nf, free, new, bk.onB I.hok (fun b u e => hb.there b u e (by simp)) f1.1⟩
end
section
variable {X : Cx} {pins : List (Addr × Obj)} {σ : St} {H : Hp} {s : Shared} {h' : Heap}

theorem Inv.noted (I : Inv X pins σ H s) (st : (PySem.W.hideAll s.heap (frs X.stack)).StaysIn h') (sm : s.heap.UpToSlots h') : Inv X pins σ H { s with heap := h' } := by
  have bk : Bk (frs X.stack) H s.heap s.heap (PySem.W.hideAll s.heap (frs X.stack)) := fun b o e hb _ => PySem.W.hideAll_get _ e hb
  have F0 := I.frames
  refine I.call (g' := s.gens) (d' := s.drawn) (t' := s.toks) (ch := []) ⟨fun b o e n hb _ => st b o (PySem.W.hideAll_get _ e hb), fun b o e n hb _ => sm b o e (F0.fnf b hb o e), fun b o e n _ => n, fun b o e _ => ?_, fun _ _ e => e, fun _ _ _ e => e, fun b ps e => ⟨#[], by rw [e]; simp⟩⟩ (I.hok.onB bk st I.stkFree) I.bare fun b z => absurd z (by simp)
  by_cases hb : b ∈ frs X.stack
  · obtain ⟨sl, q⟩ := sm b o e (F0.fnf b hb o e)
    exact ⟨_, q⟩
  · exact ⟨o, st b o (PySem.W.hideAll_get _ e hb)⟩
theorem exC_of {K : PySem.W.Frag} {h : Heap} {C : Addr} (X : K.In h) (x : XCls K C) : ExC h C := by
  obtain ⟨bm, N, nm, q, bs, hdct, sn, sub, ab, col, dd, k0, k1, k2, k3, k5, mN, hC, hN, hni, TL⟩ := exc_obj X x.exc
  exact ⟨nm, q, N, bs, bm, hdct, sn, sub, ab, col, dd, k0, k1, k2, k3, k5, _, hC, TL.hasType (by decide)⟩
end

theorem PS.nox {X : Cx} {st : Stmt} {t : TS} (h : PS X.nox st t) : PS X st t := fun pins s σ H D I hw =>
  wpAny_mono (h pins s σ H D (I.wish _) hw) (fun _ _ q => q.unwish) fun _ _ z => False.elim z

noncomputable def tTryFrom (K : PySem.W.Frag) (ds : List Value) (D : Addr) (i : Nat) (E : St → XK) (E' : XK) (t : TS) (ta : TA) : TS := fun Dn σ H => t Dn σ H ∧ ∀ σ' c d H', σ'.length = σ.length → E σ' c d H' → ∃ C, c = .ref C ∧ XCls K C ∧
  ((d = none ∧ PySem.W.exmAny K (.ref C) ds = some true ∧ ∀ a, H' a = none → ta (σ'.set i (some (.ref a))) H' fun xs H1 => xs.length ≤ sizeLine ∧ E' (.ref D) (some a) H1) ∨ (PySem.W.exmAny K (.ref C) ds = some false ∧ E' c d H'))
section
variable {X : Cx} {body : List Stmt} {x n x1 x2 x3 x4 : Str} {D D1 D2 D3 D4 : Addr} {i kk : Nat} {t : TS} {ta : TA} {E : St → XK} {E' : XK} {np cpos ep rp hp tp p1 p2 p3 p4 pos : Pos} {e0 : Expr} {es : List Expr}
theorem ps_tryFrom (xD : XCls X.K D) (hm : X.mg x = some (.ref D)) (m1 : X.mg x1 = some (.ref D1)) (m2 : X.mg x2 = some (.ref D2)) (m3 : X.mg x3 = some (.ref D3)) (m4 : X.mg x4 = some (.ref D4)) (hst : X.stack = X.env :: X.outer) (hf : X.env.frame = some X.env.locals) (hex : X.ex = []) (hH : HeldX X E')
    (hb : ∀ (F : Value → Shared → Prop) (pn : List (Addr × Obj)), PassesX (X.tryx F pn) E → PSs (X.tryx F pn) body t) (ha : ∀ e, PA (X.inexc e) (e0 :: es) ta) (hN : X.N.Nodup) (hi : X.N[i]? = some n) (hk : X.env.kindOf n = some .local)
    (hg : Gl X x := by rfl) (g1 : Gl X x1 := by rfl) (g2 : Gl X x2 := by rfl) (g3 : Gl X x3 := by rfl) (g4 : Gl X x4 := by rfl) (hdb : (x == ("__debug__" : Str)) = false := by decide) (b1 : (x1 == ("__debug__" : Str)) = false := by decide) (b2 : (x2 == ("__debug__" : Str)) = false := by decide) (b3 : (x3 == ("__debug__" : Str)) = false := by decide) (b4 : (x4 == ("__debug__" : Str)) = false := by decide) (bn : (n == ("__debug__" : Str)) = false := by decide) (bc : (n == ("__classdict__" : Str)) = false := by decide)
    (he : starEach (e0 :: es) X.env = (false, eval e0 X.env) :: starEach es X.env := by rfl) (hpl : (backTo cpos (starEach es X.env)).any (·.1) = false := by rfl) :
    PS X (.Try body [.ExceptHandler (some (.Tuple [.Name x1 p1, .Name x2 p2, .Name x3 p3, .Name x4 p4] kk tp)) (some n) [.Raise (some (.Call (.Name x np) (e0 :: es) [] cpos)) (some (.Name n ep)) rp] hp] [] [] pos) (tTryFrom X.K [.ref D1, .ref D2, .ref D3, .ref D4] D i E E' t ta) := by
  intro pins s σ H Dn I h
  obtain ⟨h1, h2⟩ := h
  refine wpAny_Try_except ?_
  refine wpAny_mono (hb _ pins ?_ [] s σ H Dn I.tryx h1) (fun f s1 q => ?_) fun e s1 q => q
  · rintro pins' σ' H1 s1 e s' I1' ⟨a, C, B, a0, d, H', rfl, F, q⟩
    have I1 : Inv X pins σ' H1 s1 := I1'.untryx
    have F1 : Fly X.prog X.w X.stack H1 s1 a C B a0 d H' s' := F
    obtain ⟨C', ec, xC, hcase⟩ := h2 σ' _ _ _ (I1.len.trans I.len.symm) q
    cases ec
    have hfr := F1.free
    have hA : X.A.frames = some (X.env :: X.outer) := hst ▸ I.ok.frames
    show wpAny _ X.A (noteFrame (.ref a) X.env) _ _ s'
    refine noteC_next (L := X.env.locals) hA hf (hst ▸ F1.fly) fun h4 held4 sm4 => ?_
    refine flightC (s := { s' with heap := h4 }) (fr := none) held4 fun h5 fly5 sm5 => ?_
    have F5 := F1.on I1.frames (hst ▸ fly5) (sm4.trans sm5)
    have J5 := I1.flown F5
    -- the tuple of classes
    refine wpAny_handleBy_cons (codeAny_handlers_test ?_) (by intro q; cases q)
    refine wpAny_Tuple ?_
    refine wpAny_items_cons (ld_glob (X := X.inexc (.ref a)) (J5.inexc (e := .ref a)) g1 m1 ?_ b1)
    refine wpAny_items_cons (ld_glob (X := X.inexc (.ref a)) (J5.inexc (e := .ref a)) g2 m2 ?_ b2)
    refine wpAny_items_cons (ld_glob (X := X.inexc (.ref a)) (J5.inexc (e := .ref a)) g3 m3 ?_ b3)
    refine wpAny_items_cons (ld_glob (X := X.inexc (.ref a)) (J5.inexc (e := .ref a)) g4 m4 ?_ b4)
    refine wpAny_items_nil ⟨by size_fits, ?_⟩
    have kp : ∀ q o, h5.get? q = some o → (h5.push { cls := .type "tuple", data := .seq [Value.ref D1, .ref D2, .ref D3, .ref D4].toArray }).get? q = some o := fun _ _ z => Heap.get?_push_of_some _ z
    have ex5 : ExcAt a C h5 := F5.fly.there
    have F6 := F5.on I1.frames (F5.fly.kept kp) (Heap.UpToSlots.of_keeps kp)
    rcases hcase with ⟨rfl, hx, k⟩ | ⟨hx, k⟩
    rotate_left
    · -- none of them: it goes on
      refine (PySem.W.exm_tup4 (J5.kIn.keeps kp) ((ex5.type).keeps kp) (Heap.get?_push_size h5 rfl) hx).here ?_
      show wpAny _ X.A (handleBy (.ref a) X.env []) _ _ _
      have F6o := F6.out I1 hst hex
      refine wpAny_handleBy_nil (passOnC hf F6.fly fun h7 x7 sm7 => ?_)
      exact hH pins σ' H' _ h7 a C a0 d B (I1.flown F6) x7 sm7 F6o.bk F6.free F6o.new k
    refine (PySem.W.exm_tup4 (J5.kIn.keeps kp) ((ex5.type).keeps kp) (Heap.get?_push_size h5 rfl) hx).here ?_
    show codeAny _ _ (.handlers (.ref a) [.ExceptHandler none (some n) [.Raise (some (.Call (.Name x np) (e0 :: es) [] cpos)) (some (.Name n ep)) rp] hp] X.env) _ _
    refine codeAny_handlers_suite_as (flightC (fr := none) F6.fly fun h7 fly7 sm7 => ?_)
    have F7 := F6.on I1.frames fly7 sm7
    have J7 := I1.flown F7
    obtain ⟨oa, va, hoa, hac, hda, hca⟩ := F7.fly.full
    have naL : a ≠ X.env.locals := fun z => by
      obtain ⟨m, ⟨o, _, _, ho, _⟩, _⟩ := I1.loc
      rw [← z, F1.new] at ho
      cases ho
    have naf : a ∉ X.fs := fun z => by
      obtain ⟨_, o, ho, _⟩ := I1.funs.mem z
      rw [F1.new] at ho
      cases ho
    have J7p : Inv X ((a, oa) :: pins) σ' H' _ := J7.pins_of fun p hp => by
      rcases List.mem_cons.mp hp with rfl | hp
      · exact ⟨hoa, hfr, naL, naf, fun v z => by rw [hda] at z; cases z⟩
      · exact J7.pin p (List.mem_append_right _ hp)
    refine store_ok J7p hN hi (Or.inl hk) (v := .ref a) rfl (fun s8 J8 => ?_) (Or.inr hk)
    refine wpAny_execs_cons ?_
    rw [arm_exec_Raise]
    refine wpAny_bind (wpAny_standAt ?_)
    refine raiseStmt_from (a := a) (C := C) (D := D) rfl hac hda hca ?_
    refine wpAny_bind (wpAny_Call_ofName (ld_glob (X := X.inexc (.ref a)) (J8.inexc (e := .ref a)) hg hm ?_ hdb))
    unfold callWith
    have hq := ha (.ref a) cpos ((a, oa) :: pins) s8 _ H' _ (J8.inexc (e := .ref a)) (k a hfr)
    have hplain : (backTo cpos (starEach (e0 :: es) X.env)).any (·.1) = false := by rw [he]; show (false || (backTo cpos (starEach es X.env)).any (·.1)) = false; rw [hpl]; rfl
    have hq' : wpAny (model X.prog X.w) (X.A.mark (some (.ref a))) (spliced ((false, eval e0 X.env) :: backTo cpos (starEach es X.env))) (AP (X.inexc (.ref a)) ((a, oa) :: pins) (σ'.set i (some (.ref a))) fun xs H1 => xs.length ≤ sizeLine ∧ E' (.ref D) (some a) H1) (fun _ _ => False) s8 := by
      have := hq
      rw [show starEach (e0 :: es) (X.inexc (.ref a)).env = (false, eval e0 X.env) :: starEach es X.env from he] at this
      exact this
    refine wpAny_bind (wpAny_holding ?_)
    rw [show backTo cpos (starEach (e0 :: es) X.env) = (false, eval e0 X.env) :: backTo cpos (starEach es X.env) by rw [he]; rfl]
    refine Calls.evalArgs_plain (wpAny_mono hq' (fun us s9 hq9 => wpAny_bind (wpAny_standAt ?_)) fun _ _ z => z.elim)
    obtain ⟨xs, H1', J9', r9, hlen9, q9⟩ := hq9
    have J9 : Inv X ((a, oa) :: pins) (σ'.set i (some (.ref a))) H1' s9 := J9'.uninexc I.ok
    obtain ⟨bm, N, nm, qn, bs, hdct, sn, sub, ab, col, dd, k0, k1, k2, k3, k5, mN, hC, hNs, hni, TL⟩ := exc_obj I.mod.kin xD.exc
    obtain ⟨hp9, g9, d9, tk9, os9⟩ := s9
    have hC9 := J9.bk _ _ hC
    rw [show ((false, eval e0 X.env) :: backTo cpos (starEach es X.env)).any (·.1) = false from hpl]
    refine wpAny_bind (wpAny_keeperOf_exc hC9 ?_)
    refine wpAny_bind (wpAny_call_exc_subU (hrest := by rw [List.nil_append, ← r9.length]; exact hlen9) PySem.F.excBase_ValueError (by decide) PySem.F.excBase_ValueError (TL.keeps J9.bk) hC9 (hNs.keeps J9.bk) hni fun h10 e2 hm10 => wpAny_bind (wpAny_holding (wpAny_point (wpAny_pure (wpAny_bind (wpAny_standAt (wpAny_pure ?_)))))))
    obtain ⟨tt, het, _, _⟩ := hm10.there
    have ne9 : ∀ b o, hp9.get? b = some o → b ≠ e2 := fun b o e z => by
      rw [z, hm10.new] at e
      cases e
    have ta9 : hp9.get? a = some oa := (J9.pin (a, oa) (List.mem_append_right _ List.mem_cons_self)).1
    have J10 : Inv X ((a, oa) :: pins) (σ'.set i (some (.ref a))) H1' ⟨h10, g9, d9, tk9, os9⟩ := J9.kept (t' := tk9) hm10.keeps
    obtain ⟨nmC, qC, NC, bsC, bmC, hdC, snC, subC, abC, colC, ddC, c0, c1, c2, c3, c5, idC, hCC, hCB⟩ := exC_of J9.kIn xC
    refine ⟨e2, tt, rfl, ne9 _ _ ta9, ne9 _ _ hCC, ne9 _ _ hC9, exC_of J10.kIn xD, exC_of J10.kIn xC, hm10.keeps _ _ ta9, het, ?_, fun h11 o11 vs11 hk11 ho11 hc11 hd11 v0 v1 v2 => ?_⟩
    · refine wpAny_bind ?_
      obtain ⟨m, hn, hl⟩ := J10.loc
      have hlen : i < σ'.length := by rw [I1.len]; exact (List.getElem?_eq_some_iff.mp hi).1
      obtain ⟨u, r, l⟩ := hl i n (.ref a) hi (List.getElem?_set_self hlen) (.inl hk)
      cases r
      rcases l with ⟨hk', hm'⟩ | ⟨hk', c, hc, hcell⟩
      · exact wpAny_Name (wpAny_loadName_local I.ok.kind hk' hn hm' (wpAny_bind (wpAny_standAt (wpAny_pure ⟨rfl, rfl⟩)))) bn
      · rcases hk' with hk' | hk'
        · rw [hk] at hk'; cases hk'
        · rw [hk] at hk'; cases hk'
    -- it is on its way
    have mk : MadeC hp9 h11 e2 (.ref D) (.ref tt) (ctxV (some a)) := ⟨fun b o e => (hk11 b (ne9 b o e)).trans (hm10.keeps b o e), hm10.new, o11, vs11, ho11, hc11, hd11, v0, v1, v2⟩
    have hin : ∀ env ∈ X.stack, ∀ b, env.frame = some b → b ∈ frs X.stack := fun env he b hb => List.mem_filterMap.mpr ⟨env, he, hb⟩
    have hfr9 : hp9.FunFrames (PySem.W.hideAll hp9 (frs X.stack)) X.stack := PySem.W.funFrames_hide J9.stack hin
    refine noteC_made (base := PySem.W.hideAll hp9 (frs X.stack)) (h := hp9) (L := X.env.locals) hA hf (fun b o q => PySem.W.of_hideAll _ q) (hst ▸ hfr9) mk fun h12 x12 sm12 => ?_
    have x12' : FlyC (PySem.W.hideAll hp9 (frs X.stack)) X.stack e2 (.ref D) (.ref tt) (ctxV (some a)) (rawInt X.env.locals) h12 := hst ▸ x12
    have J12 := J9.noted x12'.1 ((Heap.UpToSlots.of_keeps mk.keeps).trans sm12)
    have J12p : Inv X pins _ H1' _ := J12.pins_of fun p hp => J12.pin p (List.mem_append_right _ (List.mem_cons_of_mem _ hp))
    refine unname_ok2 J12p hN hi hk fun s13 J13 sb13 => ?_
    have hLf : X.env.locals ∈ frs X.stack := by rw [hst]; unfold frs; rw [List.filterMap_cons, hf]; exact List.mem_cons_self
    have x13 : FlyC (PySem.W.hideAll hp9 (frs X.stack)) X.stack e2 (.ref D) (.ref tt) (ctxV (some a)) (rawInt X.env.locals) s13.heap := by
      refine x12'.keeps (fun b o vs e hd => ?_) (fun b o q => ?_) (frames_rebase (fun L hL => PySem.W.hideAll_none _ hL) J13.stack)
      · refine (sb13.2 b fun z => ?_).trans e
        obtain ⟨_, o', ho', hn'⟩ := x12'.2.2.1.mem hLf
        rw [z] at e
        rw [e] at ho'
        cases ho'
        exact hn' vs hd
      · refine (sb13.2 b fun z => ?_).trans (x12'.1 b o q)
        rw [z, PySem.W.hideAll_none _ hLf] at q
        cases q
    refine passOnC hf x13 fun h14 x14 sm14 => ?_
    show wpAny _ _ (noteFrame (.ref e2) X.env) _ _ _
    refine noteC_again (s := { s13 with heap := h14 }) hf x14 ?_
    refine cameBackC (s := { s13 with heap := h14 }) hf x14 fun h15 x15 sm15 => ?_
    refine hH pins _ H1' s13 h15 e2 D (.ref tt) (some a) _ J13 x15 (sm14.trans sm15) (fun b o e hb hc => ?_) ?_ ?_ q9
    · have there : ∃ o9, hp9.get? b = some o9 := by
        rcases hc with hc | ⟨u, hu⟩
        · cases q : H1' b with
          | none => exact absurd q hc
          | some u => exact (J9.hok b u q).get
        · exact J9.base.there b u hu (by rw [hex]; simp)
      obtain ⟨o9, e9⟩ := there
      have hne : b ≠ X.env.locals := by
        rcases hc with hc | ⟨u, hu⟩
        · intro z
          rw [z] at hc
          exact hc J9.free
        · exact Nat.ne_of_lt (Nat.lt_of_lt_of_le (Heap.lt_size hu) I.ok.above)
      have hB : (PySem.W.hideAll hp9 (frs X.stack)).get? b = some o9 := PySem.W.hideAll_get _ e9 fun z => by
        rcases List.mem_cons.mp (J9.stkSub b z) with q | q
        · exact hne q
        · exact hb q
      rw [x13.1 b o9 hB] at e
      cases e
      exact hB
    · cases e : H1' e2 with
      | none => rfl
      | some u =>
        obtain ⟨o, e2'⟩ := (J9.hok e2 u e).get
        have e3 : hp9.get? e2 = some o := e2'
        rw [hm10.new] at e3
        cases e3
    · cases e : X.s₀.heap.get? e2 with
      | none => rfl
      | some u =>
        obtain ⟨o, e2'⟩ := J9.base.there e2 u e (by rw [hex]; simp)
        have e3 : hp9.get? e2 = some o := e2'
        rw [hm10.new] at e3
        cases e3
  · cases f with
    | next =>
      obtain ⟨σ', H', I', z⟩ := q
      exact wpAny_execs_nil ⟨σ', H', I'.untryx, z⟩
    | ret v =>
      obtain ⟨v', σ', H', I', r, z⟩ := q
      exact ⟨v', σ', H', I'.untryx, r, z⟩
    | brk =>
      obtain ⟨σ', H', I', z⟩ := q
      exact ⟨σ', H', I'.untryx, z⟩
    | cont =>
      obtain ⟨σ', H', I', z⟩ := q
      exact ⟨σ', H', I'.untryx, z⟩
end
end L2

set_option maxHeartbeats 1000000

namespace L2
open PySem PySem.Spec PyProof.Rows

inductive OnWay (X : Cx) (E : XK) (e : Value) (s' : Shared) : Prop
  | mk (a C : Addr) (B : Heap) (a0 : Value) (d : Option Addr) (H' : Hp) (fl : Value) (he : e = .ref a) (hfl : fl = .none ∨ fl = rawInt X.env.locals) (Z : Frames X.outer X.H₀ X.s₀.heap) (hA : X.A.frames = some X.stack) (os : s'.os = X.s₀.os) (bare : AllBare s'.gens)
      (fly : FlyC B X.stack a (.ref C) a0 (ctxV d) fl s'.heap) (un : Un X.fs [] X.H₀ H' X.s₀.heap s'.heap) (hok : HOk X.prog X.w H' s'.heap) (free : H' a = none) (new : X.s₀.heap.get? a = none) (bk : Bk X.fs H' X.s₀.heap s'.heap B) (q : E (.ref C) d H') : OnWay X E e s'
noncomputable abbrev Cx.onw (X : Cx) (E : XK) : Cx := X.wish (OnWay X E)
section
variable {X : Cx} {E : XK}
theorem onWay_own (hst : X.stack = X.env :: X.outer) (hf : X.env.frame = some X.env.locals) : PassesOwn (model X.prog X.w) X.A X.env (OnWay X E) := by
  rintro e s' ⟨a, C, B, a0, d, H', fl, rfl, hfl, Z, hA, os, bare, fly, un, hok, free, new, bk, q⟩
  have nf : ∀ b ∈ X.fs, H' b = none := fun b hb => by
    obtain ⟨o, e⟩ := Z.th b hb
    exact un.free b o e (Z.frf b hb) (by simp)
  have on : ∀ h', FlyC B X.stack a (.ref C) a0 (ctxV d) (rawInt X.env.locals) h' → s'.heap.UpToSlots h' → OnWay X E (.ref a) { s' with heap := h' } := fun h' x sm =>
    ⟨a, C, B, a0, d, H', _, rfl, .inr rfl, Z, hA, os, bare, x, un.onB bk x.1 sm Z.frf Z.fnf, hok.onB bk x.1 nf, free, new, bk.onB hok (fun b u e => un.there b u e (by simp)) x.1, q⟩
  show wpAny _ X.A (noteFrame (.ref a) X.env) _ _ s'
  rcases hfl with rfl | rfl
  · refine noteC_next (L := X.env.locals) (hst ▸ hA) hf (hst ▸ fly) fun h1 x1 sm1 => ?_
    have x1' : FlyC B X.stack a (.ref C) a0 (ctxV d) (rawInt X.env.locals) h1 := hst ▸ x1
    exact cameBackC (s := { s' with heap := h1 }) hf x1' fun h2 x2 sm2 => on h2 x2 (sm1.trans sm2)
  · refine noteC_again hf fly ?_
    exact cameBackC hf fly on
theorem passW (hst : X.stack = X.env :: X.outer) (hex : X.ex = []) : PassesX (X.onw E) (fun _ => E) := by
  rintro pins σ H1 s1 e s' I' ⟨a, C, B, a0, d, H', rfl, F, q⟩
  have I : Inv X pins σ H1 s1 := I'.unwish
  have F' : Fly X.prog X.w X.stack H1 s1 a C B a0 d H' s' := F
  have Fo := F'.out I hst hex
  exact ⟨a, C, B, a0, d, H', _, rfl, .inl rfl, I.frames0, I.ok.frames, Fo.os, Fo.bare, F'.fly, Fo.un, Fo.hok, Fo.free, Fo.new, Fo.bk, q⟩
end
section
variable {P : Program} {w : World} {K : PySem.W.Frag} {mg : Str → Option Value} {base : Heap} {N : List Str} {qual : Str} {scope : Scope} {f : Addr} {cd : Value} {A : Around} {outer : List Env} {s : Shared} {H : Hp} {E : XK}
theorem onWay_xe {e : Value} {s' : Shared} (h : OnWay (cxOf (CXF P w) P w K mg base N qual scope f cd A outer s H E) E e s') : (cxOf (CXF P w) P w K mg base N qual scope f cd A outer s H E).xe e s' := by
  obtain ⟨a, C, B, a0, d, H', fl, rfl, hfl, Z, hA, os, bare, fly, un, hok, free, new, bk, q⟩ := h
  have nf : ∀ b ∈ frs outer, H' b = none := fun b hb => by
    obtain ⟨o, e⟩ := Z.th b hb
    exact un.free b o e (Z.frf b hb) (by simp)
  have fin : ∀ h', FlyC B outer a (.ref C) a0 (ctxV d) .none h' → s'.heap.UpToSlots h' → CXF P w outer H s E (.ref a) { s' with heap := h' } := fun h' x sm =>
    ⟨a, C, B, a0, d, H', rfl, ⟨os, bare, x, un.onB bk x.1 sm Z.frf Z.fnf, hok.onB bk x.1 nf, free, new, bk.onB hok (fun b u e => un.there b u e (by simp)) x.1⟩, q⟩
  rcases hfl with rfl | rfl
  · exact leaveC (L := s.heap.objs.size) hA rfl fly fin
  · exact leaveC_held (L := s.heap.objs.size) rfl fly fin

theorem PSs.onw {st : List Stmt} {t : TS} (h : PSs ((cxOf (CXF P w) P w K mg base N qual scope f cd A outer s H E).onw E) st t) : PSs (cxOf (CXF P w) P w K mg base N qual scope f cd A outer s H E) st t := fun pins s' σ H' D I hw =>
  wpAny_mono (h pins s' σ H' D (I.wish _) hw) (fun _ _ q => q.unwish) fun _ _ z => onWay_xe z
end
end L2

set_option maxHeartbeats 1000000

namespace HT
open PySem PySem.Spec PyProof.Rows

noncomputable def tupLe : List Int → List Int → Bool
  | [], _ => true
  | _ :: _, [] => false
  | x :: xs, y :: ys => if x = y then tupLe xs ys else decide (x ≤ y)
theorem tupLe_cons (x y : Int) (xs ys : List Int) : tupLe (x :: xs) (y :: ys) = if x = y then tupLe xs ys else decide (x ≤ y) := rfl
section
open PySem.SeqAt
open PySem.AutoSeq1 (wpAny_loadPart')
open PySem.MeetsSeq PySem.MeetsSeq2 PySem.MeetsSeq3
theorem tuple_le_ints (l b : Addr) (items items2 : Array Value) (n n2 : Nat) (dd dd2 : Option Addr) (sl sl2 : Array (Option Value)) (ns ms : List Int) (hi : IntsAre items.toList ns) (hj : IntsAre items2.toList ms) (hsz : ns.length = ms.length) :
    Meets (Builtin.«tuple.__le__» ⟨[.ref l, .ref b], []⟩)
      (fun _ R s => s.heap.get? l = some { cls := .type "tuple", dict := dd, data := .seq items n, slots := sl } ∧ s.heap.get? b = some { cls := .type "tuple", dict := dd2, data := .seq items2 n2, slots := sl2 } ∧
        R (.ok (.ret (.bool (tupLe ns ms)))) s) :=
  .of_wp fun prog w A R s h => by
    obtain ⟨hp, g, d, tk, os⟩ := s; obtain ⟨hl, hb, h⟩ := h
    have f2 := AutoSeq1.sub_tuple_tuple
    have z1 : items.size = ns.length := by rw [← hi.length]; simp
    have z2 : items2.size = ms.length := by rw [← hj.length]; simp
    wp_walk using wpAny_loadPart' hl, wpAny_loadPart' hb, wpAny_forIn_list _ (fun rest b s' => b.1 = none ∧ s' = ⟨hp, g, d, tk, os⟩ ∧ ∃ (vs ws : List Value) (ns' ms' : List Int), rest = vs.zip ws ∧
      IntsAre vs ns' ∧ IntsAre ws ms' ∧ ns'.length = ms'.length ∧ R (.ok (.ret (.bool (tupLe ns' ms')))) ⟨hp, g, d, tk, os⟩) _
    case turn =>
      rintro ⟨y, x⟩ rest b s' ⟨hb', rfl, vs, ws, ns', ms', hz, hvi, hwi, hlen, hR⟩
      cases hvi with
      | nil => rw [List.zip_nil_left] at hz; cases hz
      | cons a t hvi' =>
        cases hwi with
        | nil => rw [List.zip_nil_right] at hz; cases hz
        | cons c u hwi' =>
          rw [List.zip_cons_cons] at hz
          injection hz with hyx hrest
          injection hyx with hy hx
          subst hy hx
          rw [tupLe_cons] at hR
          simp only [List.length_cons] at hlen
          obtain ⟨e, he, hiff⟩ := eqAt_int A.in1 ⟨hp, g, d, tk, os⟩ a t c u
          refine wpAny_bind (he prog w _ _ ?_)
          cases e with
          | true =>
            rw [if_pos (hiff.mp rfl)] at hR
            wp_walk
            exact ⟨rfl, rfl, _, _, _, _, hrest, hvi', hwi', by omega, hR⟩
          | false =>
            rw [if_neg (fun q => absurd (hiff.mpr q) Bool.false_ne_true)] at hR
            have hri : ∀ (E : Value → Shared → Prop) (Q : Value → Shared → Prop), Q (.bool (decide (a ≤ c))) ⟨hp, g, d, tk, os⟩ → wpAny (model prog w) A.in1 (richCompare .LtE (.int a t) (.int c u)) Q E ⟨hp, g, d, tk, os⟩ := fun E Q h => (PyProof.Rows.le_int h : wpAny (model prog w) A.in1 (compareOp .LtE (.int a t) (.int c u)) Q E ⟨hp, g, d, tk, os⟩)
            wp_walk using hri
            exact ⟨_, rfl, by simpa using hR⟩
    case fin =>
      rintro ⟨b1, b2⟩ s' ⟨hb', rfl, vs, ws, ns', ms', hz, hvi, hwi, hlen, hR⟩
      simp only at hb'
      subst hb'
      have hv : tupLe ns' ms' = decide (items.size ≤ items2.size) := by
        cases hvi with
        | nil => exact (decide_eq_true (by omega)).symm
        | cons a t hv =>
          cases hwi with
          | nil => simp only [List.length_nil, List.length_cons] at hlen; omega
          | cons c u hw =>
            rw [List.zip_cons_cons] at hz
            cases hz
      rw [hv] at hR
      wp_walk
      exact ⟨_, rfl, by simpa [Builtin.Tuple.tupleCompareSizes] using hR⟩
    case h =>
      exact ⟨rfl, rfl, items.toList, items2.toList, ns, ms, rfl, hi, hj, hsz, h⟩
end
section
variable {prog : Program} {w : World} {A : Around} {E : Value → Shared → Prop} {s : Shared}
theorem le_tupInts {l b : Addr} {items items2 : Array Value} {ns ms : List Int} {Q : Value → Shared → Prop} (hl : IsTup s.heap l items) (hb : IsTup s.heap b items2) (hi : IntsAre items.toList ns) (hj : IntsAre items2.toList ms) (hsz : ns.length = ms.length)
    (hu : A.units < cLine) (h : Q (.bool (tupLe ns ms)) s) : wpAny (model prog w) A (compareOp .LtE (.ref l) (.ref b)) Q E s := by
  obtain ⟨⟨cls, dd, data, sl⟩, ho, hc, n, hd⟩ := id hl
  obtain ⟨⟨cls2, dd2, data2, sl2⟩, ho2, hc2, n2, hd2⟩ := id hb
  simp only at hc hd hc2 hd2
  subst hc hd hc2 hd2
  exact richCompare_meets_room (op := .LtE) ⟨_, ho, rfl⟩ ⟨_, ho2, rfl⟩ PySem.F.slot_tuple_le PySem.F.entry_tuple_le (PySem.F.args_tuple_le_2 _ _) (tuple_le_ints l b items items2 n n2 dd dd2 sl sl2 ns ms hi hj hsz)
    ⟨ho, ho2, show Value.bool (tupLe ns ms) ≠ Value.notImplemented ∧ Q (.bool (tupLe ns ms)) s from ⟨(fun x => nomatch x), h⟩⟩ hu
end
end HT
namespace L2
open PySem PySem.Spec PyProof.Rows
section
variable {X : Cx}

noncomputable def rleT (K : PySem.W.Frag) : R2 := fun x y H Q => ∃ p q ns ms, x = .ref p ∧ y = .ref q ∧ SqT K H p (ns.map V.int) ∧ SqT K H q (ms.map V.int) ∧ ns.length = ms.length ∧ Q (.bl (HT.tupLe ns ms)) H
theorem op_leT (hu : X.A.units < cLine) : OpR X (compareOp .LtE) (rleT X.K) := by
  intro pins s σ H x y v u Q I rx ry h
  obtain ⟨p, q, ns, ms, rfl, rfl, hp, hq, hsz, k⟩ := h
  cases rx
  cases ry
  obtain ⟨its, rv, pl, z⟩ := I.tuple hp
  obtain ⟨jts, rw', ql, z'⟩ := I.tuple hq
  exact HT.le_tupInts pl ql (by simpa using intsAre_of rv) (by simpa using intsAre_of rw') hsz hu ⟨.bl _, H, I, rfl, k⟩

noncomputable def rSlS : V → Option Int → Option Int → Hp → VK → Prop := fun x lo hi H Q => ∃ y, x = .str y ∧ y.length ≤ sizeLine ∧ Q (.str (Txt.slice y lo hi)) H
theorem sl_str : SlR X rSlS := by
  intro pins s σ H x v vl vu lo hi sl Q I rx hs pl pu h
  obtain ⟨y, rfl, hz, q⟩ := h
  obtain ⟨t, rfl⟩ := rx
  have fin : ∀ t' k, EP X pins σ Q (.str (Txt.slice y lo hi) t') { s with toks := k } := fun t' k => ⟨.str _, H, I.tok k, ⟨_, rfl⟩, q⟩
  have hlen := Nat.le_trans (Txt.slice_le y lo hi) hz
  obtain ⟨o, ho, hc, hd⟩ := hs
  refine ⟨"str", _, PySem.F.slot_str_getitem.lookup, typeIs_str _ _ _, ?_⟩
  cases pl with
  | none =>
    cases pu with
    | none => exact wpAny_getItem_str_slice (l := none) (u := none) (st := none) ⟨o, ho, hc, hd⟩ rfl (post_val_or_str ⟨hlen, fin⟩)
    | int j tj => exact wpAny_getItem_str_slice (l := none) (u := some (j, tj)) (st := none) ⟨o, ho, hc, hd⟩ rfl (post_val_or_str ⟨hlen, fin⟩)
  | int i ti =>
    cases pu with
    | none => exact wpAny_getItem_str_slice (l := some (i, ti)) (u := none) (st := none) ⟨o, ho, hc, hd⟩ rfl (post_val_or_str ⟨hlen, fin⟩)
    | int j tj => exact wpAny_getItem_str_slice (l := some (i, ti)) (u := some (j, tj)) (st := none) ⟨o, ho, hc, hd⟩ rfl (post_val_or_str ⟨hlen, fin⟩)

noncomputable def repS (y : Str) (n : Nat) : Str := ⟨(List.replicate n y.cps).foldl (· ++ ·) #[]⟩
noncomputable def rRepS : R2 := fun x z H Q => ∃ (y : Str) (n : Int), x = .str y ∧ z = .int n ∧ 2 ≤ n ∧ n ≤ 1000 ∧ 1 ≤ y.length ∧ y.length ≤ 1000 ∧ (repS y n.toNat).length ≤ sizeLine ∧ Q (.str (repS y n.toNat)) H
theorem op_repS : OpR X (binaryOp .Mult) rRepS := by
  intro pins s σ H x z v u Q I rx rz h
  obtain ⟨y, n, rfl, rfl, h1, h2, h3, h4, h5, q⟩ := h
  obtain ⟨t, rfl⟩ := rx
  obtain ⟨t', rfl⟩ := rz
  have hn1 : ¬ n < 1 := by omega
  have hn2 : (n == 1 || y.length == 0) = false := by
    have e1 : (n == 1) = false := by rw [beq_eq_false_iff_ne]; omega
    have e2 : (y.length == 0) = false := by rw [beq_eq_false_iff_ne]; omega
    rw [e1, e2]; rfl
  refine PySem.P.mul_str ?_ (fun _ _ => ?_) (fun _ _ => ?_) ?_
  · rw [decide_eq_false (show ¬ n < -(2 ^ 63 : Int) by omega), decide_eq_false (show ¬ n ≥ 2 ^ 63 by omega)]; rfl
  · have : (1000 : Int) ≤ (2 ^ 63 - 1) / n := by
      rw [Int.le_ediv_iff_mul_le (by omega)]
      omega
    omega
  · unfold Builtin.Str.tooLong
    have hm : y.length * n.toNat ≤ 1000 * 1000 := Nat.mul_le_mul h4 (by omega)
    refine decide_eq_false ?_
    show ¬ y.length * n.toNat > 16777216
    omega
  · rw [if_neg hn1, if_neg (by rw [hn2]; exact Bool.false_ne_true)]
    exact ⟨h5, ⟨.str _, H, I.tok _, ⟨_, rfl⟩, q⟩⟩

noncomputable def rInsert : V → List V → Hp → VK → Prop := fun x vs H Q => ∃ l xs i y, x = .ref l ∧ vs = [.int i, y] ∧ H l = some (.lst xs) ∧ 0 ≤ i ∧ i < 2 ^ 62 ∧ i.toNat ≤ xs.length ∧ xs.length < sizeLine ∧ Q .non (upd H l (.lst (xs.take i.toNat ++ y :: xs.drop i.toNat)))
theorem mt_insert : MtM X "list.insert" rInsert := by
  intro pins s σ H x vs v us Q I rx rv h
  obtain ⟨l, xs, i, y, rfl, rfl, hH, h0, h1, hi, hz, q⟩ := h
  cases rx
  obtain ⟨u, w, rfl, ru, rw'⟩ := vals2 rv
  obtain ⟨t, rfl⟩ := ru
  obtain ⟨z, its, n, r, hl, e⟩ := I.lstM hH
  refine call_meets PySem.F.slot_list_insert ⟨_, e, rfl⟩ PySem.F.entry_list_insert (PySem.F.args_list_insert_3 _ _ _) (PySem.AutoSeq1.list_insert_list_int_val_1 l its.toArray n i t w (by
    have hf : Builtin.List.listFitsIndex i = true := fitsIndex_both (by omega) (by omega)
    rw [hf]; decide) (by rw [List.size_toArray]; omega)) ⟨e, ?_⟩
  refine ⟨.non, _, I.lset (its' := its.take i.toNat ++ w :: its.drop i.toNat) hH e ?_ ((r.take i.toNat).append (.cons rw' (r.drop i.toNat))) ?_, rfl, q⟩
  · show (_ : Array Value) = _
    have hk : (if i < 0 then (i + ((its.toArray.size : Nat) : Int)).toNat else min i.toNat its.toArray.size) = i.toNat := by
      rw [if_neg (by omega), List.size_toArray, ← hl]
      omega
    simp only [hk]
    apply Array.toList_inj.mp
    simp [List.extract_eq_drop_take]
    exact List.take_of_length_le (by simp)
  · rw [List.length_append, List.length_cons, List.length_take, List.length_drop]
    omega

theorem call_intD : CallR X (.type "int") (fun xs H Q => ∃ (y : Str), xs = [.str y] ∧ PySem.NumText.AllDigits y.cps.toList ∧ y.cps.toList ≠ [] ∧ y.length ≤ 600 ∧ Q (.int (PySem.NumText.digitsVal y.cps.toList : Nat)) H) := by
  intro pins s σ H xs us Q I r h
  obtain ⟨y, rfl, hd, hne, hl, q⟩ := h
  obtain ⟨u, rfl, ru⟩ := vals1 r
  obtain ⟨t, rfl⟩ := ru
  exact PySem.W.KIN.call_text (PySem.intText_digits hd hne (Nat.le_trans hl (by decide))) (Nat.le_trans hl (by decide)) ⟨.int _, H, I.tok _, ⟨_, rfl⟩, q⟩
end

theorem for_str {y : Str} {g : TG} {tb : TS} {D : Ends} {σ : St} {H : Hp} (Pv : Nat → St → Hp → Prop) (h0 : Pv 0 σ H)
    (hs : ∀ i c σ H, y.cps[i]? = some c → Pv i σ H → g (.str ⟨#[c]⟩) σ H fun σ2 H2 => tb { D with nx := Pv (i + 1), ct := Pv (i + 1), bk := D.nx } σ2 H2) (hd : ∀ σ H, Pv y.cps.size σ H → D.nx σ H) :
    ∃ W : Nat → Nat → St → Hp → Prop, (∃ m, W 0 m σ H) ∧ ∀ i m σ H, W i m σ H →
      ((Its y).stop i H ∧ D.nx σ H) ∨ ((Its y).go i H ∧ ∃ N : St → Hp → Prop, (∀ σ' H', N σ' H' → ∃ m', m' < m ∧ W (i + 1) m' σ' H') ∧ ∀ x H', (Its y).yld i H x H' → g x σ H' fun σ2 H2 => tb { D with nx := N, ct := N, bk := D.nx } σ2 H2) := by
  refine ⟨fun i m σ H => m = y.cps.size - i ∧ i ≤ y.cps.size ∧ Pv i σ H, ⟨y.cps.size, by simp, Nat.zero_le _, h0⟩, ?_⟩
  rintro i m σ H ⟨rfl, hi, p⟩
  by_cases hlt : i < y.cps.size
  · refine .inr ⟨hlt, Pv (i + 1), fun σ' H' p' => ⟨y.cps.size - (i + 1), by omega, rfl, hlt, p'⟩, fun x H' yl => ?_⟩
    obtain ⟨e1, c, hc, e2⟩ := yl
    subst e1 e2
    exact hs i c σ _ hc p
  · have e : i = y.cps.size := by omega
    subst e
    exact .inl ⟨Nat.le_refl _, hd σ H p⟩
end L2

set_option maxHeartbeats 1000000

namespace Hw
open PySem L2 HwSort
open PySem.NumText

noncomputable def figB (w : Str) : Bool := w.cps.toList.all fun c => decide (48 ≤ c) && decide (c ≤ 57)
noncomputable def wval (w : Str) : Int := ((digitsVal w.cps.toList : Nat) : Int)
noncomputable def oddB (w : Str) : Bool := decide (w.length = 0) || decide (7 < w.length) || (decide (1 < w.length) && decide (w.cps[0]? = some 48))
noncomputable def lnum (w : Str) (most : Int) : Int := if oddB w = true then -1 else if figB w = true then (if most < wval w then -1 else wval w) else -1
theorem figs {w : Str} : figB w = true ↔ AllDigits w.cps.toList := by
  unfold figB AllDigits
  rw [List.all_eq_true]
  constructor
  · intro h c hc
    have := h c hc
    simp only [Bool.and_eq_true, decide_eq_true_eq] at this
    exact this
  · intro h c hc
    simp only [Bool.and_eq_true, decide_eq_true_eq]
    exact h c hc
theorem len_list (w : Str) : w.cps.toList.length = w.length := Array.length_toList
theorem canon {w : Str} (h1 : oddB w = false) (h2 : figB w = true) : w = Str.ofString (toString (wval w)) := by
  have hd := figs.mp h2
  unfold oddB at h1
  simp only [Bool.or_eq_false_iff, Bool.and_eq_false_iff, decide_eq_false_iff_not] at h1
  obtain ⟨⟨a1, a2⟩, a3⟩ := h1
  have hl := len_list w
  refine str_list ?_
  unfold wval
  rw [PySem.W.KIN.signs_num, toDigits_digitsVal (w.length - 1) w.cps.toList (by omega) hd ?_, List.map_map]
  · have e : ∀ c ∈ w.cps.toList, (Char.toNat ∘ Char.ofNat) c = c := fun c hc => by
      have := hd c hc
      have h57 : ∀ c, c < 58 → (Char.toNat ∘ Char.ofNat) c = c := by decide
      exact h57 c (by omega)
    rw [List.map_congr_left e, List.map_id']
  · rcases a3 with a3 | a3
    · left; omega
    · right
      cases e : w.cps.toList with
      | nil => rw [e] at hl; simp at hl; omega
      | cons c r =>
        refine ⟨c, r, rfl, ?_⟩
        have hc := hd c (by rw [e]; exact List.mem_cons_self)
        have h0 : w.cps[0]? = some c := by rw [← Array.getElem?_toList, e]; rfl
        rw [h0] at a3
        by_cases hc48 : c = 48
        · rw [hc48] at a3; exact absurd rfl a3
        · omega
theorem dig_lt : ∀ (cs : List Nat) (a : Nat), AllDigits cs → cs.foldl (fun acc c => acc * 10 + (c - 48)) a < (a + 1) * 10 ^ cs.length
  | [], a, _ => by simp
  | c :: r, a, h => by
    have ih := dig_lt r (a * 10 + (c - 48)) h.tail
    have hc := h.head
    refine Nat.lt_of_lt_of_le (show (c :: r).foldl (fun acc c => acc * 10 + (c - 48)) a < _ from ih) ?_
    rw [List.length_cons, Nat.pow_succ, Nat.mul_comm (10 ^ r.length) 10, ← Nat.mul_assoc]
    exact Nat.mul_le_mul_right _ (by omega)
theorem wval_nonneg (w : Str) : 0 ≤ wval w := by unfold wval; omega

theorem lnum_text {w : Str} {most : Int} (h : lnum w most ≠ -1) : 0 ≤ lnum w most ∧ lnum w most ≤ most ∧ w = Str.ofString (toString (lnum w most)) := by
  unfold lnum at h ⊢
  by_cases h1 : oddB w = true
  · rw [if_pos h1] at h; exact absurd rfl h
  · rw [if_neg h1] at h ⊢
    by_cases h2 : figB w = true
    · rw [if_pos h2] at h ⊢
      by_cases h3 : most < wval w
      · rw [if_pos h3] at h; exact absurd rfl h
      · rw [if_neg h3]
        exact ⟨wval_nonneg w, by omega, canon (Bool.eq_false_iff.mpr h1) h2⟩
    · rw [if_neg h2] at h; exact absurd rfl h
theorem num_val {n : Int} (h0 : 0 ≤ n) : wval (Str.ofString (toString n)) = n := by
  obtain ⟨m, rfl⟩ := Int.eq_ofNat_of_zero_le h0
  unfold wval
  rw [PySem.W.KIN.signs_num, PySem.W.KIN.val_back]
theorem num_figs {n : Int} (h0 : 0 ≤ n) : figB (Str.ofString (toString n)) = true := figs.mpr (num_signs h0)
theorem num_odd {n : Int} (h0 : 0 ≤ n) (h1 : n ≤ 1000000) : oddB (Str.ofString (toString n)) = false := by
  have l1 := num_pos h0
  have l2 := num_len h0 h1
  unfold oddB
  rw [decide_eq_false (show ¬ (Str.ofString (toString n)).length = 0 by omega), decide_eq_false (show ¬ 7 < (Str.ofString (toString n)).length by omega), Bool.false_or, Bool.false_or]
  by_cases hl : 1 < (Str.ofString (toString n)).length
  · rw [decide_eq_true hl, Bool.true_and, decide_eq_false_iff_not]
    intro z
    obtain ⟨m, rfl⟩ := Int.eq_ofNat_of_zero_le h0
    have hm : 0 < m := by
      rcases Nat.eq_zero_or_pos m with rfl | h
      · exact absurd hl (by decide +kernel)
      · exact h
    have e1 : (Nat.toDigits 10 m).map Char.toNat = (Str.ofString (toString ((m : Nat) : Int))).cps.toList := (PySem.W.KIN.signs_num m).symm
    cases e : (Str.ofString (toString ((m : Nat) : Int))).cps.toList with
    | nil =>
      have := len_list (Str.ofString (toString ((m : Nat) : Int)))
      rw [e, List.length_nil] at this
      omega
    | cons c r =>
      rw [← Array.getElem?_toList, e] at z
      have hc : c = 48 := by simpa using z
      rw [hc] at e
      -- the value is told by the rest, which is too short
      have hv := PySem.W.KIN.val_back m
      rw [e1, e, digitsVal_zero] at hv
      have hr : AllDigits r := fun d hd => num_signs (n := ((m : Nat) : Int)) (by omega) d (by rw [e]; exact List.mem_cons_of_mem _ hd)
      have hlt : digitsVal r < 10 ^ r.length := by
        have := dig_lt r 0 hr
        rwa [Nat.zero_add, Nat.one_mul] at this
      have hlen : (Nat.toDigits 10 m).length = r.length + 1 := by
        rw [← List.length_map (f := Char.toNat), e1, e, List.length_cons]
      have hge : 10 ^ r.length ≤ m := by
        rcases Nat.lt_or_ge m (10 ^ r.length) with h | h
        · have hr0 : r ≠ [] := by
            intro z
            rw [z] at hv
            have : digitsVal [] = 0 := rfl
            omega
          obtain ⟨k, hk⟩ : ∃ k, r.length = k + 1 := ⟨r.length - 1, by have := List.length_pos_iff.mpr hr0; omega⟩
          have := (Nat.length_toDigits_le_iff (b := 10) (k := r.length) (by decide) (by omega)).mpr h
          omega
        · exact h
      omega
  · rw [decide_eq_false hl]; rfl
theorem lnum_num {n most : Int} (h0 : 0 ≤ n) (h1 : n ≤ 1000000) (hm : n ≤ most) : lnum (Str.ofString (toString n)) most = n := by
  unfold lnum
  rw [if_neg (by rw [num_odd h0 h1]; exact Bool.false_ne_true), if_pos (num_figs h0), num_val h0, if_neg (by omega)]

noncomputable def pairB (many : Int) (last : Pr) (a b : Int) : Bool := !(decide (a = -1) || decide (b = -1)) && !decide (a = b) && !decide (b = 0) && !HT.tupLe [a, b] [last.1, last.2]
noncomputable def wordsB (many : Int) (last : Pr) : List Str → Option Pr
  | [w0, w1, w2, w3, w4] => if (w1 = "to" ∧ w3 = "costs") ∧ pairB many last (lnum w0 (many - 1)) (lnum w2 (many - 1)) = true ∧ ¬ lnum w4 1000000 < 0 then some (lnum w0 (many - 1), lnum w2 (many - 1)) else none
  | _ => none
noncomputable def lineB (many : Int) (last : Pr) (line : Str) : Option Pr := wordsB many last (Txt.split line " ")
noncomputable def linesB (many : Int) : Pr → List Str → Option Pr
  | last, [] => some last
  | last, l :: r => (lineB many last l).bind fun p => linesB many p r
noncomputable def headB : List Str → Option Int
  | [w0, w1] => if w0 = "tellers" then some (lnum w1 12) else none
  | _ => none
noncomputable def goodL (ls : List Str) : Bool := match headB (Txt.split (ls.headD "") " ") with
  | none => false
  | some many => (linesB many (-1, -1) ls.tail).isSome && decide (0 < many)
noncomputable def goodB (t : Str) : Bool := goodL (Txt.split t "\n")
theorem tupLe_lt {a b c d : Int} : HT.tupLe [a, b] [c, d] = false ↔ ltP (c, d) (a, b) := by
  show (if a = c then (if b = d then true else decide (b ≤ d)) else decide (a ≤ c)) = false ↔ (c < a ∨ c = a ∧ d < b)
  by_cases h1 : a = c
  · rw [if_pos h1]
    by_cases h2 : b = d
    · rw [if_pos h2]
      constructor
      · intro h; cases h
      · rintro (h | h) <;> omega
    · rw [if_neg h2, decide_eq_false_iff_not]
      constructor
      · intro h; right; omega
      · rintro (h | h) <;> omega
  · rw [if_neg h1, decide_eq_false_iff_not]
    constructor
    · intro h; left; omega
    · rintro (h | h) <;> omega
theorem pair_ok {many : Int} {last : Pr} {a b : Int} (h : pairB many last a b = true) : a ≠ -1 ∧ b ≠ -1 ∧ a ≠ b ∧ b ≠ 0 ∧ ltP last (a, b) := by
  unfold pairB at h
  simp only [Bool.and_eq_true, Bool.not_eq_true', Bool.or_eq_false_iff, decide_eq_false_iff_not] at h
  obtain ⟨⟨⟨⟨h1, h2⟩, h3⟩, h4⟩, h5⟩ := h
  exact ⟨h1, h2, h3, h4, tupLe_lt.mp h5⟩
theorem pair_mk {many : Int} {last : Pr} {a b : Int} (h1 : 0 ≤ a) (h2 : 0 ≤ b) (h3 : a ≠ b) (h4 : b ≠ 0) (h5 : ltP last (a, b)) : pairB many last a b = true := by
  unfold pairB
  rw [decide_eq_false (show ¬ a = -1 by omega), decide_eq_false (show ¬ b = -1 by omega), decide_eq_false h3, decide_eq_false h4, tupLe_lt.mpr h5]
  rfl
theorem words_good {many : Int} {last p : Pr} {ws : List Str} (h : wordsB many last ws = some p) : ∃ c : Int, 0 ≤ c ∧ c ≤ 1000000 ∧ Ok2 many p.1 p.2 ∧ ltP last p ∧ ws = [Str.ofString (toString p.1), "to", Str.ofString (toString p.2), "costs", Str.ofString (toString c)] := by
  unfold wordsB at h
  split at h
  · rename_i w0 w1 w2 w3 w4
    by_cases hc : (w1 = "to" ∧ w3 = "costs") ∧ pairB many last (lnum w0 (many - 1)) (lnum w2 (many - 1)) = true ∧ ¬ lnum w4 1000000 < 0
    · rw [if_pos hc] at h
      obtain rfl := Option.some.inj h
      obtain ⟨⟨rfl, rfl⟩, hp, hl⟩ := hc
      obtain ⟨h1, h2, h3, h4, h5⟩ := pair_ok hp
      obtain ⟨a1, a2, a3⟩ := lnum_text h1
      obtain ⟨b1, b2, b3⟩ := lnum_text h2
      obtain ⟨c1, c2, c3⟩ := lnum_text (w := w4) (most := 1000000) (by omega)
      refine ⟨lnum w4 1000000, c1, c2, ⟨a1, by omega, b1, by omega, h3, h4⟩, h5, ?_⟩
      rw [← a3, ← b3, ← c3]
    · rw [if_neg hc] at h; cases h
  · cases h
theorem line_good {many : Int} {last p : Pr} {line : Str} (h : lineB many last line = some p) : ∃ c : Int, 0 ≤ c ∧ c ≤ 1000000 ∧ Ok2 many p.1 p.2 ∧ ltP last p ∧ line = lineS (p, c) := by
  obtain ⟨c, c0, c1, ok, lt, e⟩ := words_good h
  refine ⟨c, c0, c1, ok, lt, ?_⟩
  rw [line_words, ← e, StrLaws.join_split]
theorem line_back {many : Int} {last : Pr} {e : Pr × Int} (hm : many ≤ 12) (ok : Ok2 many e.1.1 e.1.2) (hc : 0 ≤ e.2 ∧ e.2 ≤ 1000000) (lt : ltP last e.1) : lineB many last (lineS e) = some e.1 := by
  obtain ⟨h1, h2, h3, h4, h5, h6⟩ := ok
  have hin : RowIn e := ⟨⟨h1, by omega⟩, ⟨h3, by omega⟩, hc⟩
  unfold lineB
  rw [line_split hin]
  show (if _ then _ else _) = _
  rw [lnum_num h1 (by omega) (by omega), lnum_num h3 (by omega) (by omega), lnum_num hc.1 hc.2 hc.2, if_pos ⟨⟨rfl, rfl⟩, pair_mk h1 h3 h5 h6 lt, by omega⟩]
theorem lines_rows {many : Int} : ∀ {ls : List Str} {last q : Pr}, linesB many last ls = some q → ∃ cs : Cs, ls = cs.map lineS ∧ (keysC cs).Pairwise ltP ∧ (∀ k ∈ keysC cs, ltP last k ∧ Ok2 many k.1 k.2) ∧ ∀ e ∈ cs, 0 ≤ e.2 ∧ e.2 ≤ 1000000
  | [], last, q, _ => ⟨[], rfl, .nil, (fun k hk => by cases hk), fun e he => by cases he⟩
  | l :: r, last, q, h => by
    have h' : (lineB many last l).bind (fun p => linesB many p r) = some q := h
    obtain ⟨p, hp, hr⟩ := Option.bind_eq_some_iff.mp h'
    obtain ⟨c, c0, c1, ok, lt, rfl⟩ := line_good hp
    obtain ⟨cs, rfl, rise, hk, hc⟩ := lines_rows hr
    refine ⟨(p, c) :: cs, rfl, .cons (fun k hk' => (hk k hk').1) rise, fun k hk' => ?_, fun e he => ?_⟩
    · rcases List.mem_cons.mp hk' with rfl | hk'
      · exact ⟨lt, ok⟩
      · refine ⟨?_, (hk k hk').2⟩
        have h1 := (hk k hk').1
        unfold ltP at lt h1 ⊢
        omega
    · rcases List.mem_cons.mp he with rfl | he
      · exact ⟨c0, c1⟩
      · exact hc e he
theorem lines_back {many : Int} (hm : many ≤ 12) : ∀ {cs : Cs} {last : Pr}, (keysC cs).Pairwise ltP → (∀ k ∈ keysC cs, ltP last k ∧ Ok2 many k.1 k.2) → (∀ e ∈ cs, 0 ≤ e.2 ∧ e.2 ≤ 1000000) → (linesB many last (cs.map lineS)).isSome = true
  | [], last, _, _, _ => rfl
  | e :: r, last, rise, hk, hc => by
    show ((lineB many last (lineS e)).bind fun p => linesB many p (r.map lineS)).isSome = true
    obtain ⟨h1, h2⟩ := hk e.1 List.mem_cons_self
    rw [line_back hm h2 (hc e List.mem_cons_self) h1, Option.bind_some]
    have rise' : (e.1 :: keysC r).Pairwise ltP := rise
    cases rise' with
    | cons ra rb => exact lines_back hm rb (fun k hk' => ⟨ra k hk', (hk k (List.mem_cons_of_mem _ hk')).2⟩) fun x hx => hc x (List.mem_cons_of_mem _ hx)

theorem good_rows {t : Str} (h : goodB t = true) : ∃ (n : Nat) (cs : Cs), 1 ≤ n ∧ n ≤ 12 ∧ RowsOk n cs ∧ t = textS n cs := by
  unfold goodB goodL at h
  have hne : Txt.split t "\n" ≠ [] := fun z => by
    have := PyProof.Rows.split_pos t "\n"
    rw [z] at this
    exact absurd this (by decide)
  obtain ⟨l0, ls, hls⟩ : ∃ l0 ls, Txt.split t "\n" = l0 :: ls := List.exists_cons_of_ne_nil hne
  have htj : Str.join "\n" (l0 :: ls) = t := by rw [← hls]; exact StrLaws.join_split _ _
  rw [hls, List.headD_cons, List.tail_cons] at h
  cases hh : headB (Txt.split l0 " ") with
  | none => rw [hh] at h; cases h
  | some many =>
    rw [hh] at h
    simp only [Bool.and_eq_true, decide_eq_true_eq] at h
    obtain ⟨hl, hm⟩ := h
    obtain ⟨q, hq⟩ := Option.isSome_iff_exists.mp hl
    obtain ⟨cs, rfl, rise, hk, hc⟩ := lines_rows hq
    have hw : ∃ w1, Txt.split l0 " " = [("tellers" : Str), w1] ∧ many = lnum w1 12 := by
      unfold headB at hh
      split at hh
      · rename_i w0 w1 hs
        by_cases h0 : w0 = "tellers"
        · rw [if_pos h0] at hh
          exact ⟨w1, by rw [hs, h0], (Option.some.inj hh).symm⟩
        · rw [if_neg h0] at hh; cases hh
      · cases hh
    obtain ⟨w1, hs, rfl⟩ := hw
    obtain ⟨n1, n2, n3⟩ := lnum_text (w := w1) (most := 12) (by omega)
    obtain ⟨n, hn⟩ := Int.eq_ofNat_of_zero_le n1
    have hl0 : l0 = headS n := by
      rw [head_words, ← hn, ← n3, ← hs, StrLaws.join_split]
    rw [hn] at hk n2 hm
    have ok : ∀ k ∈ keysC cs, Ok2 n k.1 k.2 := fun k hk' => (hk k hk').2
    refine ⟨n, cs, by omega, by omega, ⟨rise, ok, hc, ?_⟩, ?_⟩
    · have := keys_few (rise_nd rise) ok
      have h12 : n * n ≤ 12 * 12 := Nat.mul_le_mul (by omega) (by omega)
      omega
    · rw [← htj, hl0, text_join]
theorem good_text {n : Nat} {cs : Cs} (n1 : 1 ≤ n) (n12 : n ≤ 12) (R : RowsOk n cs) : goodB (textS n cs) = true := by
  unfold goodB goodL
  rw [text_split (by omega) (rowIn_of n12 R), List.headD_cons, List.tail_cons, head_split (by omega)]
  show (match (if ("tellers" : Str) = "tellers" then some (lnum (Str.ofString (toString ((n : Nat) : Int))) 12) else none) with | none => false | some many => _) = true
  rw [if_pos rfl, lnum_num (by omega) (by omega) (by omega)]
  show (_ && decide (0 < ((n : Nat) : Int))) = true
  rw [lines_back (by omega) R.rise (fun k hk => ⟨?_, R.ok k hk⟩) R.cost, decide_eq_true (by omega)]
  · rfl
  · have := (R.ok k hk).1
    left
    show (-1 : Int) < k.1
    omega
end Hw

set_option maxHeartbeats 1000000

namespace Hw
open PySem L2 HwSort
open PySem.NumText
theorem fig_in : ∀ c < 128, (!(Builtin.Str.occurrences ("0123456789" : Str) ⟨#[c]⟩ 0 ("0123456789" : Str).length 1).isEmpty) = (decide (48 ≤ c) && decide (c ≤ 57)) := by decide +kernel
theorem asc_mem {y : Str} : y.cps.all (· < 128) = true ↔ ∀ c ∈ y.cps.toList, c < 128 := by
  rw [Array.all_eq_true_iff_forall_mem]
  constructor
  · intro h c hc
    exact of_decide_eq_true (h c (Array.mem_toList_iff.mp hc))
  · intro h c hc
    exact decide_eq_true (h c (Array.mem_toList_iff.mpr hc))
theorem join_mem {c d : Nat} : ∀ {ps : List Str} {p : Str}, p ∈ ps → d ∈ p.cps.toList → d ∈ (Str.join ⟨#[c]⟩ ps).cps.toList
  | [q], p, hp, hd => by rw [List.mem_singleton.mp hp] at hd; exact hd
  | q :: q' :: r, p, hp, hd => by
    rw [join_two]
    rcases List.mem_cons.mp hp with rfl | hp
    · exact List.mem_append_left _ hd
    · exact List.mem_append_right _ (List.mem_cons_of_mem _ (join_mem hp hd))
theorem join_le {c : Nat} : ∀ {ps : List Str} {p : Str}, p ∈ ps → p.length ≤ (Str.join ⟨#[c]⟩ ps).length
  | [q], p, hp => by rw [List.mem_singleton.mp hp]; exact Nat.le_refl _
  | q :: q' :: r, p, hp => by
    have e : (Str.join ⟨#[c]⟩ (q :: q' :: r)).length = q.length + (1 + (Str.join ⟨#[c]⟩ (q' :: r)).length) := by
      rw [← len_list, join_two, List.length_append, List.length_cons, len_list, len_list]
      omega
    rcases List.mem_cons.mp hp with rfl | hp
    · omega
    · have := join_le (c := c) hp
      omega
theorem join_count {c : Nat} : ∀ {ps : List Str}, ps ≠ [] → (∀ p ∈ ps, c ∉ p.cps.toList) → (Str.join ⟨#[c]⟩ ps).cps.toList.count c + 1 = ps.length
  | [q], _, h => by
    show q.cps.toList.count c + 1 = 1
    rw [List.count_eq_zero.mpr (h q List.mem_cons_self)]
  | q :: q' :: r, _, h => by
    rw [join_two, List.count_append, List.count_cons_self, List.count_eq_zero.mpr (h q List.mem_cons_self), Nat.zero_add, join_count (ps := q' :: r) (by simp) fun p hp => h p (List.mem_cons_of_mem _ hp)]
    rfl
theorem split_ne (y z : Str) : Txt.split y z ≠ [] := fun e => by
  have := PyProof.Rows.split_pos y z
  rw [e] at this
  exact absurd this (by decide)
theorem part_asc {y p : Str} {c : Nat} (h : y.cps.all (· < 128) = true) (hp : p ∈ Txt.split y ⟨#[c]⟩) : p.cps.all (· < 128) = true := by
  rw [asc_mem] at h ⊢
  intro d hd
  refine h d ?_
  have := join_mem (c := c) hp hd
  rwa [StrLaws.join_split] at this
theorem part_le {y p : Str} {c : Nat} (hp : p ∈ Txt.split y ⟨#[c]⟩) : p.length ≤ y.length := by
  have := join_le (c := c) hp
  rwa [StrLaws.join_split] at this
theorem split_count (y : Str) (c : Nat) : (Txt.split y ⟨#[c]⟩).length = y.cps.toList.count c + 1 := by
  have := join_count (c := c) (split_ne y ⟨#[c]⟩) (StrLaws.split_free y c)
  rw [StrLaws.join_split] at this
  exact this.symm

structure Plain (t : Str) : Prop where
  asc : t.cps.all (· < 128) = true
  len : t.length ≤ 10000
  few : t.cps.toList.count 10 ≤ 60

noncomputable def readX : List Ex := [.BadText, .NoBook, .NoTeller, .Alone, .First]
inductive sp_numberX (xa : Ex → Addr) (vs : List V) (H : Hp) (Q : VK) (E : XK) : Prop
  | mk (w : Str) (h09 : vs = [.str w]) (h19 : w.cps.all (· < 128) = true) (h29 : w.length ≤ 10000) (h39 : ((1 ≤ w.length ∧ w.length ≤ 7) ∧ figB w = true → ∀ H', Same H H' → Q (.int (wval w)) H')) (h49 : (¬ ((1 ≤ w.length ∧ w.length ≤ 7) ∧ figB w = true) → ∀ H', Same H H' → E (.ref (xa .BadText)) none H')) : sp_numberX xa vs H Q E
inductive sp_wordsX (xa : Ex → Addr) (vs : List V) (H : Hp) (Q : VK) (E : XK) : Prop
  | mk (line : Str) (k : Int) (h09 : vs = [.str line, .int k]) (h19 : line.length ≤ 10000) (h29 : (((Txt.split line " ").length : Int) = k → ∀ p H', Same H H' → H p = none → H' p = some (.lst ((Txt.split line " ").map V.str)) → Q (.ref p) H')) (h39 : (¬ ((Txt.split line " ").length : Int) = k → ∀ H', Same H H' → E (.ref (xa .BadText)) none H')) : sp_wordsX xa vs H Q E
inductive sp_letlX (xa : Ex → Addr) (C : Addr) (vs : List V) (H : Hp) (Q : VK) (E : XK) : Prop
  | mk (p d : Addr) (n : Nat) (cs : Cs) (line : Str) (h09 : vs = [.ref p, .str line]) (h19 : BookAt C H p d n cs) (h29 : cs.length < 1000) (h39 : line.cps.all (· < 128) = true) (h49 : line.length ≤ 10000) (h59 : (∀ x ∈ readX, ∀ H', Same H H' → E (.ref (xa x)) none H')) (h69 : ∀ one other c H', Ok2 n one other → 0 ≤ c → c ≤ 1000000 → BookAt C H' p d n (putC cs (one, other) c) → KeepBut d H H' → Q .non H') : sp_letlX xa C vs H Q E
inductive sp_bookofA (xa : Ex → Addr) (C : Addr) (vs : List V) (H : Hp) (Q : VK) (E : XK) : Prop
  | mk (t : Str) (h09 : vs = [.str t]) (h19 : Plain t) (h29 : (∀ x ∈ readX, ∀ H', Same H H' → E (.ref (xa x)) none H')) (h39 : ∀ (n : Nat) cs p d H', 1 ≤ n → n ≤ 12 → HsOk n cs → (∀ e ∈ cs, e.2 ≤ 1000000) → cs.length ≤ 60 → BookAt C H' p d n cs → Same H H' → Q (.ref p) H') : sp_bookofA xa C vs H Q E
noncomputable def sp_readN (xa : Ex → Addr) : Sp := fun vs H _ E => ∃ t : Str, vs = [.str t] ∧ Plain t ∧ goodB t = false ∧ ∀ d H', Same H H' → E (.ref (xa .BadText)) d H'
theorem cost_put {cs : Cs} {k : Pr} {v m : Int} (h : ∀ e ∈ cs, e.2 ≤ m) (hv : v ≤ m) : ∀ e ∈ putC cs k v, e.2 ≤ m := fun e he => by
  unfold putC at he
  split at he
  · obtain ⟨x, hx, rfl⟩ := List.mem_map.mp he
    by_cases hxk : x.1 = k
    · rw [if_pos hxk]; exact hv
    · rw [if_neg hxk]; exact h x hx
  · rcases List.mem_append.mp he with h1 | h1
    · exact h e h1
    · rw [List.mem_singleton.mp h1]; exact hv
theorem refuses_read {n one other : Int} {x : Ex} (h : refuses n one other = some x) : x ∈ readX := by
  unfold refuses at h
  split at h
  · cases h; decide
  · split at h
    · cases h; decide
    · split at h
      · cases h; decide
      · cases h
end Hw

set_option maxHeartbeats 1000000

namespace Hw
open PySem L2 HwSort

structure Row (y : Str) : Prop where
  asc : y.cps.all (· < 128) = true
  one : 10 ∉ y.cps.toList
noncomputable def wide (ys : List Str) : Nat := (ys.map (·.length)).sum + ys.length
theorem wide_cons (y : Str) (ys : List Str) : wide (y :: ys) = y.length + 1 + wide ys := by
  unfold wide
  rw [List.map_cons, List.sum_cons, List.length_cons]
  omega
theorem wide_mem : ∀ {ys : List Str} {y : Str}, y ∈ ys → y.length + 1 ≤ wide ys
  | z :: r, y, h => by
    rw [wide_cons]
    rcases List.mem_cons.mp h with rfl | h
    · omega
    · have := wide_mem h; omega
theorem wide_set : ∀ {ys : List Str} {k : Nat} {s : Str}, wide (ys.set k s) ≤ wide ys + s.length
  | [], _, _ => Nat.le_add_right _ _
  | y :: r, 0, s => by rw [List.set_cons_zero, wide_cons, wide_cons]; omega
  | y :: r, k + 1, s => by
    rw [List.set_cons_succ, wide_cons, wide_cons]
    have := wide_set (ys := r) (k := k) (s := s)
    omega
theorem wide_app : ∀ {ys zs : List Str}, wide (ys ++ zs) = wide ys + wide zs
  | [], zs => by show wide zs = 0 + 0 + wide zs; omega
  | y :: r, zs => by
    rw [List.cons_append, wide_cons, wide_cons, wide_app]
    omega
theorem wide_put {ys : List Str} {k : Nat} {s : Str} : wide (ys.take k ++ s :: ys.drop k) = wide ys + s.length + 1 := by
  have h : wide ys = wide (ys.take k) + wide (ys.drop k) := by rw [← wide_app, List.take_append_drop]
  rw [wide_app, wide_cons, h]
  omega
theorem wide_tail {y : Str} {ys : List Str} : wide ys ≤ wide (y :: ys) := by rw [wide_cons]; omega
theorem wide_le {B : Nat} : ∀ {ys : List Str}, (∀ y ∈ ys, y.length ≤ B) → wide ys ≤ ys.length * (B + 1)
  | [], _ => Nat.zero_le _
  | y :: r, h => by
    rw [wide_cons, List.length_cons, Nat.succ_mul]
    have h1 := wide_le fun z hz => h z (List.mem_cons_of_mem _ hz)
    have h2 := h y List.mem_cons_self
    omega
theorem join_wide {c : Nat} : ∀ {ps : List Str}, ps ≠ [] → (Str.join ⟨#[c]⟩ ps).length + 1 = wide ps
  | [q], _ => by rw [wide_cons]; rfl
  | q :: q' :: r, _ => by
    have e : (Str.join ⟨#[c]⟩ (q :: q' :: r)).length = q.length + (1 + (Str.join ⟨#[c]⟩ (q' :: r)).length) := by
      rw [← len_list, join_two, List.length_append, List.length_cons, len_list, len_list]
      omega
    have ih := join_wide (c := c) (ps := q' :: r) (by simp)
    rw [wide_cons, ← ih, e]
    omega
theorem join_sub {c d : Nat} : ∀ {ps : List Str}, d ∈ (Str.join ⟨#[c]⟩ ps).cps.toList → d = c ∨ ∃ p ∈ ps, d ∈ p.cps.toList
  | [], h => by
    have h' : d ∈ (#[] : Array Nat).toList := h
    cases h'
  | [q], h => .inr ⟨q, List.mem_cons_self, h⟩
  | q :: q' :: r, h => by
    rw [join_two] at h
    rcases List.mem_append.mp h with h | h
    · exact .inr ⟨q, List.mem_cons_self, h⟩
    · rcases List.mem_cons.mp h with h | h
      · exact .inl h
      · rcases join_sub h with h | ⟨p, hp, hd⟩
        · exact .inl h
        · exact .inr ⟨p, List.mem_cons_of_mem _ hp, hd⟩

theorem row_join {ws : List Str} (h : ∀ p ∈ ws, Row p) : Row (Str.join " " ws) := by
  rw [blank_eq]
  refine ⟨asc_mem.mpr fun d hd => ?_, fun z => ?_⟩
  · rcases join_sub hd with rfl | ⟨p, hp, hd⟩
    · decide
    · exact asc_mem.mp (h p hp).asc d hd
  · rcases join_sub z with z | ⟨p, hp, hd⟩
    · cases z
    · exact (h p hp).one hd
theorem row_split {y : Str} (h : Row y) : ∀ p ∈ Txt.split y " ", Row p := fun p hp => by
  rw [blank_eq] at hp
  refine ⟨part_asc h.asc hp, fun z => h.one ?_⟩
  have := join_mem (c := 32) hp z
  rwa [StrLaws.join_split] at this
theorem wide_split (y : Str) : wide (Txt.split y " ") = y.length + 1 := by
  rw [blank_eq, ← join_wide (c := 32) (split_ne _ _), StrLaws.join_split]
theorem row_app {a b : Str} (ha : Row a) (hb : Row b) : Row (a ++ b) := by
  refine ⟨asc_mem.mpr fun d hd => ?_, fun z => ?_⟩
  · rcases mem_app.mp hd with h | h
    · exact asc_mem.mp ha.asc d h
    · exact asc_mem.mp hb.asc d h
  · rcases mem_app.mp z with h | h
    · exact ha.one h
    · exact hb.one h
noncomputable def rowB (y : Str) : Bool := y.cps.all (· < 128) && !y.cps.toList.contains 10
theorem row_of {y : Str} (h : rowB y = true) : Row y := by
  unfold rowB at h
  simp only [Bool.and_eq_true, Bool.not_eq_true', List.contains_eq_mem, decide_eq_false_iff_not] at h
  exact ⟨h.1, h.2⟩

theorem plain_join {ys : List Str} (h : ∀ y ∈ ys, Row y) (hw : wide ys ≤ 3000) (hl : ys.length ≤ 30) : (Str.join "\n" ys).cps.all (· < 128) = true ∧ (Str.join "\n" ys).length ≤ 3000 ∧ (Str.join "\n" ys).cps.toList.count 10 ≤ 30 := by
  rw [nl_eq]
  refine ⟨asc_mem.mpr fun d hd => ?_, ?_, ?_⟩
  · rcases join_sub hd with rfl | ⟨p, hp, hd⟩
    · decide
    · exact asc_mem.mp (h p hp).asc d hd
  · by_cases hn : ys = []
    · rw [hn]; exact Nat.zero_le _
    · have := join_wide (c := 10) hn; omega
  · by_cases hn : ys = []
    · rw [hn]; exact Nat.zero_le _
    · have := join_count (c := 10) hn fun p hp => (h p hp).one
      omega
theorem slice_head (x : Str) {k : Nat} (h : k ≤ x.length) : (Txt.slice x none (some (k : Int))).cps.toList = x.cps.toList.take k := by
  have e : Builtin.Str.strSliceIndices none (some (k : Int)) 1 x.length = Builtin.Str.strSliceIndices (some ((0 : Nat) : Int)) (some (k : Int)) 1 x.length := by
    unfold Builtin.Str.strSliceIndices
    simp
    congr 1
  have hl := len_list x
  unfold Txt.slice
  rw [e]
  split
  · rename_i hc
    rw [StrLaws.strSliceIndices_plain (Nat.zero_le _) h, List.length_map, List.length_range] at hc
    have : k = x.length := by simpa using hc
    rw [this, ← hl, List.take_length]
  · show (List.filterMap _ _).toArray.toList = _
    rw [StrLaws.sliced_plain x (Nat.zero_le _) h]
    rfl
theorem slice_tail (x : Str) {k : Nat} (h : k ≤ x.length) : (Txt.slice x (some (k : Int)) none).cps.toList = x.cps.toList.drop k := by
  have e : Builtin.Str.strSliceIndices (some (k : Int)) none 1 x.length = Builtin.Str.strSliceIndices (some (k : Int)) (some ((x.length : Nat) : Int)) 1 x.length := by
    unfold Builtin.Str.strSliceIndices
    simp
    congr 1
    rw [if_neg (by omega)]
    omega
  have hl := len_list x
  unfold Txt.slice
  rw [e]
  split
  · rename_i hc
    rw [StrLaws.strSliceIndices_plain h (Nat.le_refl _), List.length_map, List.length_range] at hc
    have : k = 0 ∨ x.length = 0 := by
      have : x.length - k = x.length := by simpa using hc
      omega
    rcases this with z | z
    · rw [z, List.drop_zero]
    · have : x.cps.toList = [] := List.eq_nil_of_length_eq_zero (by omega)
      rw [this, List.drop_nil]
  · show (List.filterMap _ _).toArray.toList = _
    rw [StrLaws.sliced_plain x h (Nat.le_refl _)]
    exact List.take_of_length_le (by rw [List.length_drop, hl]; exact Nat.le_refl _)

theorem plain_put {x y : Str} {k : Nat} (h1 : x.cps.all (· < 128) = true) (h2 : x.length ≤ 3000) (h3 : x.cps.toList.count 10 ≤ 30) (hk : k ≤ x.length) (hy : y = " " ∨ y = "\n") : Plain (Txt.slice x none (some (k : Int)) ++ y ++ Txt.slice x (some (k : Int)) none) := by
  have hy1 : y.cps.all (· < 128) = true ∧ y.length = 1 ∧ y.cps.toList.count 10 ≤ 1 := by
    rcases hy with rfl | rfl
    · rw [blank_eq]; decide +kernel
    · rw [nl_eq]; decide +kernel
  have e : (Txt.slice x none (some (k : Int)) ++ y ++ Txt.slice x (some (k : Int)) none).cps.toList = x.cps.toList.take k ++ y.cps.toList ++ x.cps.toList.drop k := by
    rw [Str.cps_append, Str.cps_append, Array.toList_append, Array.toList_append, slice_head x hk, slice_tail x hk]
  have hl := len_list x
  have hly := len_list y
  refine ⟨asc_mem.mpr fun d hd => ?_, ?_, ?_⟩
  · rw [e] at hd
    rcases List.mem_append.mp hd with hd | hd
    · rcases List.mem_append.mp hd with hd | hd
      · exact asc_mem.mp h1 d (List.mem_of_mem_take hd)
      · exact asc_mem.mp hy1.1 d hd
    · exact asc_mem.mp h1 d (List.mem_of_mem_drop hd)
  · rw [← len_list, e, List.length_append, List.length_append, List.length_take, List.length_drop]
    omega
  · rw [e, List.count_append, List.count_append]
    have := List.take_append_drop k x.cps.toList
    have hc : x.cps.toList.count 10 = (x.cps.toList.take k).count 10 + (x.cps.toList.drop k).count 10 := by rw [← List.count_append, this]
    omega
theorem repS_list (y : Str) : ∀ n, (repS y n).cps.toList = (List.replicate n y.cps.toList).flatten := by
  have key : ∀ (n : Nat) (a : Array Nat), ((List.replicate n y.cps).foldl (· ++ ·) a).toList = a.toList ++ (List.replicate n y.cps.toList).flatten := by
    intro n
    induction n with
    | zero => intro a; simp
    | succ n ih =>
      intro a
      rw [List.replicate_succ, List.foldl_cons, ih, List.replicate_succ, List.flatten_cons, Array.toList_append, List.append_assoc]
  intro n
  have := key n #[]
  rw [show (#[] : Array Nat).toList = [] from rfl, List.nil_append] at this
  exact this
theorem row_rep {y : Str} (h : Row y) (n : Nat) : Row (repS y n) := by
  have hm : ∀ d ∈ (repS y n).cps.toList, d ∈ y.cps.toList := fun d hd => by
    rw [repS_list] at hd
    obtain ⟨l, hl, hd⟩ := List.mem_flatten.mp hd
    rw [List.eq_of_mem_replicate hl] at hd
    exact hd
  exact ⟨asc_mem.mpr fun d hd => asc_mem.mp h.asc d (hm d hd), fun z => h.one (hm _ z)⟩
theorem rep_len (y : Str) (n : Nat) : (repS y n).length = n * y.length := by
  rw [← len_list, repS_list, List.length_flatten, List.map_replicate, List.sum_replicate_nat, len_list]

theorem rows_text {n : Nat} {cs : Cs} (hn : n ≤ 12) (R : RowsOk n cs) : ∀ y ∈ headS n :: cs.map lineS, Row y ∧ y.length ≤ 32 := by
  have hin := rowIn_of hn R
  have numR : ∀ i : Int, 0 ≤ i → Row (Str.ofString (toString i)) := fun i h0 => ⟨num_ascii h0, num_free h0 (by decide)⟩
  intro y hy
  rcases List.mem_cons.mp hy with rfl | hy
  · refine ⟨?_, Nat.le_trans (head_len (by omega) (by omega)) (by decide)⟩
    unfold headS
    exact row_app (row_of (by decide +kernel)) (numR _ (by omega))
  · obtain ⟨e, he, rfl⟩ := List.mem_map.mp hy
    have hr := hin e he
    refine ⟨?_, line_len hr⟩
    unfold lineS
    exact row_app (row_app (row_app (row_app (numR _ hr.1.1) (row_of (by decide +kernel))) (numR _ hr.2.1.1)) (row_of (by decide +kernel))) (numR _ hr.2.2.1)
end Hw

set_option maxHeartbeats 1000000
set_option compiler.extract_closed false


namespace Hw
open PySem L2 HwSort

noncomputable def top (i : Nat) : Stmt := PySem.Challenge.pw_hearwood_k19_texts_refused.main.body.getD i (.Pass ⟨0, 0, 0, 0⟩)
noncomputable abbrev s_check_pair : Stmt := top 10
noncomputable abbrev s_Book___init__ : Stmt := inClass (top 11) 0
noncomputable abbrev s_Book_many : Stmt := inClass (top 11) 1
noncomputable abbrev s_Book_let : Stmt := inClass (top 11) 2
noncomputable abbrev s_Book_hearings : Stmt := inClass (top 11) 5
noncomputable abbrev s_shown : Stmt := top 16
noncomputable abbrev s_number : Stmt := top 17
noncomputable abbrev s_words_of : Stmt := top 18
noncomputable abbrev s_let_line : Stmt := top 19
noncomputable abbrev s_book_of : Stmt := top 20
noncomputable abbrev s_read : Stmt := top 21
noncomputable abbrev s_law_cell_at : Stmt := top 23
noncomputable abbrev s_law_mix : Stmt := top 24
noncomputable abbrev s_law_rows : Stmt := top 25
noncomputable abbrev s_law_text : Stmt := top 26
noncomputable abbrev s_law_odd : Stmt := top 27
noncomputable abbrev s_law_turned : Stmt := top 28
noncomputable abbrev s_law_number : Stmt := top 29
noncomputable abbrev s_law_good : Stmt := top 30
noncomputable abbrev s_law_refused : Stmt := top 31
noncomputable abbrev s_law : Stmt := top 32
noncomputable abbrev hasX : List Ex := [.HearError, .NoBook, .NoTeller, .Alone, .First, .BadText]

set_option bootstrap.genMatcherCode true
local macro_rules | `(tactic| walk_at "rd") => `(tactic| try simp only [tSeq, tIfS, tNot, tAnd, tOr, tTest, tChain, tB, tVar, tC, tOp, tUn, rI0_int, rI_int, rU_int, rEq_int, rNe_int, tAndV, tOrV, tNotV, tIf, tNext, tRet, tRetN, tDrop, tAsg, gName, tNever, tCons, tNil, tCB, tCall, tCallX, tRaise, tTup, tLst, L2.start,
  List.map_cons, List.map_nil, List.length_cons, List.length_nil, List.replicate, List.cons_append, List.nil_append, List.append_nil, List.getElem?_cons_zero, List.getElem?_cons_succ, List.set_cons_zero, List.set_cons_succ, Nat.reduceAdd, Nat.reduceSub, Nat.zero_add, Nat.sub_self,
  Option.some.injEq, V.int.injEq, V.bl.injEq, exists_eq_left', exists_eq_left, exists_eq', decide_eq_true_eq, Bool.not_eq_true', decide_eq_false_iff_not])
local macro_rules | `(tactic| walk_at "c") => `(tactic| try dsimp only [tC])
local macro_rules | `(tactic| walk_at "s") => `(tactic| repeat (first
  | (with_reducible first | refine w_seq ?_ | refine w_next ?_ | refine w_break ?_ | refine w_cont ?_ | refine w_drop ?_ | refine w_ret ?_ | refine w_retN ?_ | refine w_ifS ?_ | refine w_asg ?_ | refine w_gname ?_ | refine w_c ?_ | refine w_B ?_ | refine w_test ?_ | refine w_and ?_ | refine w_or ?_ | refine w_not ?_ | refine w_andV ?_ | refine w_orV ?_ | refine w_notV ?_ | refine w_if ?_ | refine w_op ?_ | refine w_un ?_ | refine w_chain ?_ | refine w_nil ?_ | refine w_cons ?_ | refine w_tup ?_ | refine w_lst ?_ | refine w_call ?_ | refine w_callX ?_ | refine w_meth ?_ | refine w_methX ?_ | refine w_make ?_ | refine w_makeX ?_ | refine w_raise ?_ | refine w_CB ?_ | refine w_BM0 ?_ | refine w_BM ?_ | refine w_fld ?_ | refine w_sfld ?_ | refine w_gsub ?_ | refine w_sl ?_ | refine w_nopart ?_ | refine w_part ?_ | refine w_dget ?_ | refine w_din ?_ | refine w_dnotin ?_ | refine w_dget1 ?_ | refine w_dput ?_ | refine w_comp ?_ | refine w_ilist ?_ | refine w_ituple ?_ | refine w_irng1 ?_ | refine w_irng2 ?_ | refine w_yes ?_ | refine w_while ?_ | refine w_disp ?_ | refine w_pnil ?_ | refine w_pcons ?_ | refine w_gtup ?_ | refine w_gcons ?_ | refine w_gnil ?_ | refine w_thaw ?_ | refine w_idict ?_ | refine w_minlen ?_ | refine w_for ?_ | refine w_join ?_ | refine w_jcons ?_ | refine w_fmtI ?_ | refine w_fmtS ?_ | refine w_rI0 ?_ | refine w_rU ?_ | refine w_eqI ?_ | refine w_neI ?_ | refine w_eqS ?_ | refine w_neS ?_ | refine w_eqB ?_ | refine w_T ?_ | refine w_F ?_ | refine w_nT ?_ | refine w_nF ?_ | refine w_exbl ?_ | refine w_exint ?_ | refine w_andr ?_)
  | ((with_reducible apply w_var); exact rfl)
  | (with_reducible refine w_pos (by assumption) ?_) | (with_reducible refine w_neg (by assumption) ?_) | (with_reducible refine w_npos (by assumption) ?_) | (with_reducible refine w_nneg (by assumption) ?_)
  | (with_reducible refine w_fdiv (by first | decide | omega) (by first | decide | omega) ?_)
  | (with_reducible refine w_mulL (by first | decide | omega) (by first | decide | omega) ?_) | (with_reducible refine w_mulR (by first | decide | omega) (by first | decide | omega) ?_)
  | (with_reducible refine w_rI (C := fun _ j => 0 < j) (by first | decide | omega) ?_)
  | (with_reducible refine w_pow (by decide) (by decide) (by decide) ?_)))
set_option bootstrap.genMatcherCode false
section
variable {P : Program} {w : World} {K : PySem.W.Frag} {mg : Str → Option Value} {base : Heap} {C : Addr} {xa : Ex → Addr}
theorem sc_check_pair : FnScope ["many", "one", "other"] ["many", "one", "other"] (defScope s_check_pair) := ⟨rfl, rfl, rfl, by decide +kernel, rfl, by decide +kernel, by decide +kernel⟩
theorem bi_check_pair : BindOk "check_pair" "check_pair" s_check_pair ["many", "one", "other"] := fun _ _ _ _ _ _ us hl => by
  obtain ⟨_, _, _, rfl⟩ := len3D hl
  rfl
theorem x_check (F : FunAt K mg "check_pair" "check_pair" s_check_pair) (EX : Exc K mg hasX xa) : DefX P w K mg base 1 "check_pair" ["many", "one", "other"] (sp_checkX xa) := by
  refine F.defX sc_check_pair bi_check_pair (fun vs H Q E h => ?_) (fun f cdv A outer s H vs Q E hr h => ?_)
  · obtain ⟨a, b, c, rfl, _⟩ := h
    rfl
  · obtain ⟨many, one, other, rfl, q, x⟩ := h
    refine ⟨_, (pss_cons (ps_if (pt_not (PW.pt (pw_and (pt_chain op_le op_lt pe_int (pv 1) (pv 0)) (pw_and1 (pt_chain op_le op_lt pe_int (pv 2) (pv 0))))))
      (pss_one (ps_raise raiseX (EX.nm .NoTeller (by decide)).xc (EX.nm .NoTeller (by decide)).gl rfl (pa_cons pe_str pa_nil)))
      pss_nil)
      (pss_cons (ps_if (pt_cmpR op_eq (pv 1) (pv 2) (nomark _))
      (pss_one (ps_raise raiseX (EX.nm .Alone (by decide)).xc (EX.nm .Alone (by decide)).gl rfl (pa_cons pe_str pa_nil)))
      pss_nil)
      (pss_one (ps_if (pt_cmpR op_eq (pv 2) pe_int (nomark _))
      (pss_one (ps_raise raiseX (EX.nm .First (by decide)).xc (EX.nm .First (by decide)).gl rfl (pa_cons pe_str pa_nil)))
      pss_nil)))), ?_⟩
    try clear hu
    try clear hu0
    try clear hu64
    try dsimp only [cxOf, cxComp, Cx.nox]
    walk_at "rd"
    have one_le : 1 ≤ sizeLine := by simp [sizeLine_eq]
    unfold refuses at q x
    by_cases h1 : (0 ≤ one ∧ one < many) ∧ (0 ≤ other ∧ other < many)
    · rw [if_neg (fun z => z h1)] at q x
      obtain ⟨⟨a1, a2⟩, a3, a4⟩ := h1
      simp only [a1, a2, a3, a4, if_true, not_true, if_false]
      by_cases h2 : one = other
      · rw [if_pos h2] at x ⊢
        exact ⟨one_le, x _ rfl⟩
      · rw [if_neg h2] at q x ⊢
        by_cases h3 : other = 0
        · rw [if_pos h3] at x ⊢
          exact ⟨one_le, x _ rfl⟩
        · rw [if_neg h3] at q ⊢
          exact q rfl
    · rw [if_pos h1] at x
      have x' := And.intro one_le (x _ rfl)
      by_cases b1 : 0 ≤ one <;> by_cases b2 : one < many <;> by_cases b3 : 0 ≤ other <;> by_cases b4 : other < many <;> try exact absurd (And.intro (And.intro b1 b2) (And.intro b3 b4)) h1
      all_goals simp only [b1, b2, b3, b4, if_true, not_true, if_false, not_false_iff]
      all_goals exact x'
theorem sc_Book___init__ : FnScope ["self", "many"] ["self", "many"] (defScope s_Book___init__) := ⟨rfl, rfl, rfl, by decide +kernel, rfl, by decide +kernel, by decide +kernel⟩
theorem bi_Book___init__ : BindOk "__init__" "Book.__init__" s_Book___init__ ["self", "many"] := fun _ _ _ _ _ _ us hl => by
  obtain ⟨_, _, rfl⟩ := len2D hl
  rfl
theorem x_init (F : MakAt K mg C "Book" "__init__" "Book.__init__" s_Book___init__) (T : Txt K mg C) (EX : Exc K mg hasX xa) : MakX P w K mg base C 1 "Book" ["self", "many"] (sp_initX xa C) := by
  refine F.defX sc_Book___init__ bi_Book___init__ (fun vs H Q E h => ?_) (fun f cdv A outer s H vs Q E hr h => ?_)
  · obtain ⟨p, dx, m, rfl, _⟩ := h
    rfl
  · obtain ⟨p, dx, many, rfl, hp, k, x⟩ := h
    obtain ⟨t, hg_MOST_TELLERS⟩ := T.g_MOST_TELLERS
    refine ⟨_, (pss_cons (ps_if (pt_not (pt_chain op_le op_le pe_int (pv 1) (pe_glob (v := V.int 12) rfl hg_MOST_TELLERS ⟨_, rfl⟩)))
      (pss_one (ps_raise raiseX (EX.nm .NoBook (by decide)).xc (EX.nm .NoBook (by decide)).gl rfl (pa_cons (pe_join (pj_cons pe_str (pj_cons (pe_fmtI (pe_glob (v := V.int 12) rfl hg_MOST_TELLERS ⟨_, rfl⟩)) (pj_cons pe_str pj_nil)))) pa_nil)))
      pss_nil)
      (pss_cons (ps_fld (pv 0) (pv 1) rfl)
      (pss_one (ps_fld (pv 0) pe_dnewT rfl)))), ?_⟩
    try clear hu
    try clear hu0
    try clear hu64
    try dsimp only [cxOf, cxComp, Cx.nox]
    walk_at "rd"
    by_cases h12 : 1 ≤ many ∧ many ≤ 12
    · obtain ⟨h1, h2⟩ := h12
      simp only [h1, h2, if_true, not_true, if_false]
      refine ⟨_, rfl, _, rfl, p, C, dx, [], rfl, hp, T.cl, T.aT, (by show 0 < 1000; decide), ?_⟩
      intro d hd
      have npd : p ≠ d := by
        intro e
        subst e
        rw [upd_same] at hd
        cases hd
      have hd' : H d = none := by rw [upd_ne npd.symm] at hd; exact hd
      refine ⟨_, rfl, p, C, dx, _, rfl, (by rw [upd_ne npd, upd_same]), T.cl, T.aC, (by show 1 < 1000; decide), ?_⟩
      refine k ⟨h1, h2⟩ d _ hd' ⟨⟨dx, upd_same⟩, by rw [upd_ne npd.symm, upd_same]; rfl⟩ fun b o e hb => ?_
      rw [upd_ne hb, upd_ne (ne_of_none e hd'), upd_ne hb]
      exact e
    · have x' := x h12
      have fin : (tJoin (tJCons (tC (V.str "a book has 1 to ")) (tJCons (tFmtI (tC (V.int 12))) (tJCons (tC (V.str " tellers")) tJNil)))) [some (V.ref p), some (V.int many)] H fun x1 H1 => 1 ≤ sizeLine ∧ E (Value.ref (xa Ex.NoBook)) none H1 := by
        have hle : ∀ n, n ≤ 1000 → n ≤ sizeLine := fun n h => Nat.le_of_lt (small1000 h)
        exact ⟨_, rfl, hle _ (by decide +kernel), 12, rfl, by decide, _, rfl, hle _ (by decide +kernel), _, rfl, hle _ (by decide +kernel), hle _ (by decide +kernel), hle _ (by decide), x'⟩
      by_cases b1 : 1 ≤ many <;> by_cases b2 : many ≤ 12 <;> try exact absurd (And.intro b1 b2) h12
      all_goals simp only [b1, b2, if_true, not_true, if_false, not_false_iff]
      all_goals exact fin
theorem sc_Book_many : FnScope ["self"] ["self"] (defScope s_Book_many) := ⟨rfl, rfl, rfl, by decide +kernel, rfl, by decide +kernel, by decide +kernel⟩
theorem bi_Book_many : BindOk "many" "Book.many" s_Book_many ["self"] := fun _ _ _ _ _ _ us hl => by
  obtain ⟨_, rfl⟩ := len1D hl
  rfl
theorem d_many (F : MetAt K C "many" "Book.many" s_Book_many) (T : Txt K mg C) : MetD P w K mg base C 1 "many" ["self"] (sp_many C) := by
  refine F.def sc_Book_many bi_Book_many (fun vs H Q E h => ?_) (fun f cdv A outer s H vs Q E hr h => ?_)
  · obtain ⟨p, d, m, cs, rfl, _⟩ := h
    rfl
  · obtain ⟨p, d, many, cs, rfl, B, k⟩ := h
    obtain ⟨dx, h1⟩ := B.ob
    refine ⟨_, (pss_one (ps_ret (pe_fld (pv 0) rfl))), ?_⟩
    try clear hu
    try clear hu0
    try clear hu64
    try dsimp only [cxOf, cxComp, Cx.nox]
    exact rd_fld h1 T.cl T.aT (flds_many _ _) k
theorem sc_Book_let : FnScope ["self", "one", "other", "cost"] ["self", "one", "other", "cost"] (defScope s_Book_let) := ⟨rfl, rfl, rfl, by decide +kernel, rfl, by decide +kernel, by decide +kernel⟩
theorem bi_Book_let : BindOk "let" "Book.let" s_Book_let ["self", "one", "other", "cost"] := fun _ _ _ _ _ _ us hl => by
  obtain ⟨_, _, _, _, rfl⟩ := len4D hl
  rfl
theorem x_let (F : MetAt K C "let" "Book.let" s_Book_let) (T : Txt K mg C) (X_check_pair : DefX P w K mg base 1 "check_pair" ["many", "one", "other"] (sp_checkX xa)) : MetX P w K mg base C 2 "let" ["self", "one", "other", "cost"] (sp_letX xa C) := by
  refine F.defX sc_Book_let bi_Book_let (fun vs H Q E h => ?_) (fun f cdv A outer s H vs Q E hr h => ?_)
  · obtain ⟨p, d, m, cs, a, b, c, rfl, _⟩ := h
    rfl
  · obtain ⟨p, d, many, cs, one, other, cost, rfl, B, hl, k, x⟩ := h
    have hu := hu_of hr
    obtain ⟨dx, h1⟩ := B.ob
    refine ⟨_, (pss_cons (ps_expr (pe_callX X_check_pair (hr.mono (by decide)) passX (pa_cons (pe_fld (pv 0) rfl) (pa_cons (pv 1) (pa_cons (pv 2) pa_nil)))))
      (pss_cons (ps_dput hu (pe_fld (pv 0) rfl) (pe_tup (pa_cons (pv 1) (pa_cons (pv 2) pa_nil))) (pv 3) rfl)
      (pss_one (ps_ret (pe_callB call_lenT (by rfl) T.n_len L2.boot_len (pa_cons (pe_fld (pv 0) rfl) pa_nil)))))), ?_⟩
    try clear hu
    try clear hu0
    try clear hu64
    try dsimp only [cxOf, cxComp, Cx.nox]
    walk_at "rd"
    refine rd_fld h1 T.cl T.aT (flds_many _ _) ⟨many, one, other, rfl, fun ok => ?_, x⟩
    refine ⟨_, rfl, rd_fld h1 T.cl T.aC (flds_costs _ _) ?_⟩
    walk_at "rd"
    refine ⟨by simp [sizeLine_eq], fun t ht => ?_⟩
    have nd : d ≠ t := ne_of_none B.dc ht
    have np : p ≠ t := ne_of_none h1 ht
    refine ⟨d, _, rfl, DPut.t (k := encK (one, other)) ((upd_ne nd).trans B.dc) upd_same (by rw [enc_len]; exact small1000 (by omega)), ?_⟩
    rw [put_enc]
    have h1' : upd (upd H t (.tup [.int one, .int other])) d (.dT (enc (putC cs (one, other) cost))) p = some (.ins C dx (flds many d)) := by rw [upd_ne B.ne, upd_ne np]; exact h1
    refine rd_fld h1' T.cl T.aC (flds_costs _ _) ⟨d, _, rfl, upd_same, ?_⟩
    rw [enc_len]
    exact k ok _ ⟨⟨dx, h1'⟩, upd_same⟩ fun b o e hb => by rw [upd_ne hb, upd_ne (ne_of_none e ht)]; exact e
theorem sc_Book_hearings : FnScope ["self"] ["self"] (defScope s_Book_hearings) := ⟨rfl, rfl, rfl, by decide +kernel, rfl, by decide +kernel, by decide +kernel⟩
theorem bi_Book_hearings : BindOk "hearings" "Book.hearings" s_Book_hearings ["self"] := fun _ _ _ _ _ _ us hl => by
  obtain ⟨_, rfl⟩ := len1D hl
  rfl
theorem d_hear (F : MetAt K C "hearings" "Book.hearings" s_Book_hearings) (T : Txt K mg C) : MetD P w K mg base C 1 "hearings" ["self"] (sp_hearR C) := by
  refine F.def sc_Book_hearings bi_Book_hearings (fun vs H Q E h => ?_) (fun f cdv A outer s H vs Q E hr h => ?_)
  · obtain ⟨p, d, m, cs, rfl, _⟩ := h
    rfl
  · obtain ⟨p, d, many, cs, rfl, B, hn, h900, h64, k⟩ := h
    have hu := hu_of hr
    obtain ⟨dx, h1⟩ := B.ob
    refine ⟨_, (pss_one (ps_ret (pe_comp (N' := ["self", "one", "other"]) (n0 := 2) (osc := defScope s_Book_hearings) (pi_list (pe_callB (call_sortD rfl) (by rfl) T.n_sorted L2.boot_sorted (pa_cons (pe_fld (pv 0) rfl) pa_nil))) (fun z => (pg_tup rfl (pgs_cons (pg_name (i := 1) (show (["self", "one", "other"] : List Str).Nodup by decide +kernel) rfl (Or.inl rfl)) (pgs_cons (pg_name (i := 2) (show (["self", "one", "other"] : List Str).Nodup by decide +kernel) rfl (Or.inl rfl)) pgs_nil)))) (fun z => pif_nil) (fun z => (pe_tup (pa_cons (pv 1) (pa_cons (pv 2) (pa_cons (pe_dget hu (pe_fld (pv 0) rfl) (pe_tup (pa_cons (pv 1) (pa_cons (pv 2) pa_nil))) (fun _ _ => rfl)) pa_nil))))) rfl rfl (names_ok (N := ["self"]) (by decide +kernel)) rfl))), ?_⟩
    try clear hu
    try clear hu0
    try clear hu64
    try dsimp only [cxOf, cxComp, Cx.nox]
    simp only [tRet, tComp, iList, tCB, tCons, tNil]
    refine rd_fld h1 T.cl T.aC (flds_costs _ _) ⟨d, enc cs, (keysC cs).map two, rfl, B.dc, ?_, ?_, ?_, h64.imp (fun h => by rw [enc_len]; exact h) rise_two, fun l rs oss hl tr pm pw => ?_⟩
    · exact enc_keys cs
    · exact two_ne cs
    · exact two_nodup hn
    · refine ⟨l, rfl, ⟨_, .inl (.inl upd_same)⟩, ?_⟩
      have sl : Same H (upd H l (.lst rs)) := same_upd hl
      refine comp_list_map (xs := rs) (RelT fun i => triC cs (oss.getD i [])) relT_keep (.inl (.inl upd_same)) ?_ ?_ ?_
      · rw [tr.length, pm.length_eq, List.length_map]
        unfold keysC
        rw [List.length_map]
        omega
      · intro z i x ws H2 F hx hw s2 hF
        obtain ⟨b, ks, rfl, hks, hb⟩ := tr.get hx
        obtain ⟨k0, c, rfl, hc⟩ := key_of_mem hn pm hks
        have hb2 : H2 b = some (.tup [.int k0.1, .int k0.2]) := s2 _ _ (sl _ _ hb)
        have h12 : H2 p = some (.ins C dx (flds many d)) := s2 _ _ (sl _ _ h1)
        have hd2 : H2 d = some (.dT (enc cs)) := s2 _ _ (sl _ _ B.dc)
        obtain ⟨w1, w2, rfl⟩ : ∃ w1 w2, ws = [w1, w2] := len_two hw
        refine ⟨b, _, rfl, .inl (.inl hb2), rfl, ?_⟩
        have hval : valV (enc cs) (encK k0) = some (V.int c) := by rw [val_enc, hc]; rfl
        refine ⟨_, _, rfl, _, _, rfl, rfl, _, rfl, _, rfl, ?_⟩
        simp only [tCons, tDGet, tNil]
        refine rd_fld h12 T.cl T.aC (flds_costs _ _) ?_
        simp only [tTup, tCons, tVar, tNil]
        refine ⟨_, rfl, _, rfl, by simp [sizeLine_eq], fun t ht => ?_⟩
        have nd : d ≠ t := ne_of_none hd2 ht
        refine ⟨d, _, rfl, hval ▸ DGet.t (k := encK k0) ((upd_ne nd).trans hd2) upd_same, by simp [sizeLine_eq], fun u hu' => ?_⟩
        refine hF [some (.int k0.1), some (.int k0.2)] _ _ rfl ((same_upd ht).trans (same_upd hu')) ⟨u, rfl, ?_⟩
        have e1 : oss.getD i [] = two k0 := by simp [List.getD, hks]
        show _ = some (HO.tup ((triC cs (oss.getD i [])).map V.int))
        rw [e1, triC_two cs k0 hc]
        exact upd_same
      · intro l2 vs H' hl2 sm hv hlen hrel
        have hl3 : H l2 = none := sl.free hl2
        have e0 : (List.range vs.length).map (fun i => triC cs (oss.getD i [])) = oss.map (triC cs) := by
          rw [hlen, tr.length]
          exact map_getD (triC cs) oss []
        have tt := relT_refs hrel
        rw [e0] at tt
        exact k l2 vs _ H' (sl.trans sm) hl3 hv tt (tri_perm hn pm) (tri_rise hn pm pw)
end
section
variable {P : Program} {w : World} {K : PySem.W.Frag} {mg : Str → Option Value} {base : Heap} {C : Addr}
theorem sc_law_cell_at : FnScope ["script", "k"] ["script", "k"] (defScope s_law_cell_at) := ⟨rfl, rfl, rfl, by decide +kernel, rfl, by decide +kernel, by decide +kernel⟩
theorem bi_law_cell_at : BindOk "_law_cell_at" "_law_cell_at" s_law_cell_at ["script", "k"] := fun _ _ _ _ _ _ us hl => by
  obtain ⟨_, _, rfl⟩ := len2D hl
  rfl
theorem d_cell (F : FunAt K mg "_law_cell_at" "_law_cell_at" s_law_cell_at) (T : Txt K mg C) : Def P w K mg base 1 "_law_cell_at" ["script", "k"] (sp_cell K) := by
  refine F.def sc_law_cell_at bi_law_cell_at (fun vs H Q E h => ?_) (fun f cdv A outer s H vs Q E hr h => ?_)
  · obtain ⟨a, ns, k, rfl, _⟩ := h
    rfl
  · obtain ⟨a, ns, k, rfl, hS, hl, hk, q⟩ := h
    refine ⟨_, (pss_cons (ps_if (pt_cmpR op_lt (pv 1) (pe_callB call_len_seq (by rfl) T.n_len L2.boot_len (pa_cons (pv 0) pa_nil)) (nomark _))
      (pss_one (ps_ret (pe_ix ix_list (pv 0) (pv 1) (fun _ _ => rfl))))
      pss_nil)
      (pss_one (ps_ret pe_int))), ?_⟩
    try clear hu
    try clear hu0
    try clear hu64
    try dsimp only [cxOf, cxComp, Cx.nox]
    walk_at "rd"
    refine ⟨a, _, rfl, .inl hS, ?_⟩
    walk_at "rd"
    rw [List.length_map]
    obtain ⟨n, rfl⟩ : ∃ n : Nat, k = n := ⟨k.toNat, by omega⟩
    unfold cellF at q
    by_cases hlt : (n : Int) < (ns.length : Int)
    · rw [if_pos hlt] at q ⊢
      have hn : n < ns.length := by omega
      refine ⟨a, _, _, _, rfl, rfl, hS, atI_nat (v := .int (ns.getD n 0)) ?_, q⟩
      simp [hn]
    · rw [if_neg hlt] at q ⊢
      exact q
theorem sc_law_mix : FnScope ["cell", "k", "seed"] ["cell", "k"] (defScope s_law_mix) := ⟨rfl, rfl, rfl, by decide +kernel, rfl, by decide +kernel, by decide +kernel⟩
theorem bi_law_mix : BindOk "_law_mix" "_law_mix" s_law_mix ["cell", "k"] := fun _ _ _ _ _ _ us hl => by
  obtain ⟨_, _, rfl⟩ := len2D hl
  rfl
theorem d_mix (F : FunAt K mg "_law_mix" "_law_mix" s_law_mix) : Def P w K mg base 1 "_law_mix" ["cell", "k"] sp_mix := by
  refine F.def sc_law_mix bi_law_mix (fun vs H Q E h => ?_) (fun f cdv A outer s H vs Q E hr h => ?_)
  · obtain ⟨c, k, rfl, _⟩ := h
    rfl
  · obtain ⟨c, k, rfl, h0, h1, q⟩ := h
    refine ⟨_, (pss_cons (ps_set (i := 2) sc_law_mix.nd rfl (Or.inl rfl) (pe_op op_mod (pe_op op_add (pe_op op_add (pe_op op_mul (pv 0) pe_int) (pe_op op_mul pe_int (pv 1))) pe_int) pe_int))
      (pss_cons (ps_set (i := 2) sc_law_mix.nd rfl (Or.inl rfl) (pe_op op_mod (pe_op op_add (pe_op op_add (pe_op op_mul (pv 2) (pv 2)) (pe_op op_mul pe_int (pv 1))) pe_int) pe_int))
      (pss_one (ps_ret (pe_op op_mod (pe_op op_mul (pv 2) (pv 2)) pe_int))))), ?_⟩
    try clear hu
    try clear hu0
    try clear hu64
    try dsimp only [cxOf, cxComp, Cx.nox]
    walk_at "rd"
    have b1 := Int.emod_nonneg (c * 48271 + 104729 * k + 11) (show (2147483647 : Int) ≠ 0 by decide)
    have b2 := Int.emod_lt_of_pos (c * 48271 + 104729 * k + 11) (show (0 : Int) < 2147483647 by decide)
    have b3 := Int.emod_nonneg ((c * 48271 + 104729 * k + 11) % 2147483647 * ((c * 48271 + 104729 * k + 11) % 2147483647) + 7919 * k + 5) (show (2147483629 : Int) ≠ 0 by decide)
    have b4 := Int.emod_lt_of_pos ((c * 48271 + 104729 * k + 11) % 2147483647 * ((c * 48271 + 104729 * k + 11) % 2147483647) + 7919 * k + 5) (show (0 : Int) < 2147483629 by decide)
    refine ⟨.inr ⟨by decide, by decide⟩, .inl ⟨by decide, by decide⟩, by decide, .inl ⟨by omega, by omega⟩, .inl ⟨by decide, by decide⟩, by decide, .inl ⟨by omega, by omega⟩, by decide, ?_⟩
    exact q
end
section
variable {P : Program} {w : World} {K : PySem.W.Frag} {mg : Str → Option Value} {base : Heap} {C : Addr}
inductive RowsI1 (a l : Addr) (many share most : Int) (H : Hp) (i : Nat) (σ : St) (H' : Hp) : Prop
  | mk (o1 o2 o3 o4 : Option V) (rs : List V) (cs : Cs) (e : σ = [some (.ref a), some (.int many), some (.int share), some (.int most), some (.ref l), o1, o2, o3, o4]) (h1 : Same H H') (h2 : H' l = some (.lst rs)) (h3 : TupRefs H' rs (cs.map tri)) (h4 : (keysC cs).Pairwise ltP) (h5 : ∀ k ∈ keysC cs, Ok2 many k.1 k.2 ∧ k.1 < (i : Int)) (h6 : ∀ e ∈ cs, 0 ≤ e.2 ∧ e.2 ≤ 1000000) (h7 : cs.length ≤ 12 * i) : RowsI1 a l many share most H i σ H'
inductive RowsI2 (a l : Addr) (many share most : Int) (H : Hp) (i j : Nat) (σ : St) (H' : Hp) : Prop
  | mk (o2 o3 o4 : Option V) (rs : List V) (cs : Cs) (e : σ = [some (.ref a), some (.int many), some (.int share), some (.int most), some (.ref l), some (.int (0 + i)), o2, o3, o4]) (h1 : Same H H') (h2 : H' l = some (.lst rs)) (h3 : TupRefs H' rs (cs.map tri)) (h4 : (keysC cs).Pairwise ltP) (h5 : ∀ k ∈ keysC cs, Ok2 many k.1 k.2 ∧ (k.1 < (i : Int) ∨ k.1 = (i : Int) ∧ k.2 < 1 + (j : Int))) (h6 : ∀ e ∈ cs, 0 ≤ e.2 ∧ e.2 ≤ 1000000) (h7 : cs.length ≤ 12 * i + j) : RowsI2 a l many share most H i j σ H'
theorem sc_law_rows : FnScope ["script", "many", "share", "most", "rows", "one", "other", "cell", "drawn"] ["script", "many"] (defScope s_law_rows) := ⟨rfl, rfl, rfl, by decide +kernel, rfl, by decide +kernel, by decide +kernel⟩
theorem bi_law_rows : BindOk "_law_rows" "_law_rows" s_law_rows ["script", "many"] := fun _ _ _ _ _ _ us hl => by
  obtain ⟨_, _, rfl⟩ := len2D hl
  rfl
theorem d_rows (F : FunAt K mg "_law_rows" "_law_rows" s_law_rows) (T : Txt K mg C) (D_law_cell_at : Def P w K mg base 1 "_law_cell_at" ["script", "k"] (sp_cell K)) (D_law_mix : Def P w K mg base 1 "_law_mix" ["cell", "k"] sp_mix) : Def P w K mg base 2 "_law_rows" ["script", "many"] (sp_rows K) := by
  refine F.def sc_law_rows bi_law_rows (fun vs H Q E h => ?_) (fun f cdv A outer s H vs Q E hr h => ?_)
  · obtain ⟨a, ns, m, rfl, _⟩ := h
    rfl
  · obtain ⟨a, ns, many, rfl, hS, hl, hm1, hm2, q⟩ := h
    have hu := hu_of hr
    refine ⟨_, (pss_cons (ps_set (i := 2) sc_law_rows.nd rfl (Or.inl rfl) (pe_ix ix_list (pe_lst (pa_cons pe_int (pa_cons pe_int (pa_cons pe_int (pa_cons pe_int (pa_cons pe_int pa_nil)))))) (pe_op op_mod (pe_callD D_law_cell_at (hr.mono (by decide)) (pa_cons (pv 0) (pa_cons pe_int pa_nil))) pe_int) (fun _ _ => rfl)))
      (pss_cons (ps_set (i := 3) sc_law_rows.nd rfl (Or.inl rfl) (pe_ix ix_list (pe_lst (pa_cons pe_int (pa_cons pe_int (pa_cons pe_int pa_nil)))) (pe_op op_mod (pe_op op_fdiv (pe_callD D_law_cell_at (hr.mono (by decide)) (pa_cons (pv 0) (pa_cons pe_int pa_nil))) pe_int) pe_int) (fun _ _ => rfl)))
      (pss_cons (ps_set (i := 4) sc_law_rows.nd rfl (Or.inl rfl) (pe_lst pa_nil))
      (pss_cons (ps_for PassesOwn.never rfl (pi_range1 rfl T.n_range (pa_cons (pv 1) pa_nil)) (pg_name (i := 5) sc_law_rows.nd rfl (Or.inl rfl))
      (pss_one (ps_for PassesOwn.never rfl (pi_range2 rfl T.n_range (pa_cons pe_int (pa_cons (pv 1) pa_nil))) (pg_name (i := 6) sc_law_rows.nd rfl (Or.inl rfl))
      (pss_cons (ps_set (i := 7) sc_law_rows.nd rfl (Or.inl rfl) (pe_op op_add (pe_callD D_law_cell_at (hr.mono (by decide)) (pa_cons (pv 0) (pa_cons (pe_op op_add pe_int (pe_op op_mod (pe_op op_add (pe_op op_mul pe_int (pv 5)) (pv 6)) pe_int)) pa_nil))) (pe_op op_mul pe_int (pv 5))))
      (pss_cons (ps_set (i := 8) sc_law_rows.nd rfl (Or.inl rfl) (pe_op op_fdiv (pe_callD D_law_mix (hr.mono (by decide)) (pa_cons (pv 7) (pa_cons (pv 6) pa_nil))) pe_int))
      (pss_one (ps_if (PW.pt (pw_and (pt_cmpR op_ne (pv 5) (pv 6) (nomark _)) (pw_and1 (pt_cmpR op_lt (pe_op op_mod (pv 8) pe_int) (pv 2) (nomark _)))))
      (pss_one (ps_expr (pe_bm PySem.F.plainAttrs_list PySem.F.slot_list_append PySem.F.type_list_append mt_append (pv 4) (pa_cons (pe_tup (pa_cons (pv 5) (pa_cons (pv 6) (pa_cons (pe_op op_mod (pe_op op_fdiv (pv 8) pe_int) (pv 3)) pa_nil)))) pa_nil))))
      pss_nil)))))))
      (pss_one (ps_ret (pv 4))))))), ?_⟩
    try clear hu
    try clear hu0
    try clear hu64
    try dsimp only [cxOf, cxComp, Cx.nox]
    walk_at "s"
    refine ⟨by simp [sizeLine_eq], fun l1 hl1 => ?_⟩
    walk_at "s"
    have s1 : Same H (upd H l1 (.lst [.int 2, .int 4, .int 6, .int 8, .int 10])) := same_upd hl1
    refine ⟨a, ns, 1, rfl, s1.seq hS, hl, by decide, ?_⟩
    generalize hc1 : cellF ns 1 = c1
    walk_at "s"
    obtain ⟨share, hsh⟩ : ∃ v : Int, atI [V.int 2, V.int 4, V.int 6, V.int 8, V.int 10] (c1 % 5) = some (.int v) := by
      have : c1 % 5 = 0 ∨ c1 % 5 = 1 ∨ c1 % 5 = 2 ∨ c1 % 5 = 3 ∨ c1 % 5 = 4 := by omega
      rcases this with e | e | e | e | e <;> rw [e]
      · exact ⟨2, atI_nat (j := 0) rfl⟩
      · exact ⟨4, atI_nat (j := 1) rfl⟩
      · exact ⟨6, atI_nat (j := 2) rfl⟩
      · exact ⟨8, atI_nat (j := 3) rfl⟩
      · exact ⟨10, atI_nat (j := 4) rfl⟩
    refine ⟨l1, _, _, _, rfl, rfl, SqL.of upd_same, hsh, ?_⟩
    walk_at "s"
    refine ⟨by simp [sizeLine_eq], fun l2 hl2 => ?_⟩
    have s2 := s1.trans (same_upd (o := .lst [.int 8, .int 40, .int 1000001]) hl2)
    walk_at "s"
    refine ⟨a, ns, 1, rfl, s2.seq hS, hl, by decide, ?_⟩
    rw [hc1]
    walk_at "s"
    obtain ⟨most, hmo, hm0, hmm⟩ : ∃ v : Int, atI [V.int 8, V.int 40, V.int 1000001] (c1 / 5 % 3) = some (.int v) ∧ 0 < v ∧ v ≤ 1000001 := by
      have : c1 / 5 % 3 = 0 ∨ c1 / 5 % 3 = 1 ∨ c1 / 5 % 3 = 2 := by omega
      rcases this with e | e | e <;> rw [e]
      · exact ⟨8, atI_nat (j := 0) rfl, by decide, by decide⟩
      · exact ⟨40, atI_nat (j := 1) rfl, by decide, by decide⟩
      · exact ⟨1000001, atI_nat (j := 2) rfl, by decide, by decide⟩
    refine ⟨l2, _, _, _, rfl, rfl, SqL.of upd_same, hmo, ?_⟩
    walk_at "s"
    refine ⟨by simp [sizeLine_eq], fun l hl' => ?_⟩
    have s3 := s2.trans (same_upd (o := .lst []) hl')
    have hlH : H l = none := s2.free hl'
    walk_at "s"
    refine ⟨many, rfl, (rng1m hm1 hm2).2.2.1, (rng1m hm1 hm2).2.2.2, for_range (n := many.toNat) (fun i σ H' => RowsI1 a l many share most H i σ H')
      ⟨none, none, none, none, [], [], rfl, s3, upd_same, .nil, .nil, (fun k h => by cases h), (fun k h => by cases h), Nat.le_refl _⟩ ?_ ?_⟩
    · rintro i σ H1 hi ⟨o1, o2, o3, o4, rs, cs, rfl, sm, hl1', tr, hri, hok, hco, hle⟩
      walk_at "s"
      refine ⟨1, many, rfl, rng1m hm1 hm2, for_range (n := (many - 1).toNat) (fun j σ H' => RowsI2 a l many share most H i j σ H')
        ⟨o2, o3, o4, rs, cs, rfl, sm, hl1', tr, hri, (fun k h => ⟨(hok k h).1, .inl (hok k h).2⟩), hco, hle⟩ ?_ ?_⟩
      · rintro j σ H2 hj ⟨o2, o3, o4, rs, cs, rfl, sm, hl2', tr, hri, hok, hco, hle⟩
        walk_at "s"
        refine ⟨a, ns, _, rfl, sm.seq hS, hl, by omega, ?_⟩
        generalize cellF ns (3 + (5 * (0 + (i : Int)) + (1 + (j : Int))) % 30) = c2
        walk_at "s"
        refine ⟨_, _, rfl, by omega, by omega, ?_⟩
        have hmx := (mixF_in (c2 + 5003 * (0 + (i : Int))) (1 + (j : Int))).1
        generalize mixF (c2 + 5003 * (0 + (i : Int))) (1 + (j : Int)) = dr at hmx
        by_cases hij : (0 + (i : Int)) = 1 + (j : Int)
        · walk_at "s"
          exact ⟨_, _, _, rs, cs, rfl, sm, hl2', tr, hri, (fun k h => ⟨(hok k h).1, by have := (hok k h).2; omega⟩), hco, by omega⟩
        · by_cases hs : dr / 7 % 10 < share
          · walk_at "s"
            refine ⟨.inl ⟨rfl, _, SqL.of hl2'⟩, ?_⟩
            walk_at "s"
            refine ⟨by simp [sizeLine_eq], fun t ht => ?_⟩
            have hc0 := Int.emod_nonneg (dr / 7 / 10) (show most ≠ 0 by omega)
            have hc1 := Int.emod_lt_of_pos (dr / 7 / 10) hm0
            generalize dr / 7 / 10 % most = co at hc0 hc1
            have st : Same H2 (upd H2 t (.tup [.int (0 + i), .int (1 + j), .int co])) := same_upd ht
            have lt : l ≠ t := ne_of_none hl2' ht
            have len : rs.length = cs.length := by rw [tr.length, List.length_map]
            refine ⟨l, rs, _, rfl, rfl, (upd_ne lt).trans hl2', by rw [sizeLine_eq, len]; omega, ?_⟩
            walk_at "s"
            have kn : KeepNL H2 (upd (upd H2 t (.tup [.int (0 + i), .int (1 + j), .int co])) l (.lst (rs ++ [.ref t]))) := st.nl.trans (nl_upd ((upd_ne lt).trans hl2'))
            refine ⟨_, _, _, rs ++ [.ref t], cs ++ [(((0 : Int) + (i : Int), (1 : Int) + (j : Int)), co)], rfl, ?_, upd_same, ?_, ?_, ?_, ?_, ?_⟩
            · intro b o e
              rw [upd_ne (ne_of_none e hlH)]
              exact st _ _ (sm _ _ e)
            · rw [List.map_append]
              refine TupRefs.snoc (TupRefs.nl tr kn) ?_
              rw [upd_ne lt.symm, upd_same]
              rfl
            · rw [keys_snoc, List.pairwise_append]
              refine ⟨hri, List.pairwise_singleton _ _, fun x hx y hy => ?_⟩
              rw [List.mem_singleton.mp hy]
              rcases (hok x hx).2 with h | ⟨h1, h2⟩
              · exact .inl (by show x.1 < 0 + (i : Int); omega)
              · exact .inr ⟨by show x.1 = 0 + (i : Int); omega, by show x.2 < 1 + (j : Int); omega⟩
            · intro k hk
              rw [keys_snoc] at hk
              rcases List.mem_append.mp hk with hk | hk
              · exact ⟨(hok k hk).1, by have := (hok k hk).2; omega⟩
              · rw [List.mem_singleton.mp hk]
                refine ⟨⟨by show (0 : Int) ≤ 0 + i; omega, by show (0 : Int) + i < many; omega, by show (0 : Int) ≤ 1 + j; omega, by show (1 : Int) + j < many; omega, hij, by show ¬ (1 : Int) + j = 0; omega⟩, .inr ⟨by show (0 : Int) + i = i; omega, by show (1 : Int) + j < 1 + ((j + 1 : Nat) : Int); omega⟩⟩
            · intro e he
              rcases List.mem_append.mp he with he | he
              · exact hco e he
              · rw [List.mem_singleton.mp he]
                exact ⟨hc0, by show co ≤ 1000000; omega⟩
            · rw [List.length_append, List.length_singleton]
              omega
          · walk_at "s"
            exact ⟨_, _, _, rs, cs, rfl, sm, hl2', tr, hri, (fun k h => ⟨(hok k h).1, by have := (hok k h).2; omega⟩), hco, by omega⟩
      · rintro σ H2 ⟨o2, o3, o4, rs, cs, rfl, sm, hl2', tr, hri, hok, hco, hle⟩
        exact ⟨_, o2, o3, o4, rs, cs, rfl, sm, hl2', tr, hri, (fun k h => ⟨(hok k h).1, by have := (hok k h).2; omega⟩), hco, by omega⟩
    · rintro σ H1 ⟨o1, o2, o3, o4, rs, cs, rfl, sm, hl1', tr, hri, hok, hco, hle⟩
      walk_at "s"
      exact q l rs cs H1 sm hlH hl1' tr ⟨hri, fun k h => (hok k h).1, hco, by omega⟩
end
section
variable {P : Program} {w : World} {K : PySem.W.Frag} {mg : Str → Option Value} {base : Heap} {C C1 : Addr}
theorem sc_shown : FnScope ["book", "many", "lines"] ["book"] (defScope s_shown) := ⟨rfl, rfl, rfl, by decide +kernel, rfl, by decide +kernel, by decide +kernel⟩
theorem bi_shown : BindOk "shown" "shown" s_shown ["book"] := fun _ _ _ _ _ _ us hl => by
  obtain ⟨_, rfl⟩ := len1D hl
  rfl
theorem d_shown (F : FunAt K mg "shown" "shown" s_shown) (T : Txt K mg C) (M_many : MetD P w K mg base C 1 "many" ["self"] (sp_many C)) (M_hearings : MetD P w K mg base C 1 "hearings" ["self"] (sp_hearS C)) : Def P w K mg base 2 "shown" ["book"] (sp_shown C) := by
  refine F.def sc_shown bi_shown (fun vs H Q E h => ?_) (fun f cdv A outer s H vs Q E hr h => ?_)
  · obtain ⟨p, d, n, cs, rfl, _⟩ := h
    rfl
  · obtain ⟨p, d, n, cs, rfl, B, ok, n12, hin, q⟩ := h
    refine ⟨_, (pss_cons (ps_set (i := 1) sc_shown.nd rfl (Or.inl rfl) (pe_methD0 M_many T.cl (hr.mono (by decide)) (pv 0)))
      (pss_cons (ps_setComp (i := 2) sc_shown.nd rfl (Or.inl rfl) (N' := ["#book", "#many", "#lines", "one", "other", "cost"]) (n0 := 3) (osc := defScope s_shown) (pi_list (pe_methD0 M_hearings T.cl (hr.mono (by decide)) (pv 0))) (fun z => (pg_tup rfl (pgs_cons (pg_name (i := 3) (show (["#book", "#many", "#lines", "one", "other", "cost"] : List Str).Nodup by decide +kernel) rfl (Or.inl rfl)) (pgs_cons (pg_name (i := 4) (show (["#book", "#many", "#lines", "one", "other", "cost"] : List Str).Nodup by decide +kernel) rfl (Or.inl rfl)) (pgs_cons (pg_name (i := 5) (show (["#book", "#many", "#lines", "one", "other", "cost"] : List Str).Nodup by decide +kernel) rfl (Or.inl rfl)) pgs_nil))))) (fun z => pif_nil) (fun z => (pe_join (pj_cons (pe_fmtI (pv 3)) (pj_cons pe_str (pj_cons (pe_fmtI (pv 4)) (pj_cons pe_str (pj_cons (pe_fmtI (pv 5)) pj_nil))))))) rfl rfl (names_ok (N := ["book", "many", "lines"]) (by decide +kernel)) rfl)
      (pss_one (ps_ret (pe_bm PySem.F.plainAttrs_str PySem.F.slot_str_join PySem.F.type_str_join mt_join pe_str (pa_cons (pe_op op_cat (pe_lst (pa_cons (pe_join (pj_cons pe_str (pj_cons (pe_fmtI (pv 1)) pj_nil))) pa_nil)) (pv 2)) pa_nil)))))), ?_⟩
    try clear hu
    try clear hu0
    try clear hu64
    try dsimp only [cxOf, cxComp, Cx.nox]
    walk_at "s"
    refine meth_book B (by decide +kernel) (by decide +kernel) ?_
    walk_at "s"
    refine ⟨p, d, n, cs, rfl, B, ?_⟩
    walk_at "s"
    refine meth_book B (by decide +kernel) (by decide +kernel) ?_
    walk_at "s"
    refine ⟨p, d, n, cs, rfl, B, ok, fun l rs hs H1 S1 hl0 hl tr so hso => ?_⟩
    have hin' : ∀ e ∈ hs, RowIn e := fun e he => hin e (so.pm.mem_iff.mp he)
    have lenr : rs.length = hs.length := by rw [tr.length, List.length_map]
    have hsl := hso.len
    refine ⟨l, rfl, ⟨_, SqL.of hl⟩, ?_⟩
    refine comp_list_map (xs := rs) (fun i v _ => ∃ e, hs[i]? = some e ∧ v = .str (lineS e)) (fun _ _ _ _ h _ => h) (SqL.of hl) (by omega) ?_ ?_
    · intro z i x ws H6 F hx hw s6 hF
      obtain ⟨b, e, rfl, he, hb⟩ := tri_get tr hx
      have hb6 := s6 _ _ hb
      obtain ⟨w1, w2, w3, rfl⟩ : ∃ w1 w2 w3, ws = [w1, w2, w3] := len3D hw
      obtain ⟨⟨a1, a2⟩, ⟨b1, b2⟩, ⟨c1, c2⟩⟩ := hin' e (List.mem_of_getElem? he)
      have l1 := num_len a1 a2
      have l2 := num_len b1 b2
      have l3 := num_len c1 c2
      have h4 : (" to " : Str).length = 4 := by decide +kernel
      have h5 : (" costs " : Str).length = 7 := by decide +kernel
      walk_at "s"
      refine ⟨b, _, rfl, SqT.of hb6, rfl, ?_⟩
      walk_at "s"
      have bd : ∀ x : Str, x.length ≤ 100 → x.length ≤ sizeLine := fun x hx => by rw [sizeLine_eq]; omega
      refine ⟨small_log a1 a2, _, rfl, bd _ (by rw [Str.empty_append]; omega), ?_⟩
      rw [Str.empty_append]
      walk_at "s"
      refine ⟨_, rfl, bd _ (by rw [Str.length_append]; omega), ?_⟩
      walk_at "s"
      refine ⟨small_log b1 b2, _, rfl, bd _ (by rw [Str.length_append, Str.length_append]; omega), ?_⟩
      walk_at "s"
      refine ⟨_, rfl, bd _ (by rw [Str.length_append, Str.length_append, Str.length_append]; omega), ?_⟩
      walk_at "s"
      refine ⟨small_log c1 c2, _, rfl, bd _ (by rw [Str.length_append, Str.length_append, Str.length_append, Str.length_append]; omega), ?_⟩
      refine ⟨bd _ (by rw [Str.length_append, Str.length_append, Str.length_append, Str.length_append]; omega), ?_⟩
      exact hF [some (.int e.1.1), some (.int e.1.2), some (.int e.2)] _ _ rfl (Same.refl _) ⟨e, he, rfl⟩
    · intro ll vs H2 hll0 S2 hll hvl hrel
      have evs : vs = (hs.map lineS).map V.str := by
        apply List.ext_getElem?
        intro i
        rw [List.getElem?_map, List.getElem?_map]
        cases h1 : vs[i]? with
        | none =>
          have : vs.length ≤ i := List.getElem?_eq_none_iff.mp h1
          rw [List.getElem?_eq_none (by omega)]
          rfl
        | some v =>
          obtain ⟨e, he, rfl⟩ := hrel i v h1
          rw [he]
          rfl
      subst evs
      have hn0 : (0 : Int) ≤ n := by omega
      have hn1 : (n : Int) ≤ 1000000 := by omega
      have lh := head_len hn0 hn1
      have lnn := num_len hn0 hn1
      have h8 : ("tellers " : Str).length = 8 := by decide +kernel
      have bd : ∀ x : Str, x.length ≤ 100 → x.length ≤ sizeLine := fun x hx => by rw [sizeLine_eq]; omega
      walk_at "s"
      refine ⟨rfl, ?_⟩
      walk_at "s"
      refine ⟨_, rfl, bd _ (by rw [Str.empty_append]; omega), ?_⟩
      rw [Str.empty_append]
      walk_at "s"
      refine ⟨small_log hn0 hn1, _, rfl, bd (headS n) (by omega), bd (headS n) (by omega), ?_⟩
      walk_at "s"
      refine ⟨by simp [sizeLine_eq], fun l1 hl10 => ?_⟩
      have S3 := same_upd (o := .lst [.str (headS n)]) hl10
      walk_at "s"
      refine ⟨l1, ll, _, _, rfl, rfl, upd_same, S3 _ _ hll, by rw [List.length_map, List.length_map, sizeLine_eq]; show 1 + hs.length ≤ _; omega, fun l2 hl20 => ?_⟩
      walk_at "s"
      have hsum : ∀ (xs : List Str), (∀ x ∈ xs, x.length ≤ 32) → (xs.map (·.length)).sum ≤ 32 * xs.length := by
        intro xs
        induction xs with
        | nil => intro _; simp
        | cons a r ih =>
          intro h
          have h1 := h a List.mem_cons_self
          have h2 := ih fun x hx => h x (List.mem_cons_of_mem _ hx)
          simp only [List.map_cons, List.sum_cons, List.length_cons]
          omega
      have hs1 := hsum (headS n :: hs.map lineS) (fun x hx => by
        rcases List.mem_cons.mp hx with rfl | hx
        · omega
        · obtain ⟨e, he, rfl⟩ := List.mem_map.mp hx
          exact line_len (hin' e he))
      have h10 : ("\n" : Str).length = 1 := by decide +kernel
      refine ⟨_, l2, headS n :: hs.map lineS, rfl, rfl, SqL.of upd_same, ?_, ?_⟩
      · rw [h10]
        rw [List.length_cons, List.length_map] at hs1 ⊢
        omega
      · rw [text_join]
        exact q hs _ (((S1.trans S2).trans S3).trans (same_upd hl20)) so
theorem sc_law_text : FnScope ["many", "rows", "text", "row"] ["many", "rows"] (defScope s_law_text) := ⟨rfl, rfl, rfl, by decide +kernel, rfl, by decide +kernel, by decide +kernel⟩
theorem bi_law_text : BindOk "_law_text" "_law_text" s_law_text ["many", "rows"] := fun _ _ _ _ _ _ us hl => by
  obtain ⟨_, _, rfl⟩ := len2D hl
  rfl
theorem d_text (F : FunAt K mg "_law_text" "_law_text" s_law_text) (T : Txt K mg C) : Def P w K mg base 1 "_law_text" ["many", "rows"] sp_text := by
  refine F.def sc_law_text bi_law_text (fun vs H Q E h => ?_) (fun f cdv A outer s H vs Q E hr h => ?_)
  · obtain ⟨l, rs, cs, n, rfl, _⟩ := h
    rfl
  · obtain ⟨l, rs, cs, n, rfl, hl, tr, n12, hcl, hin, q⟩ := h
    have lenr : rs.length = cs.length := by rw [tr.length, List.length_map]
    refine ⟨_, (pss_cons (ps_set (i := 2) sc_law_text.nd rfl (Or.inl rfl) (pe_op op_add_str pe_str (pe_callTy call_str_int (by rfl) T.n_str L2.boot_str (pa_cons (pv 0) pa_nil))))
      (pss_cons (ps_for PassesOwn.never rfl (pi_list (pv 1)) (pg_name (i := 3) sc_law_text.nd rfl (Or.inl rfl))
      (pss_cons (ps_set (i := 2) sc_law_text.nd rfl (Or.inl rfl) (pe_op op_add_str (pe_op op_add_str (pe_op op_add_str (pe_op op_add_str (pv 2) pe_str) (pe_callTy call_str_int (by rfl) T.n_str L2.boot_str (pa_cons (pe_ix ix_tup (pv 3) pe_int (fun _ _ => rfl)) pa_nil))) pe_str) (pe_callTy call_str_int (by rfl) T.n_str L2.boot_str (pa_cons (pe_ix ix_tup (pv 3) pe_int (fun _ _ => rfl)) pa_nil))))
      (pss_one (ps_set (i := 2) sc_law_text.nd rfl (Or.inl rfl) (pe_op op_add_str (pe_op op_add_str (pv 2) pe_str) (pe_callTy call_str_int (by rfl) T.n_str L2.boot_str (pa_cons (pe_ix ix_tup (pv 3) pe_int (fun _ _ => rfl)) pa_nil)))))))
      (pss_one (ps_ret (pv 2))))), ?_⟩
    try clear hu
    try clear hu0
    try clear hu64
    try dsimp only [cxOf, cxComp, Cx.nox]
    have hn0 : (0 : Int) ≤ n := by omega
    have hn1 : (n : Int) ≤ 1000000 := by omega
    have lnn := num_len hn0 hn1
    have h8 : ("tellers " : Str).length = 8 := by decide +kernel
    have h4 : (" to " : Str).length = 4 := by decide +kernel
    have h5 : (" costs " : Str).length = 7 := by decide +kernel
    have h1 : ("\n" : Str).length = 1 := by decide +kernel
    have bd : ∀ x : Nat, x ≤ 10000 → x ≤ sizeLine := fun x hx => by rw [sizeLine_eq]; omega
    walk_at "s"
    refine ⟨_, rfl, small_log hn0 hn1, ?_⟩
    walk_at "s"
    refine ⟨_, _, rfl, rfl, bd _ (by omega), ?_⟩
    walk_at "s"
    refine ⟨l, rfl, ⟨_, SqL.of hl⟩, for_list (xs := rs) (fun i σ H' => ∃ (o1 : Option V), σ = [some (.int n), some (.ref l), some (.str (textS n (cs.take i))), o1] ∧ H' = H)
      ⟨none, by rw [List.take_zero]; rfl, rfl⟩ (fun i σ H' _ hh9 => by obtain ⟨_, _, h⟩ := hh9; subst h; exact SqL.of hl) ?_ ?_⟩
    · rintro i x σ H2 hx ⟨o1, rfl, rfl⟩
      obtain ⟨b, e, rfl, he, hb⟩ := tri_get tr hx
      have hil : i < rs.length := (List.getElem?_eq_some_iff.mp hx).1
      obtain ⟨⟨a1, a2⟩, ⟨b1, b2⟩, ⟨c1, c2⟩⟩ := hin e (List.mem_of_getElem? he)
      have l1 := num_len a1 a2
      have l2 := num_len b1 b2
      have l3 := num_len c1 c2
      have lt := text_len hn0 hn1 _ (cs.take i) rfl fun x hx => hin x (List.mem_of_mem_take hx)
      have lti : (cs.take i).length ≤ 144 := by rw [List.length_take]; omega
      have et : textS n (cs.take (i + 1)) = textS n (cs.take i) ++ "\n" ++ Str.ofString (toString e.1.1) ++ " to " ++ Str.ofString (toString e.1.2) ++ " costs " ++ Str.ofString (toString e.2) := by
        rw [List.take_add_one, he]
        show textS n (cs.take i ++ [e]) = _
        rw [text_snoc]
        unfold lineS
        simp only [Str.append_assoc]
      rw [et]
      generalize textS n (cs.take i) = tx at lt
      generalize (cs.take i).length = tl at lt lti
      walk_at "s"
      refine ⟨_, _, rfl, rfl, bd _ (by omega), ?_⟩
      walk_at "s"
      refine ⟨b, _, 0, _, rfl, rfl, SqT.of hb, atI_nat (j := 0) rfl, ?_⟩
      walk_at "s"
      refine ⟨_, rfl, small_log a1 a2, ?_⟩
      walk_at "s"
      refine ⟨_, _, rfl, rfl, bd _ (by rw [Str.length_append]; omega), ?_⟩
      walk_at "s"
      refine ⟨_, _, rfl, rfl, bd _ (by rw [Str.length_append, Str.length_append]; omega), ?_⟩
      walk_at "s"
      refine ⟨b, _, 1, _, rfl, rfl, SqT.of hb, atI_nat (j := 1) rfl, ?_⟩
      walk_at "s"
      refine ⟨_, rfl, small_log b1 b2, ?_⟩
      walk_at "s"
      refine ⟨_, _, rfl, rfl, bd _ (by rw [Str.length_append, Str.length_append, Str.length_append]; omega), ?_⟩
      walk_at "s"
      refine ⟨_, _, rfl, rfl, bd _ (by rw [Str.length_append, Str.length_append, Str.length_append, Str.length_append]; omega), ?_⟩
      walk_at "s"
      refine ⟨b, _, 2, _, rfl, rfl, SqT.of hb, atI_nat (j := 2) rfl, ?_⟩
      walk_at "s"
      refine ⟨_, rfl, small_log c1 c2, ?_⟩
      walk_at "s"
      refine ⟨_, _, rfl, rfl, bd _ (by rw [Str.length_append, Str.length_append, Str.length_append, Str.length_append, Str.length_append]; omega), ?_⟩
      walk_at "s"
      exact ⟨_, rfl, rfl⟩
    · rintro σ H2 ⟨o1, rfl, rfl⟩
      rw [lenr, List.take_length]
      walk_at "s"
      exact q
end
section
variable {P : Program} {w : World} {K : PySem.W.Frag} {mg : Str → Option Value} {base : Heap} {C C1 : Addr}
theorem sc_number : FnScope ["word"] ["word"] (defScope s_number) := ⟨rfl, rfl, rfl, by decide +kernel, rfl, by decide +kernel, by decide +kernel⟩
theorem bi_number : BindOk "number" "number" s_number ["word"] := fun _ _ _ _ _ _ us hl => by
  obtain ⟨_, rfl⟩ := len1D hl
  rfl
theorem d_number (F : FunAt K mg "number" "number" s_number) (T : Txt K mg C) (TN : TxtN mg) : Def P w K mg base 1 "number" ["word"] sp_number := by
  refine F.def sc_number bi_number (fun vs H Q E h => ?_) (fun f cdv A outer s H vs Q E hr h => ?_)
  · obtain ⟨n, rfl, _⟩ := h
    rfl
  · obtain ⟨n, rfl, h0, h1, q⟩ := h
    obtain ⟨t1, hg_MOST_FIGURES⟩ := TN.g_MOST_FIGURES
    obtain ⟨t2, hg_FIGURES⟩ := TN.g_FIGURES
    refine ⟨_, (pss_cons (ps_if (PW.pt (pw_or (pt_not (pt_chain op_le op_le pe_int (pe_callB call_len_str (by rfl) T.n_len L2.boot_len (pa_cons (pv 0) pa_nil)) (pe_glob (v := V.int 7) rfl hg_MOST_FIGURES ⟨_, rfl⟩))) (pw_or1 (pt_not (pt_val (pe_callB (call_allB rfl) (by rfl) T.n_all L2.boot_all (pa_cons (pe_comp (N' := ["#word", "sign"]) (n0 := 1) (osc := defScope s_number) (pi_str (pv 0)) (fun z => (pg_name (i := 1) (show (["#word", "sign"] : List Str).Nodup by decide +kernel) rfl (Or.inl rfl))) (fun z => pif_nil) (fun z => (pe_cmpR op_in_str (pv 1) (pe_glob (v := V.str "0123456789") rfl hg_FIGURES ⟨_, rfl⟩) rfl)) rfl rfl (names_ok (N := ["word"]) (by decide +kernel)) rfl) pa_nil)))))))
      (pss_one ps_never)
      pss_nil)
      (pss_one (ps_ret (pe_callTy call_intS (by rfl) T.n_int L2.boot_int (pa_cons (pv 0) pa_nil))))), ?_⟩
    try clear hu
    try clear hu0
    try clear hu64
    try dsimp only [cxOf, cxComp, Cx.nox]
    have l1 := num_pos h0
    have l2 := num_len h0 h1
    walk_at "s"
    have hA : (1 : Int) ≤ ((Str.ofString (toString n)).length : Int) := by omega
    have hB : ((Str.ofString (toString n)).length : Int) ≤ 7 := by omega
    refine ⟨_, rfl, by rw [sizeLine_eq]; omega, ?_⟩
    walk_at "s"
    refine w_istr ?_
    walk_at "s"
    refine ⟨_, rfl, num_ascii h0, ?_⟩
    have hsz : (Str.ofString (toString n)).cps.size ≤ 7 := l2
    refine comp_str (fun p i σ H' => ∃ w1, σ = [some (.str (Str.ofString (toString n))), w1] ∧ Same H H' ∧ H' p = some (.lst ((List.replicate i true).map V.bl))) ?_ ?_ ?_
    · intro p hp
      exact ⟨none, rfl, same_upd hp, upd_same⟩
    · rintro p z i c σ H1 hp hc ⟨w1, rfl, sm, hv⟩
      have hi : i < 7 := by
        have := (Array.getElem?_eq_some_iff.mp hc).1
        omega
      obtain ⟨d1, d2⟩ := num_signs h0 c (Array.mem_toList_iff.mpr (Array.mem_of_getElem? hc))
      walk_at "s"
      refine ⟨_, _, rfl, rfl, ?_⟩
      rw [figures_has c d1 d2]
      refine ⟨_, hv, by rw [List.length_map, List.length_replicate, sizeLine_eq]; omega, some (.str ⟨#[c]⟩), rfl, fun b o h => ?_, ?_⟩
      · rw [upd_ne (ne_of_none h hp)]
        exact sm _ _ h
      · rw [upd_same, List.replicate_succ', List.map_append]
        rfl
    · rintro p σ H1 hp ⟨w1, rfl, sm, hv⟩
      walk_at "s"
      refine ⟨p, _, rfl, SqL.of hv, ?_⟩
      rw [show (List.replicate (Str.ofString (toString n)).cps.size true).all id = true by simp]
      walk_at "s"
      refine ⟨n, rfl, h0, by omega, ?_⟩
      exact q _ sm
theorem sc_words_of : FnScope ["line", "many", "words"] ["line", "many"] (defScope s_words_of) := ⟨rfl, rfl, rfl, by decide +kernel, rfl, by decide +kernel, by decide +kernel⟩
theorem bi_words_of : BindOk "words_of" "words_of" s_words_of ["line", "many"] := fun _ _ _ _ _ _ us hl => by
  obtain ⟨_, _, rfl⟩ := len2D hl
  rfl
theorem d_words (F : FunAt K mg "words_of" "words_of" s_words_of) (T : Txt K mg C) : Def P w K mg base 1 "words_of" ["line", "many"] sp_words := by
  refine F.def sc_words_of bi_words_of (fun vs H Q E h => ?_) (fun f cdv A outer s H vs Q E hr h => ?_)
  · obtain ⟨line, k, ws, rfl, _⟩ := h
    rfl
  · obtain ⟨line, k, ws, rfl, hw, hk, hl, q⟩ := h
    refine ⟨_, (pss_cons (ps_set (i := 2) sc_words_of.nd rfl (Or.inl rfl) (pe_bm PySem.F.plainAttrs_str PySem.F.slot_str_split PySem.F.type_str_split mt_split (pv 0) (pa_cons pe_str pa_nil)))
      (pss_cons (ps_if (pt_cmpR op_ne (pe_callB call_len_seq (by rfl) T.n_len L2.boot_len (pa_cons (pv 2) pa_nil)) (pv 1) (nomark _))
      (pss_one ps_never)
      pss_nil)
      (pss_one (ps_ret (pv 2))))), ?_⟩
    try clear hu
    try clear hu0
    try clear hu64
    try dsimp only [cxOf, cxComp, Cx.nox]
    walk_at "s"
    refine ⟨rfl, ?_⟩
    walk_at "s"
    refine ⟨_, _, rfl, rfl, by rw [blank_eq]; rfl, by rw [sizeLine_eq]; omega, fun p hp => ?_⟩
    rw [hw]
    walk_at "s"
    refine ⟨p, _, rfl, .inl (SqL.of upd_same), ?_⟩
    rw [List.length_map, hk]
    walk_at "s"
    refine w_npos rfl ?_
    walk_at "s"
    exact q p _ (same_upd hp) hp upd_same
end
section
variable {P : Program} {w : World} {K : PySem.W.Frag} {mg : Str → Option Value} {base : Heap} {C C1 : Addr}
theorem sc_let_line : FnScope ["book", "line", "words", "cost"] ["book", "line"] (defScope s_let_line) := ⟨rfl, rfl, rfl, by decide +kernel, rfl, by decide +kernel, by decide +kernel⟩
theorem bi_let_line : BindOk "let_line" "let_line" s_let_line ["book", "line"] := fun _ _ _ _ _ _ us hl => by
  obtain ⟨_, _, rfl⟩ := len2D hl
  rfl
theorem d_letl (F : FunAt K mg "let_line" "let_line" s_let_line) (T : Txt K mg C) (TN : TxtN mg) (D_words_of : Def P w K mg base 1 "words_of" ["line", "many"] sp_words) (D_number : Def P w K mg base 1 "number" ["word"] sp_number) (M_let : MetD P w K mg base C 2 "let" ["self", "one", "other", "cost"] (sp_let C)) : Def P w K mg base 3 "let_line" ["book", "line"] (sp_letl C) := by
  refine F.def sc_let_line bi_let_line (fun vs H Q E h => ?_) (fun f cdv A outer s H vs Q E hr h => ?_)
  · obtain ⟨p, d, n, cs, e, rfl, _⟩ := h
    rfl
  · obtain ⟨p, d, n, cs, e, rfl, B, hin, ok2, hcl, q⟩ := h
    obtain ⟨t1, hg_MOST_COST⟩ := TN.g_MOST_COST
    refine ⟨_, (pss_cons (ps_set (i := 2) sc_let_line.nd rfl (Or.inl rfl) (pe_callD D_words_of (hr.mono (by decide)) (pa_cons (pv 1) (pa_cons pe_int pa_nil))))
      (pss_cons (ps_set (i := 3) sc_let_line.nd rfl (Or.inl rfl) (pe_callD D_number (hr.mono (by decide)) (pa_cons (pe_ix ix_list (pv 2) pe_int (fun _ _ => rfl)) pa_nil)))
      (pss_cons (ps_if (pt_cmpR op_gt (pv 3) (pe_glob (v := V.int 1000000) rfl hg_MOST_COST ⟨_, rfl⟩) (nomark _))
      (pss_one ps_never)
      pss_nil)
      (pss_one (ps_expr (pe_methD M_let T.cl (hr.mono (by decide)) (pv 0) (pa_cons (pe_callD D_number (hr.mono (by decide)) (pa_cons (pe_ix ix_list (pv 2) pe_int (fun _ _ => rfl)) pa_nil)) (pa_cons (pe_callD D_number (hr.mono (by decide)) (pa_cons (pe_ix ix_list (pv 2) pe_int (fun _ _ => rfl)) pa_nil)) (pa_cons (pv 3) pa_nil))))))))), ?_⟩
    try clear hu
    try clear hu0
    try clear hu64
    try dsimp only [cxOf, cxComp, Cx.nox]
    have hll := line_len hin
    obtain ⟨⟨a1, a2⟩, ⟨b1, b2⟩, ⟨c1, c2⟩⟩ := id hin
    walk_at "s"
    refine ⟨lineS e, 5, _, rfl, line_split hin, rfl, by omega, fun l H1 S1 hl0 hl => ?_⟩
    have B1 := B.same S1
    walk_at "s"
    refine ⟨l, _, 4, _, rfl, rfl, SqL.of hl, atI_nat (j := 4) rfl, ?_⟩
    walk_at "s"
    refine ⟨e.2, rfl, c1, c2, fun H2 S2 => ?_⟩
    walk_at "s"
    rw [decide_eq_false (show ¬ (1000000 : Int) < e.2 by omega)]
    walk_at "s"
    refine meth_book (B1.same S2) (by decide +kernel) (by decide +kernel) ?_
    walk_at "s"
    refine ⟨l, _, 0, _, rfl, rfl, SqL.of (S2 _ _ hl), atI_nat (j := 0) rfl, ?_⟩
    walk_at "s"
    refine ⟨e.1.1, rfl, a1, a2, fun H3 S3 => ?_⟩
    walk_at "s"
    refine ⟨l, _, 2, _, rfl, rfl, SqL.of (S3 _ _ (S2 _ _ hl)), atI_nat (j := 2) rfl, ?_⟩
    walk_at "s"
    refine ⟨e.1.2, rfl, b1, b2, fun H4 S4 => ?_⟩
    walk_at "s"
    have S04 := ((S1.trans S2).trans S3).trans S4
    refine ⟨p, d, n, cs, e.1.1, e.1.2, e.2, rfl, B.same S04, ok2, hcl, fun H5 B5 kb => ?_⟩
    walk_at "s"
    exact q H5 B5 fun b o h hb => kb b o (S04 _ _ h) hb
theorem sc_book_of : FnScope ["text", "lines", "book", "line"] ["text"] (defScope s_book_of) := ⟨rfl, rfl, rfl, by decide +kernel, rfl, by decide +kernel, by decide +kernel⟩
theorem bi_book_of : BindOk "book_of" "book_of" s_book_of ["text"] := fun _ _ _ _ _ _ us hl => by
  obtain ⟨_, rfl⟩ := len1D hl
  rfl
theorem d_bookof (F : FunAt K mg "book_of" "book_of" s_book_of) (T : Txt K mg C) (D_words_of : Def P w K mg base 1 "words_of" ["line", "many"] sp_words) (D_number : Def P w K mg base 1 "number" ["word"] sp_number) (D_let_line : Def P w K mg base 3 "let_line" ["book", "line"] (sp_letl C)) (K_Book : MakD P w K mg base C 1 "Book" ["self", "many"] (sp_init C)) : Def P w K mg base 4 "book_of" ["text"] (sp_read C) := by
  refine F.def sc_book_of bi_book_of (fun vs H Q E h => ?_) (fun f cdv A outer s H vs Q E hr h => ?_)
  · obtain ⟨n, cs, rfl, _⟩ := h
    rfl
  · obtain ⟨n, cs, rfl, n1, n12, R, q⟩ := h
    refine ⟨_, (pss_cons (ps_set (i := 1) sc_book_of.nd rfl (Or.inl rfl) (pe_bm PySem.F.plainAttrs_str PySem.F.slot_str_split PySem.F.type_str_split mt_split (pv 0) (pa_cons pe_str pa_nil)))
      (pss_cons (ps_set (i := 2) sc_book_of.nd rfl (Or.inl rfl) (pe_makeD K_Book (hr.mono (by decide)) (pa_cons (pe_callD D_number (hr.mono (by decide)) (pa_cons (pe_ix ix_list (pe_callD D_words_of (hr.mono (by decide)) (pa_cons (pe_ix ix_list (pv 1) pe_int (fun _ _ => rfl)) (pa_cons pe_int pa_nil))) pe_int (fun _ _ => rfl)) pa_nil)) pa_nil)))
      (pss_cons (ps_for PassesOwn.never rfl (pi_list (pe_slice sl_list (pv 1) (po_some pe_int) po_none)) (pg_name (i := 3) sc_book_of.nd rfl (Or.inl rfl))
      (pss_one (ps_expr (pe_callD D_let_line (hr.mono (by decide)) (pa_cons (pv 2) (pa_cons (pv 3) pa_nil))))))
      (pss_one (ps_ret (pv 2)))))), ?_⟩
    try clear hu
    try clear hu0
    try clear hu64
    try dsimp only [cxOf, cxComp, Cx.nox]
    have hin := rowIn_of n12 R
    have hR := R.len
    have hn0 : (0 : Int) ≤ n := by omega
    have hnk : (n : Int) ≤ 1000000 := by omega
    have htl := text_len hn0 hnk _ cs rfl hin
    have hhl := head_len hn0 hnk
    walk_at "s"
    refine ⟨rfl, ?_⟩
    walk_at "s"
    refine ⟨_, _, rfl, rfl, by rw [nl_eq]; rfl, by rw [sizeLine_eq]; omega, fun l hl0 => ?_⟩
    rw [text_split hn0 hin]
    have S1 := same_upd (o := .lst ((headS n :: cs.map lineS).map V.str)) hl0
    have hl1 : upd H l (.lst ((headS n :: cs.map lineS).map V.str)) l = some (.lst ((headS n :: cs.map lineS).map V.str)) := upd_same
    generalize upd H l (.lst ((headS n :: cs.map lineS).map V.str)) = H1 at S1 hl1
    walk_at "s"
    refine ⟨l, _, 0, _, rfl, rfl, SqL.of hl1, atI_nat (j := 0) rfl, ?_⟩
    walk_at "s"
    refine ⟨headS n, 2, _, rfl, head_split hn0, rfl, by omega, fun l2 H2 S2 hl20 hl2 => ?_⟩
    walk_at "s"
    refine ⟨l2, _, 1, _, rfl, rfl, SqL.of hl2, atI_nat (j := 1) rfl, ?_⟩
    walk_at "s"
    refine ⟨n, rfl, hn0, hnk, fun H3 S3 => ?_⟩
    have S03 := (S1.trans S2).trans S3
    have hl3 := S3 _ _ (S2 _ _ hl1)
    walk_at "s"
    intro x dx nx ndx nex
    refine ⟨x, dx, n, rfl, upd_same, by omega, by omega, fun d H4 hd B4 kp4 => ⟨rfl, ?_⟩⟩
    have S4 : Same H3 H4 := fun b o e => kp4 b o (by rw [upd_ne (ne_of_none e nx), upd_ne (ne_of_none e ndx)]; exact e) (ne_of_none e nx)
    have hxH : H x = none := S03.free nx
    have hd0 : H d = none := by
      have : Same H3 (upd (upd H3 dx (.own x)) x (.ins C dx [])) := fun b o e => by rw [upd_ne (ne_of_none e nx), upd_ne (ne_of_none e ndx)]; exact e
      exact S03.free (this.free hd)
    have hl4 := S4 _ _ hl3
    have S04 := S03.trans S4
    walk_at "s"
    refine ⟨l, _, rfl, SqL.of hl4, fun l3 hl30 => ?_⟩
    rw [cut_rest]
    have S5 := same_upd (o := .lst (((headS n :: cs.map lineS).map V.str).drop 1)) hl30
    have hl35 : upd H4 l3 (.lst (((headS n :: cs.map lineS).map V.str).drop 1)) l3 = some (.lst ((cs.map lineS).map V.str)) := upd_same
    generalize upd H4 l3 (.lst (((headS n :: cs.map lineS).map V.str).drop 1)) = H5 at S5 hl35
    have hl3d : l3 ≠ d := (ne_of_none B4.dc hl30).symm
    refine ⟨l3, rfl, ⟨_, SqL.of hl35⟩, for_list (xs := (cs.map lineS).map V.str) (fun i σ H' => ∃ o, σ = [some (.str (textS n cs)), some (.ref l), some (.ref x), o] ∧ Same H H' ∧ H' l3 = some (.lst ((cs.map lineS).map V.str)) ∧ BookAt C H' x d n (cs.take i))
      ⟨none, rfl, S04.trans S5, hl35, B4.same S5⟩ (fun i σ H' _ hh9 => by obtain ⟨_, _, _, h, _⟩ := hh9; exact SqL.of h) ?_ ?_⟩
    · rintro i y σ H6 hy ⟨o, rfl, sm, hl36, B6⟩
      rw [List.getElem?_map, List.getElem?_map] at hy
      cases he : cs[i]? with
      | none => rw [he] at hy; cases hy
      | some e =>
        rw [he] at hy
        obtain rfl : V.str (lineS e) = y := Option.some.inj hy
        have hem : e ∈ cs := List.mem_of_getElem? he
        walk_at "s"
        refine ⟨x, d, n, _, e, rfl, B6, hin e hem, R.ok e.1 (List.mem_map_of_mem hem), by rw [List.length_take]; omega, fun H7 B7 kb => ?_⟩
        rw [← put_take R.nd he] at B7
        walk_at "s"
        exact ⟨_, rfl, fun b o e => kb b o (sm _ _ e) (ne_of_none e hd0), kb _ _ hl36 hl3d, B7⟩
    · rintro σ H6 ⟨o, rfl, sm, hl36, B6⟩
      rw [List.length_map, List.length_map, List.take_length] at B6
      walk_at "s"
      exact q x d H6 sm hxH hd0 B6
theorem sc_read : FnScope ["text", "book", "e"] ["text"] (defScope s_read) := ⟨rfl, rfl, rfl, by decide +kernel, rfl, by decide +kernel, by decide +kernel⟩
theorem bi_read : BindOk "read" "read" s_read ["text"] := fun _ _ _ _ _ _ us hl => by
  obtain ⟨_, rfl⟩ := len1D hl
  rfl
theorem d_read (F : FunAt K mg "read" "read" s_read) (T : Txt K mg C) (D_book_of : Def P w K mg base 4 "book_of" ["text"] (sp_read C)) (D_shown : Def P w K mg base 2 "shown" ["book"] (sp_shown C)) : Def P w K mg base 5 "read" ["text"] (sp_read C) := by
  refine F.def sc_read bi_read (fun vs H Q E h => ?_) (fun f cdv A outer s H vs Q E hr h => ?_)
  · obtain ⟨n, cs, rfl, _⟩ := h
    rfl
  · obtain ⟨n, cs, rfl, n1, n12, R, q⟩ := h
    refine ⟨_, (pss_cons (ps_try0 (fun F pn =>
      (pss_one (ps_set (i := 1) sc_read.nd rfl (Or.inl rfl) (pe_callD D_book_of (hr.mono (by decide)) (pa_cons (pv 0) pa_nil))))))
      (pss_cons (ps_if (pt_cmpR op_ne (pe_callD D_shown (hr.mono (by decide)) (pa_cons (pv 1) pa_nil)) (pv 0) (nomark _))
      (pss_one ps_never)
      pss_nil)
      (pss_one (ps_ret (pv 1))))), ?_⟩
    try clear hu
    try clear hu0
    try clear hu64
    try dsimp only [cxOf, cxComp, Cx.nox]
    have hin := rowIn_of n12 R
    walk_at "s"
    refine w_try0 ?_
    walk_at "s"
    refine ⟨n, cs, rfl, n1, n12, R, fun p d H1 S1 hp hd B1 => ?_⟩
    walk_at "s"
    refine ⟨p, d, n, cs, rfl, B1, R.bk, n12, hin, fun hs H2 S2 so => ?_⟩
    rw [sorted_unique2 so (sorted_self R.rise)]
    walk_at "s"
    refine w_npos rfl ?_
    walk_at "s"
    exact q p d H2 (S1.trans S2) hp hd (B1.same S2)
end
open PySem.NumText
theorem two_of {α : Type} {l : List α} (h : l.length = 2) : ∃ a b, l = [a, b] := by
  match l, h with
  | [a, b], _ => exact ⟨a, b, rfl⟩
theorem Exc.exm {K : PySem.W.Frag} {mg : Str → Option Value} {has : List Ex} {xa : Ex → Addr} (E : Exc K mg has xa) {x y : Ex} (hx : x ∈ has) (hy : y ∈ has) : PySem.W.exmOne K (.ref (xa x)) (.ref (xa y)) = some (isa x y) := by
  unfold PySem.W.exmOne PySem.W.kitCls
  have h1 : PySem.W.subIn K (.ref (xa y)) (.type "BaseException") = some true := (E.nm y hy).xc.mb
  obtain ⟨cd, hcd⟩ := (E.nm y hy).xc.isCls
  rw [h1, if_pos (by decide)]
  have : ((PySem.W.clsIn K (xa y)).isSome && PySem.W.typeIn K (.ref (xa y)) == some (.type "type")) = true := by rw [hcd, (E.nm y hy).ty]; rfl
  simp only [this, if_true]
  exact E.mro x hx y hy
section
variable {P : Program} {w : World} {K : PySem.W.Frag} {mg : Str → Option Value} {base : Heap} {C C1 : Addr} {xa : Ex → Addr}
theorem x_number (F : FunAt K mg "number" "number" s_number) (T : Txt K mg C) (TN : TxtN mg) (EX : Exc K mg hasX xa) : DefX P w K mg base 1 "number" ["word"] (sp_numberX xa) := by
  refine F.defX sc_number bi_number (fun vs H Q E h => ?_) (fun f cdv A outer s H vs Q E hr h => ?_)
  · obtain ⟨w, rfl, _⟩ := h
    rfl
  · obtain ⟨wd, rfl, asc, hlen, q, x⟩ := h
    obtain ⟨t1, hg_MOST_FIGURES⟩ := TN.g_MOST_FIGURES
    obtain ⟨t2, hg_FIGURES⟩ := TN.g_FIGURES
    refine ⟨_, (pss_cons (ps_if (PW.pt (pw_or (pt_not (pt_chain op_le op_le pe_int (pe_callB call_len_str (by rfl) T.n_len L2.boot_len (pa_cons (pv 0) pa_nil)) (pe_glob (v := V.int 7) rfl hg_MOST_FIGURES ⟨_, rfl⟩))) (pw_or1 (pt_not (pt_val (pe_callB (call_allB rfl) (by rfl) T.n_all L2.boot_all (pa_cons (pe_comp (N' := ["#word", "sign"]) (n0 := 1) (osc := defScope s_number) (pi_str (pv 0)) (fun z => (pg_name (i := 1) (show (["#word", "sign"] : List Str).Nodup by decide +kernel) rfl (Or.inl rfl))) (fun z => pif_nil) (fun z => (pe_cmpR op_in_str (pv 1) (pe_glob (v := V.str "0123456789") rfl hg_FIGURES ⟨_, rfl⟩) rfl)) rfl rfl (names_ok (N := ["word"]) (by decide +kernel)) rfl) pa_nil)))))))
      (pss_one (ps_raise raiseX (EX.nm .BadText (by decide)).xc (EX.nm .BadText (by decide)).gl rfl (pa_cons pe_str pa_nil)))
      pss_nil)
      (pss_one (ps_ret (pe_callTy call_intD (by rfl) T.n_int L2.boot_int (pa_cons (pv 0) pa_nil))))), ?_⟩
    try clear hu
    try clear hu0
    try clear hu64
    try dsimp only [cxOf, cxComp, Cx.nox]
    have one_le : 1 ≤ sizeLine := by simp [sizeLine_eq]
    walk_at "s"
    by_cases hA : (1 : Int) ≤ (wd.length : Int)
    rotate_left
    · refine ⟨_, rfl, by rw [sizeLine_eq]; omega, ?_⟩
      walk_at "s"
      exact ⟨one_le, x (fun z => by omega) H (Same.refl _)⟩
    by_cases hB : (wd.length : Int) ≤ 7
    rotate_left
    · refine ⟨_, rfl, by rw [sizeLine_eq]; omega, ?_⟩
      walk_at "s"
      exact ⟨one_le, x (fun z => by omega) H (Same.refl _)⟩
    refine ⟨_, rfl, by rw [sizeLine_eq]; omega, ?_⟩
    walk_at "s"
    refine w_istr ?_
    walk_at "s"
    refine ⟨_, rfl, asc, ?_⟩
    have hsz : wd.cps.size ≤ 7 := by have := len_list wd; rw [Array.length_toList] at this; omega
    refine comp_str (fun p i σ H' => ∃ w1, σ = [some (.str wd), w1] ∧ Same H H' ∧ H' p = some (.lst (((wd.cps.toList.take i).map fun c => decide (48 ≤ c) && decide (c ≤ 57)).map V.bl))) ?_ ?_ ?_
    · intro p hp
      exact ⟨none, rfl, same_upd hp, upd_same⟩
    · rintro p z i c σ H1 hp hc ⟨w1, rfl, sm, hv⟩
      have hi : i < 7 := by
        have := (Array.getElem?_eq_some_iff.mp hc).1
        omega
      have hc128 := asc_mem.mp asc c (Array.mem_toList_iff.mpr (Array.mem_of_getElem? hc))
      walk_at "s"
      refine ⟨_, _, rfl, rfl, ?_⟩
      rw [fig_in c hc128]
      refine ⟨_, hv, by rw [List.length_map, List.length_map, List.length_take, sizeLine_eq]; omega, some (.str ⟨#[c]⟩), rfl, fun b o h => ?_, ?_⟩
      · rw [upd_ne (ne_of_none h hp)]
        exact sm _ _ h
      · rw [upd_same, List.take_add_one, Array.getElem?_toList, hc, List.map_append, List.map_append]
        rfl
    · rintro p σ H1 hp ⟨w1, rfl, sm, hv⟩
      rw [show wd.cps.size = wd.cps.toList.length from Array.length_toList.symm, List.take_length] at hv
      walk_at "s"
      refine ⟨p, _, rfl, SqL.of hv, ?_⟩
      have ea : (wd.cps.toList.map fun c => decide (48 ≤ c) && decide (c ≤ 57)).all id = figB wd := by
        unfold figB
        rw [List.all_map]
        rfl
      rw [ea]
      cases hf : figB wd with
      | false =>
        walk_at "s"
        exact ⟨one_le, x (fun z => by rw [hf] at z; cases z.2) H1 sm⟩
      | true =>
        walk_at "s"
        refine ⟨wd, rfl, figs.mp hf, fun z => ?_, by omega, ?_⟩
        · have := len_list wd
          rw [z] at this
          simp only [List.length_nil] at this
          omega
        · exact q ⟨⟨by omega, by omega⟩, hf⟩ H1 sm
theorem x_words (F : FunAt K mg "words_of" "words_of" s_words_of) (T : Txt K mg C) (EX : Exc K mg hasX xa) : DefX P w K mg base 1 "words_of" ["line", "many"] (sp_wordsX xa) := by
  refine F.defX sc_words_of bi_words_of (fun vs H Q E h => ?_) (fun f cdv A outer s H vs Q E hr h => ?_)
  · obtain ⟨line, k, rfl, _⟩ := h
    rfl
  · obtain ⟨line, k, rfl, hl, q, x⟩ := h
    refine ⟨_, (pss_cons (ps_set (i := 2) sc_words_of.nd rfl (Or.inl rfl) (pe_bm PySem.F.plainAttrs_str PySem.F.slot_str_split PySem.F.type_str_split mt_split (pv 0) (pa_cons pe_str pa_nil)))
      (pss_cons (ps_if (pt_cmpR op_ne (pe_callB call_len_seq (by rfl) T.n_len L2.boot_len (pa_cons (pv 2) pa_nil)) (pv 1) (nomark _))
      (pss_one (ps_raise raiseX (EX.nm .BadText (by decide)).xc (EX.nm .BadText (by decide)).gl rfl (pa_cons pe_str pa_nil)))
      pss_nil)
      (pss_one (ps_ret (pv 2))))), ?_⟩
    try clear hu
    try clear hu0
    try clear hu64
    try dsimp only [cxOf, cxComp, Cx.nox]
    walk_at "s"
    refine ⟨rfl, ?_⟩
    walk_at "s"
    refine ⟨_, _, rfl, rfl, by rw [blank_eq]; rfl, by rw [sizeLine_eq]; omega, fun p hp => ?_⟩
    walk_at "s"
    refine ⟨p, _, rfl, .inl (SqL.of upd_same), ?_⟩
    rw [List.length_map]
    walk_at "s"
    by_cases hk : ((Txt.split line " ").length : Int) = k
    · refine w_npos hk ?_
      walk_at "s"
      exact q hk p _ (same_upd hp) hp upd_same
    · refine w_nneg hk ?_
      walk_at "s"
      exact ⟨by simp [sizeLine_eq], x hk _ (same_upd hp)⟩
theorem x_letl (F : FunAt K mg "let_line" "let_line" s_let_line) (T : Txt K mg C) (TN : TxtN mg) (EX : Exc K mg hasX xa) (X_words_of : DefX P w K mg base 1 "words_of" ["line", "many"] (sp_wordsX xa)) (X_number : DefX P w K mg base 1 "number" ["word"] (sp_numberX xa)) (X_let : MetX P w K mg base C 2 "let" ["self", "one", "other", "cost"] (sp_letX xa C)) : DefX P w K mg base 3 "let_line" ["book", "line"] (sp_letlX xa C) := by
  refine F.defX sc_let_line bi_let_line (fun vs H Q E h => ?_) (fun f cdv A outer s H vs Q E hr h => ?_)
  · obtain ⟨p, d, n, cs, e, rfl, _⟩ := h
    rfl
  · obtain ⟨p, d, n, cs, line, rfl, B, hcl, asc, hll, x, q⟩ := h
    obtain ⟨t1, hg_MOST_COST⟩ := TN.g_MOST_COST
    have bad : Ex.BadText ∈ readX := by decide
    refine ⟨_, (pss_cons (ps_set (i := 2) sc_let_line.nd rfl (Or.inl rfl) (pe_callX X_words_of (hr.mono (by decide)) passX (pa_cons (pv 1) (pa_cons pe_int pa_nil))))
      (pss_cons (ps_set (i := 3) sc_let_line.nd rfl (Or.inl rfl) (pe_callX X_number (hr.mono (by decide)) passX (pa_cons (pe_ix ix_list (pv 2) pe_int (fun _ _ => rfl)) pa_nil)))
      (pss_cons (ps_if (pt_cmpR op_gt (pv 3) (pe_glob (v := V.int 1000000) rfl hg_MOST_COST ⟨_, rfl⟩) (nomark _))
      (pss_one (ps_raise raiseX (EX.nm .BadText (by decide)).xc (EX.nm .BadText (by decide)).gl rfl (pa_cons pe_str pa_nil)))
      pss_nil)
      (pss_one (ps_expr (pe_methX X_let T.cl (hr.mono (by decide)) passX (pv 0) (pa_cons (pe_callX X_number (hr.mono (by decide)) passX (pa_cons (pe_ix ix_list (pv 2) pe_int (fun _ _ => rfl)) pa_nil)) (pa_cons (pe_callX X_number (hr.mono (by decide)) passX (pa_cons (pe_ix ix_list (pv 2) pe_int (fun _ _ => rfl)) pa_nil)) (pa_cons (pv 3) pa_nil))))))))), ?_⟩
    try clear hu
    try clear hu0
    try clear hu64
    try dsimp only [cxOf, cxComp, Cx.nox]
    walk_at "s"
    refine ⟨line, 5, rfl, hll, fun h5 l H1 S1 hl0 hl => ?_, fun _ H1 S1 => x _ bad H1 S1⟩
    have hws : ∀ v ∈ Txt.split line " ", v.cps.all (· < 128) = true ∧ v.length ≤ 10000 := fun v hv => by
      rw [blank_eq] at hv
      exact ⟨part_asc asc hv, Nat.le_trans (part_le hv) hll⟩
    obtain ⟨w0, w1, w2, w3, w4, hw⟩ := len5D (l := Txt.split line " ") (by omega)
    rw [hw] at hl hws
    obtain ⟨a0, b0⟩ := hws w0 (by simp)
    obtain ⟨a2, b2⟩ := hws w2 (by simp)
    obtain ⟨a4, b4⟩ := hws w4 (by simp)
    have B1 := B.same S1
    walk_at "s"
    refine ⟨l, _, 4, _, rfl, rfl, SqL.of hl, atI_nat (j := 4) rfl, ?_⟩
    walk_at "s"
    refine ⟨w4, rfl, a4, b4, fun h4 H2 S2 => ?_, fun _ H2 S2 => x _ bad H2 (S1.trans S2)⟩
    have S12 := S1.trans S2
    walk_at "s"
    by_cases hc : (1000000 : Int) < wval w4
    · rw [decide_eq_true hc]
      walk_at "s"
      exact ⟨by simp [sizeLine_eq], x _ bad H2 S12⟩
    rw [decide_eq_false hc]
    walk_at "s"
    refine meth_book (B1.same S2) (by decide +kernel) (by decide +kernel) ?_
    walk_at "s"
    refine ⟨l, _, 0, _, rfl, rfl, SqL.of (S2 _ _ hl), atI_nat (j := 0) rfl, ?_⟩
    walk_at "s"
    refine ⟨w0, rfl, a0, b0, fun h0 H3 S3 => ?_, fun _ H3 S3 => x _ bad H3 (S12.trans S3)⟩
    have S13 := S12.trans S3
    walk_at "s"
    refine ⟨l, _, 2, _, rfl, rfl, SqL.of (S3 _ _ (S2 _ _ hl)), atI_nat (j := 2) rfl, ?_⟩
    walk_at "s"
    refine ⟨w2, rfl, a2, b2, fun h2 H4 S4 => ?_, fun _ H4 S4 => x _ bad H4 (S13.trans S4)⟩
    have S14 := S13.trans S4
    walk_at "s"
    refine ⟨p, d, n, cs, wval w0, wval w2, wval w4, rfl, B.same S14, hcl, fun hre H5 B5 kb => ?_, fun y hy => x y (refuses_read hy) H4 S14⟩
    walk_at "s"
    exact q _ _ _ H5 (ok_refuses hre) (wval_nonneg _) (by omega) B5 fun b o h hb => kb b o (S14 _ _ h) hb
theorem x_bookofA (F : FunAt K mg "book_of" "book_of" s_book_of) (T : Txt K mg C) (X_words_of : DefX P w K mg base 1 "words_of" ["line", "many"] (sp_wordsX xa)) (X_number : DefX P w K mg base 1 "number" ["word"] (sp_numberX xa)) (X_let_line : DefX P w K mg base 3 "let_line" ["book", "line"] (sp_letlX xa C)) (X_Book : MakX P w K mg base C 1 "Book" ["self", "many"] (sp_initX xa C)) : DefX P w K mg base 4 "book_of" ["text"] (sp_bookofA xa C) := by
  refine F.defX sc_book_of bi_book_of (fun vs H Q E h => ?_) (fun f cdv A outer s H vs Q E hr h => ?_)
  · obtain ⟨t, rfl, _⟩ := h
    rfl
  · obtain ⟨t, rfl, pl, x, q⟩ := h
    have bad : Ex.BadText ∈ readX := by decide
    have hlen := pl.len
    have hfew := pl.few
    have hcnt : (Txt.split t "\n").length ≤ 61 := by rw [nl_eq, split_count]; omega
    have hls : ∀ v ∈ Txt.split t "\n", v.cps.all (· < 128) = true ∧ v.length ≤ 10000 := fun v hv => by
      rw [nl_eq] at hv
      exact ⟨part_asc pl.asc hv, Nat.le_trans (part_le hv) hlen⟩
    obtain ⟨l0, ls, hsp⟩ : ∃ l0 ls, Txt.split t "\n" = l0 :: ls := List.exists_cons_of_ne_nil (split_ne _ _)
    refine ⟨_, (PSs.onw (pss_cons (ps_set (i := 1) sc_book_of.nd rfl (Or.inl rfl) (pe_bm PySem.F.plainAttrs_str PySem.F.slot_str_split PySem.F.type_str_split mt_split (pv 0) (pa_cons pe_str pa_nil)))
      (pss_cons (ps_set (i := 2) sc_book_of.nd rfl (Or.inl rfl) (pe_makeX X_Book (hr.mono (by decide)) (passW rfl rfl) (pa_cons (pe_callX X_number (hr.mono (by decide)) (passW rfl rfl) (pa_cons (pe_ix ix_list (pe_callX X_words_of (hr.mono (by decide)) (passW rfl rfl) (pa_cons (pe_ix ix_list (pv 1) pe_int (fun _ _ => rfl)) (pa_cons pe_int pa_nil))) pe_int (fun _ _ => rfl)) pa_nil)) pa_nil)))
      (pss_cons (ps_for (onWay_own rfl rfl) rfl (pi_list (pe_slice sl_list (pv 1) (po_some pe_int) po_none)) (pg_name (i := 3) sc_book_of.nd rfl (Or.inl rfl))
      (pss_one (ps_expr (pe_callX X_let_line (hr.mono (by decide)) (passW rfl rfl) (pa_cons (pv 2) (pa_cons (pv 3) pa_nil))))))
      (pss_one (ps_ret (pv 2))))))), ?_⟩
    try clear hu
    try clear hu0
    try clear hu64
    try dsimp only [cxOf, cxComp, Cx.nox]
    walk_at "s"
    refine ⟨rfl, ?_⟩
    walk_at "s"
    refine ⟨_, _, rfl, rfl, by rw [nl_eq]; rfl, by rw [sizeLine_eq]; omega, fun l hl0 => ?_⟩
    rw [hsp] at hcnt hls ⊢
    have S1 := same_upd (o := .lst ((l0 :: ls).map V.str)) hl0
    have hl1 : upd H l (.lst ((l0 :: ls).map V.str)) l = some (.lst ((l0 :: ls).map V.str)) := upd_same
    generalize upd H l (.lst ((l0 :: ls).map V.str)) = H1 at S1 hl1
    obtain ⟨_, b0⟩ := hls l0 List.mem_cons_self
    walk_at "s"
    refine ⟨l, _, 0, _, rfl, rfl, SqL.of hl1, atI_nat (j := 0) rfl, ?_⟩
    walk_at "s"
    refine ⟨l0, 2, rfl, b0, fun h2 l2 H2 S2 hl20 hl2 => ?_, fun _ H2 S2 => x _ bad H2 (S1.trans S2)⟩
    obtain ⟨w0, w1, hw⟩ := two_of (l := Txt.split l0 " ") (by omega)
    have hw1 : w1.cps.all (· < 128) = true ∧ w1.length ≤ 10000 := by
      have hv : w1 ∈ Txt.split l0 ⟨#[32]⟩ := by rw [← blank_eq, hw]; simp
      exact ⟨part_asc (hls l0 List.mem_cons_self).1 hv, Nat.le_trans (part_le hv) b0⟩
    rw [hw] at hl2
    walk_at "s"
    refine ⟨l2, _, 1, _, rfl, rfl, SqL.of hl2, atI_nat (j := 1) rfl, ?_⟩
    walk_at "s"
    refine ⟨w1, rfl, hw1.1, hw1.2, fun hnum H3 S3 => ?_, fun _ H3 S3 => x _ bad H3 ((S1.trans S2).trans S3)⟩
    have S03 := (S1.trans S2).trans S3
    have hl3 := S3 _ _ (S2 _ _ hl1)
    walk_at "s"
    intro xx dx nx ndx nex
    have Sm : Same H3 (upd (upd H3 dx (.own xx)) xx (.ins C dx [])) := fun b o e => by rw [upd_ne (ne_of_none e nx), upd_ne (ne_of_none e ndx)]; exact e
    refine ⟨xx, dx, wval w1, rfl, upd_same, fun hin d H4 hd B4 kp4 => ⟨rfl, ?_⟩, fun _ => x _ (by decide) _ (S03.trans Sm)⟩
    obtain ⟨n, hn⟩ := Int.eq_ofNat_of_zero_le (wval_nonneg w1)
    rw [hn] at hin B4
    have S4 : Same H3 H4 := fun b o e => kp4 b o (Sm _ _ e) (ne_of_none e nx)
    have hd0 : H d = none := S03.free (Sm.free hd)
    have hl4 := S4 _ _ hl3
    have S04 := S03.trans S4
    walk_at "s"
    refine ⟨l, _, rfl, SqL.of hl4, fun l3 hl30 => ?_⟩
    rw [cut_rest]
    have S5 := same_upd (o := .lst (((l0 :: ls).map V.str).drop 1)) hl30
    have hl35 : upd H4 l3 (.lst (((l0 :: ls).map V.str).drop 1)) l3 = some (.lst (ls.map V.str)) := upd_same
    generalize upd H4 l3 (.lst (((l0 :: ls).map V.str).drop 1)) = H5 at S5 hl35
    have hl3d : l3 ≠ d := (ne_of_none B4.dc hl30).symm
    refine ⟨l3, rfl, ⟨_, SqL.of hl35⟩, for_list (xs := ls.map V.str) (fun i σ H' => ∃ o cs, σ = [some (.str t), some (.ref l), some (.ref xx), o] ∧ Same H H' ∧ H' l3 = some (.lst (ls.map V.str)) ∧ BookAt C H' xx d n cs ∧ HsOk n cs ∧ (∀ e ∈ cs, e.2 ≤ 1000000) ∧ cs.length ≤ i)
      ⟨none, [], rfl, S04.trans S5, hl35, B4.same S5, ⟨.nil, (fun k hk => by cases hk), Nat.zero_le _, fun e he => by cases he⟩, (fun e he => by cases he), Nat.le_refl _⟩ (fun i σ H' _ hh9 => by obtain ⟨_, _, _, _, h, _⟩ := hh9; exact SqL.of h) ?_ ?_⟩
    · rintro i y σ H6 hy ⟨o, cs, rfl, sm, hl36, B6, ho, hcc, hcl⟩
      rw [List.getElem?_map] at hy
      cases he : ls[i]? with
      | none => rw [he] at hy; cases hy
      | some v =>
        rw [he] at hy
        obtain rfl : V.str v = y := Option.some.inj hy
        have hvm := hls v (List.mem_cons_of_mem _ (List.mem_of_getElem? he))
        have hil := (List.getElem?_eq_some_iff.mp he).1
        rw [List.length_cons] at hcnt
        walk_at "s"
        refine ⟨xx, d, n, cs, v, rfl, B6, by omega, hvm.1, hvm.2, fun y hy' H7 S7 => x y hy' H7 (sm.trans S7), fun one other c H7 ok2 c0 c1 B7 kb => ?_⟩
        walk_at "s"
        refine ⟨_, _, rfl, fun b o e => kb b o (sm _ _ e) (ne_of_none e hd0), kb _ _ hl36 hl3d, B7, ho.put ok2 c0 (by omega), cost_put hcc c1, ?_⟩
        · exact Nat.le_trans (len_put _ _ _) (by omega)
    · rintro σ H6 ⟨o, cs, rfl, sm, hl36, B6, ho, hcc, hcl⟩
      rw [List.length_map] at hcl
      rw [List.length_cons] at hcnt
      walk_at "s"
      exact q n cs xx d H6 (by omega) (by omega) ho hcc (by omega) B6 sm
theorem x_readN (F : FunAt K mg "read" "read" s_read) (T : Txt K mg C) (EX : Exc K mg hasX xa) (X_book_of : DefX P w K mg base 4 "book_of" ["text"] (sp_bookofA xa C)) (D_shown : Def P w K mg base 2 "shown" ["book"] (sp_shown C)) : DefX P w K mg base 5 "read" ["text"] (sp_readN xa) := by
  refine F.defX sc_read bi_read (fun vs H Q E h => ?_) (fun f cdv A outer s H vs Q E hr h => ?_)
  · obtain ⟨t, rfl, _⟩ := h
    rfl
  · obtain ⟨t, rfl, pl, hbad, q⟩ := h
    have hu64 := hr.units
    refine ⟨_, (pss_cons (ps_tryFrom (E := fun σ c d H' => ∃ x, σ = [some (.str t), none, none] ∧ c = .ref (xa x) ∧ x ∈ readX ∧ d = none ∧ Same H H') (EX.nm .BadText (by decide)).xc (EX.nm .BadText (by decide)).gl (EX.nm .NoBook (by decide)).gl (EX.nm .NoTeller (by decide)).gl (EX.nm .Alone (by decide)).gl (EX.nm .First (by decide)).gl rfl rfl rfl heldX (fun F pn hx =>
      (pss_one (ps_set (i := 1) sc_read.nd rfl (Or.inl rfl) (pe_callX X_book_of (hr.mono (by decide)) hx (pa_cons (pv 0) pa_nil))))) (fun e =>
      (pa_cons pe_str pa_nil)) sc_read.nd (i := 2) rfl rfl)
      (pss_cons (ps_if (pt_cmpR op_ne (pe_callD D_shown (hr.mono (by decide)) (pa_cons (pv 1) pa_nil)) (pv 0) (nomark _))
      (pss_one (ps_raise raiseX (EX.nm .BadText (by decide)).xc (EX.nm .BadText (by decide)).gl rfl (pa_cons pe_str pa_nil)))
      pss_nil)
      (pss_one (ps_ret (pv 1))))), ?_⟩
    try clear hu
    try clear hu0
    try clear hu64
    try dsimp only [cxOf, cxComp, Cx.nox]
    walk_at "s"
    refine ⟨?_, ?_⟩
    · walk_at "s"
      refine ⟨t, rfl, pl, fun y hy H' S => ⟨y, rfl, rfl, hy, rfl, S⟩, fun n cs p d H1 n1 n12 ho hcc h60 B1 S1 => ?_⟩
      have hin : ∀ e ∈ cs, RowIn e := fun e he => by
        obtain ⟨h1, h2, h3, h4, _, _⟩ := ho.ok e.1 (List.mem_map_of_mem he)
        exact ⟨⟨h1, by omega⟩, ⟨h3, by omega⟩, ho.nn e he, hcc e he⟩
      walk_at "s"
      refine ⟨p, d, n, cs, rfl, B1, ⟨ho, .inl (by omega)⟩, n12, hin, fun hs H2 S2 so => ?_⟩
      have R : RowsOk n hs := by
        have hso := ho.perm so.pm
        refine ⟨so.rise, hso.ok, fun e he => ⟨hso.nn e he, hcc e (so.pm.mem_iff.mp he)⟩, hso.len⟩
      have hne : ¬ textS n hs = t := fun z => by
        rw [← z, good_text n1 n12 R] at hbad
        cases hbad
      walk_at "s"
      exact ⟨by simp [sizeLine_eq], q _ _ (S1.trans S2)⟩
    · rintro σ' c dd H' hl' ⟨y, rfl, rfl, hy, rfl, sm⟩
      have hym : y ∈ hasX := by revert hy; cases y <;> decide
      refine ⟨_, rfl, (EX.nm y hym).xc, ?_⟩
      have e1 := EX.exm (x := y) (y := .NoBook) hym (by decide)
      have e2 := EX.exm (x := y) (y := .NoTeller) hym (by decide)
      have e3 := EX.exm (x := y) (y := .Alone) hym (by decide)
      have e4 := EX.exm (x := y) (y := .First) hym (by decide)
      have ea : PySem.W.exmAny K (.ref (xa y)) [.ref (xa .NoBook), .ref (xa .NoTeller), .ref (xa .Alone), .ref (xa .First)] = some (isa y .NoBook || (isa y .NoTeller || (isa y .Alone || (isa y .First || false)))) := by
        unfold PySem.W.exmAny PySem.W.exmAny PySem.W.exmAny PySem.W.exmAny PySem.W.exmAny
        rw [e1, e2, e3, e4]
      by_cases hb : y = .BadText
      · subst hb
        exact .inr ⟨ea, q _ _ sm⟩
      · refine .inl ⟨rfl, ea.trans ?_, fun a ha => ?_⟩
        · revert hy hb
          cases y <;> decide
        · walk_at "s"
          exact ⟨by simp [sizeLine_eq], q _ _ sm⟩
end
open PySem.NumText
theorem head_no {ws : List Str} (h : ¬ ws.length = 2) : headB ws = none := by
  unfold headB
  split
  · exact absurd rfl h
  · rfl
theorem words_no {many : Int} {last : Pr} {ws : List Str} (h : ¬ ws.length = 5) : wordsB many last ws = none := by
  unfold wordsB
  split
  · exact absurd rfl h
  · rfl
theorem lines_snoc {many : Int} : ∀ {ls : List Str} {i : Nat} {a q : Pr} {v : Str}, linesB many a (ls.take i) = some q → ls[i]? = some v → linesB many a (ls.take (i + 1)) = lineB many q v
  | l :: r, 0, a, q, v, h, hv => by
    obtain rfl : a = q := Option.some.inj h
    obtain rfl : l = v := Option.some.inj hv
    show (lineB many a l).bind (fun p => linesB many p (r.take 0)) = _
    cases lineB many a l <;> rfl
  | l :: r, i + 1, a, q, v, h, hv => by
    rw [List.take_succ_cons] at h ⊢
    have h' : (lineB many a l).bind (fun p => linesB many p (r.take i)) = some q := h
    obtain ⟨p, hp, hr⟩ := Option.bind_eq_some_iff.mp h'
    show (lineB many a l).bind (fun p => linesB many p (r.take (i + 1))) = _
    rw [hp, Option.bind_some]
    exact lines_snoc hr hv
theorem lines_fail {many : Int} : ∀ {ls : List Str} {i : Nat} {a q : Pr} {v : Str}, linesB many a (ls.take i) = some q → ls[i]? = some v → lineB many q v = none → linesB many a ls = none
  | l :: r, 0, a, q, v, h, hv, hn => by
    obtain rfl : a = q := Option.some.inj h
    obtain rfl : l = v := Option.some.inj hv
    show (lineB many a l).bind _ = none
    rw [hn]; rfl
  | l :: r, i + 1, a, q, v, h, hv, hn => by
    rw [List.take_succ_cons] at h
    have h' : (lineB many a l).bind (fun p => linesB many p (r.take i)) = some q := h
    obtain ⟨p, hp, hr⟩ := Option.bind_eq_some_iff.mp h'
    show (lineB many a l).bind (fun p => linesB many p r) = _
    rw [hp, Option.bind_some]
    exact lines_fail hr hv hn
theorem good_no {l0 : Str} {ls : List Str} {many : Int} (hh : headB (Txt.split l0 " ") = some many) (h : linesB many (-1, -1) ls = none) : goodL (l0 :: ls) = false := by
  unfold goodL
  rw [List.headD_cons, List.tail_cons, hh]
  show ((linesB many (-1, -1) ls).isSome && _) = false
  rw [h]; rfl
theorem good_yes {l0 : Str} {ls : List Str} {many : Int} {q : Pr} (hh : headB (Txt.split l0 " ") = some many) (h : linesB many (-1, -1) ls = some q) : goodL (l0 :: ls) = decide (0 < many) := by
  unfold goodL
  rw [List.headD_cons, List.tail_cons, hh]
  show ((linesB many (-1, -1) ls).isSome && _) = _
  rw [h]; rfl
theorem good_head {l0 : Str} {ls : List Str} (hh : headB (Txt.split l0 " ") = none) : goodL (l0 :: ls) = false := by
  unfold goodL
  rw [List.headD_cons, hh]
theorem len_zero {w : Str} (h : w.length = 0) : w = "" := str_list (by
  have := len_list w
  rw [show w.cps.toList = [] from List.eq_nil_of_length_eq_zero (by omega)]
  rfl)
theorem nought_eq : ("0" : Str) = ⟨#[48]⟩ := by decide +kernel
inductive sp_lnum (vs : List V) (H : Hp) (Q : VK) (E : XK) : Prop
  | mk (wd : Str) (most : Int) (h09 : vs = [.str wd, .int most]) (h19 : wd.cps.all (· < 128) = true) (h29 : wd.length ≤ 10000) (h39 : Q (.int (lnum wd most)) H) : sp_lnum vs H Q E
inductive sp_goodB (vs : List V) (H : Hp) (Q : VK) (E : XK) : Prop
  | mk (t : Str) (h09 : vs = [.str t]) (h19 : Plain t) (h29 : ∀ H', Same H H' → Q (.bl (goodB t)) H') : sp_goodB vs H Q E
inductive sp_refusedT (vs : List V) (H : Hp) (Q : VK) (E : XK) : Prop
  | mk (t : Str) (h09 : vs = [.str t]) (h19 : Plain t) (h29 : goodB t = false) (h39 : ∀ H', Same H H' → Q (.bl true) H') : sp_refusedT vs H Q E
section
variable {P : Program} {w : World} {K : PySem.W.Frag} {mg : Str → Option Value} {base : Heap} {C C1 : Addr} {xa : Ex → Addr}
theorem sc_law_number : FnScope ["word", "most", "sign"] ["word", "most"] (defScope s_law_number) := ⟨rfl, rfl, rfl, by decide +kernel, rfl, by decide +kernel, by decide +kernel⟩
theorem bi_law_number : BindOk "_law_number" "_law_number" s_law_number ["word", "most"] := fun _ _ _ _ _ _ us hl => by
  obtain ⟨_, _, rfl⟩ := len2D hl
  rfl
theorem d_lnum (F : FunAt K mg "_law_number" "_law_number" s_law_number) (T : Txt K mg C) : Def P w K mg base 1 "_law_number" ["word", "most"] sp_lnum := by
  refine F.def sc_law_number bi_law_number (fun vs H Q E h => ?_) (fun f cdv A outer s H vs Q E hr h => ?_)
  · obtain ⟨wd, most, rfl, _⟩ := h
    rfl
  · obtain ⟨wd, most, rfl, asc, hlen, q⟩ := h
    refine ⟨_, (pss_cons (ps_if (PW.pt (pw_or (pt_cmpR op_eq (pv 0) pe_str (nomark _)) (pw_or (pt_cmpR op_gt (pe_callB call_len_str (by rfl) T.n_len L2.boot_len (pa_cons (pv 0) pa_nil)) pe_int (nomark _)) (pw_or1 (PW.pt (pw_and (pt_cmpR op_gt (pe_callB call_len_str (by rfl) T.n_len L2.boot_len (pa_cons (pv 0) pa_nil)) pe_int (nomark _)) (pw_and1 (pt_cmpR op_eq (pe_ix ix_str (pv 0) pe_int (fun _ _ => rfl)) pe_str (nomark _)))))))))
      (pss_one (ps_ret (pe_un un_neg pe_int)))
      pss_nil)
      (pss_cons (ps_for PassesOwn.never rfl (pi_str (pv 0)) (pg_name (i := 2) sc_law_number.nd rfl (Or.inl rfl))
      (pss_one (ps_if (pt_cmpR op_notin_str (pv 2) pe_str rfl)
      (pss_one (ps_ret (pe_un un_neg pe_int)))
      pss_nil)))
      (pss_cons (ps_if (pt_cmpR op_gt (pe_callTy call_intD (by rfl) T.n_int L2.boot_int (pa_cons (pv 0) pa_nil)) (pv 1) (nomark _))
      (pss_one (ps_ret (pe_un un_neg pe_int)))
      pss_nil)
      (pss_one (ps_ret (pe_callTy call_intD (by rfl) T.n_int L2.boot_int (pa_cons (pv 0) pa_nil))))))), ?_⟩
    try clear hu
    try clear hu0
    try clear hu64
    try dsimp only [cxOf, cxComp, Cx.nox]
    have odd : oddB wd = true → lnum wd most = -1 := fun h => by unfold lnum; rw [if_pos h]
    have hll := len_list wd
    walk_at "s"
    by_cases h0 : wd.length = 0
    · have e := len_zero h0
      refine w_pos e ?_
      walk_at "s"
      rw [odd (by unfold oddB; rw [decide_eq_true h0]; rfl)] at q
      exact q
    refine w_neg (fun z => h0 (by rw [z]; rfl)) ?_
    walk_at "s"
    refine ⟨_, rfl, by rw [sizeLine_eq]; omega, ?_⟩
    walk_at "s"
    by_cases h7 : (7 : Int) < (wd.length : Int)
    · refine w_pos h7 ?_
      walk_at "s"
      rw [odd (by unfold oddB; rw [decide_eq_true (show 7 < wd.length by omega), Bool.or_true, Bool.true_or])] at q
      exact q
    refine w_neg h7 ?_
    walk_at "s"
    refine ⟨_, rfl, by rw [sizeLine_eq]; omega, ?_⟩
    walk_at "s"
    by_cases h1 : (1 : Int) < (wd.length : Int)
    · refine w_pos h1 ?_
      walk_at "s"
      obtain ⟨c, hc⟩ : ∃ c, wd.cps[0]? = some c := ⟨_, Array.getElem?_eq_getElem (show 0 < wd.cps.size by rw [← Array.length_toList]; omega)⟩
      refine ⟨wd, 0, c, rfl, rfl, by rw [sizeLine_eq]; omega, atI_nat (j := 0) (by rw [Array.getElem?_toList]; exact hc), ?_⟩
      walk_at "s"
      by_cases h48 : c = 48
      · refine w_pos (by rw [h48, nought_eq]) ?_
        walk_at "s"
        rw [odd (by unfold oddB; rw [hc, h48, decide_eq_true (show 1 < wd.length by omega)]; simp)] at q
        exact q
      · have hod : oddB wd = false := by
          unfold oddB
          rw [hc, decide_eq_false h0, decide_eq_false (show ¬ 7 < wd.length by omega), decide_eq_false (show ¬ (some c = some 48) from fun z => h48 (Option.some.inj z)), Bool.and_false]
          rfl
        refine w_neg (fun z => h48 (by rw [nought_eq] at z; have := congrArg (fun y : Str => y.cps.toList) z; simpa using this)) ?_
        walk_at "s"
        refine w_istr ?_
        walk_at "s"
        refine ⟨wd, rfl, asc, for_str (fun i σ H' => ∃ o, σ = [some (.str wd), some (.int most), o] ∧ H' = H ∧ ((wd.cps.toList.take i).all fun c => decide (48 ≤ c) && decide (c ≤ 57)) = true) ⟨none, rfl, rfl, rfl⟩ ?_ ?_⟩
        · rintro i c σ H1 hc ⟨o, rfl, rfl, ha⟩
          have hc128 := asc_mem.mp asc c (Array.mem_toList_iff.mpr (Array.mem_of_getElem? hc))
          walk_at "s"
          refine ⟨_, _, rfl, rfl, ?_⟩
          have fi := fig_in c hc128
          cases hd : (decide (48 ≤ c) && decide (c ≤ 57)) with
          | true =>
            rw [hd] at fi
            rw [fi]
            walk_at "s"
            refine ⟨_, rfl, rfl, ?_⟩
            rw [List.take_add_one, Array.getElem?_toList, hc, List.all_append, ha]
            simp only [Option.toList_some, List.all_cons, List.all_nil, hd, Bool.and_true]
          | false =>
            rw [hd] at fi
            rw [fi]
            walk_at "s"
            have hf : figB wd = false := by
              unfold figB
              rw [List.all_eq_false]
              exact ⟨c, Array.mem_toList_iff.mpr (Array.mem_of_getElem? hc), by rw [hd]; exact Bool.false_ne_true⟩
            have e : lnum wd most = -1 := by unfold lnum; rw [if_neg (by rw [hod]; exact Bool.false_ne_true), if_neg (by rw [hf]; exact Bool.false_ne_true)]
            rw [e] at q
            exact q
        · rintro σ H1 ⟨o, rfl, rfl, ha⟩
          rw [show wd.cps.size = wd.cps.toList.length from Array.length_toList.symm, List.take_length] at ha
          have hf : figB wd = true := ha
          have hne : wd.cps.toList ≠ [] := fun z => by rw [z] at hll; exact h0 hll.symm
          have e : lnum wd most = if most < wval wd then -1 else wval wd := by unfold lnum; rw [if_neg (by rw [hod]; exact Bool.false_ne_true), if_pos hf]
          rw [e] at q
          walk_at "s"
          refine ⟨wd, rfl, figs.mp hf, hne, by omega, ?_⟩
          walk_at "s"
          by_cases hm : most < wval wd
          · rw [if_pos hm] at q
            refine w_pos hm ?_
            walk_at "s"
            exact q
          · rw [if_neg hm] at q
            refine w_neg hm ?_
            walk_at "s"
            exact ⟨wd, rfl, figs.mp hf, hne, by omega, q⟩
    · have hod : oddB wd = false := by
        unfold oddB
        rw [decide_eq_false h0, decide_eq_false (show ¬ 7 < wd.length by omega), decide_eq_false (show ¬ 1 < wd.length by omega)]
        rfl
      refine w_neg h1 ?_
      walk_at "s"
      refine w_istr ?_
      walk_at "s"
      refine ⟨wd, rfl, asc, for_str (fun i σ H' => ∃ o, σ = [some (.str wd), some (.int most), o] ∧ H' = H ∧ ((wd.cps.toList.take i).all fun c => decide (48 ≤ c) && decide (c ≤ 57)) = true) ⟨none, rfl, rfl, rfl⟩ ?_ ?_⟩
      · rintro i c σ H1 hc ⟨o, rfl, rfl, ha⟩
        have hc128 := asc_mem.mp asc c (Array.mem_toList_iff.mpr (Array.mem_of_getElem? hc))
        walk_at "s"
        refine ⟨_, _, rfl, rfl, ?_⟩
        have fi := fig_in c hc128
        cases hd : (decide (48 ≤ c) && decide (c ≤ 57)) with
        | true =>
          rw [hd] at fi
          rw [fi]
          walk_at "s"
          refine ⟨_, rfl, rfl, ?_⟩
          rw [List.take_add_one, Array.getElem?_toList, hc, List.all_append, ha]
          simp only [Option.toList_some, List.all_cons, List.all_nil, hd, Bool.and_true]
        | false =>
          rw [hd] at fi
          rw [fi]
          walk_at "s"
          have hf : figB wd = false := by
            unfold figB
            rw [List.all_eq_false]
            exact ⟨c, Array.mem_toList_iff.mpr (Array.mem_of_getElem? hc), by rw [hd]; exact Bool.false_ne_true⟩
          have e : lnum wd most = -1 := by unfold lnum; rw [if_neg (by rw [hod]; exact Bool.false_ne_true), if_neg (by rw [hf]; exact Bool.false_ne_true)]
          rw [e] at q
          exact q
      · rintro σ H1 ⟨o, rfl, rfl, ha⟩
        rw [show wd.cps.size = wd.cps.toList.length from Array.length_toList.symm, List.take_length] at ha
        have hf : figB wd = true := ha
        have hne : wd.cps.toList ≠ [] := fun z => by rw [z] at hll; exact h0 hll.symm
        have e : lnum wd most = if most < wval wd then -1 else wval wd := by unfold lnum; rw [if_neg (by rw [hod]; exact Bool.false_ne_true), if_pos hf]
        rw [e] at q
        walk_at "s"
        refine ⟨wd, rfl, figs.mp hf, hne, by omega, ?_⟩
        walk_at "s"
        by_cases hm : most < wval wd
        · rw [if_pos hm] at q
          refine w_pos hm ?_
          walk_at "s"
          exact q
        · rw [if_neg hm] at q
          refine w_neg hm ?_
          walk_at "s"
          exact ⟨wd, rfl, figs.mp hf, hne, by omega, q⟩
end
open PySem.NumText
theorem in_pair (a b : Int) : inV (.int (-1)) [.int a, .int b] = (decide (a = -1) || decide (b = -1)) := by
  show ((a == -1) || ((b == -1) || false)) = _
  rw [Bool.or_false]
  by_cases h1 : a = -1 <;> by_cases h2 : b = -1 <;> simp [h1, h2]
section
variable {P : Program} {w : World} {K : PySem.W.Frag} {mg : Str → Option Value} {base : Heap} {C C1 : Addr} {xa : Ex → Addr}
theorem sc_law_good : FnScope ["text", "lines", "words", "many", "last", "line", "pair"] ["text"] (defScope s_law_good) := ⟨rfl, rfl, rfl, by decide +kernel, rfl, by decide +kernel, by decide +kernel⟩
theorem bi_law_good : BindOk "_law_good" "_law_good" s_law_good ["text"] := fun _ _ _ _ _ _ us hl => by
  obtain ⟨_, rfl⟩ := len1D hl
  rfl
theorem d_goodB (F : FunAt K mg "_law_good" "_law_good" s_law_good) (T : Txt K mg C) (D_law_number : Def P w K mg base 1 "_law_number" ["word", "most"] sp_lnum) : Def P w K mg base 2 "_law_good" ["text"] sp_goodB := by
  refine F.def sc_law_good bi_law_good (fun vs H Q E h => ?_) (fun f cdv A outer s H vs Q E hr h => ?_)
  · obtain ⟨t, rfl, _⟩ := h
    rfl
  · obtain ⟨t, rfl, pl, q⟩ := h
    have hu0 := hr.units0
    have hlen := pl.len
    have hls : ∀ v ∈ Txt.split t "\n", v.cps.all (· < 128) = true ∧ v.length ≤ 10000 := fun v hv => by
      rw [nl_eq] at hv
      exact ⟨part_asc pl.asc hv, Nat.le_trans (part_le hv) hlen⟩
    have hws : ∀ line : Str, line.cps.all (· < 128) = true ∧ line.length ≤ 10000 → ∀ v ∈ Txt.split line " ", v.cps.all (· < 128) = true ∧ v.length ≤ 10000 := fun line h v hv => by
      rw [blank_eq] at hv
      exact ⟨part_asc h.1 hv, Nat.le_trans (part_le hv) h.2⟩
    obtain ⟨l0, ls, hsp⟩ : ∃ l0 ls, Txt.split t "\n" = l0 :: ls := List.exists_cons_of_ne_nil (split_ne _ _)
    have hg : goodB t = goodL (l0 :: ls) := by unfold goodB; rw [hsp]
    rw [hsp] at hls
    rw [hg] at q
    refine ⟨_, (pss_cons (ps_set (i := 1) sc_law_good.nd rfl (Or.inl rfl) (pe_bm PySem.F.plainAttrs_str PySem.F.slot_str_split PySem.F.type_str_split mt_split (pv 0) (pa_cons pe_str pa_nil)))
      (pss_cons (ps_set (i := 2) sc_law_good.nd rfl (Or.inl rfl) (pe_bm PySem.F.plainAttrs_str PySem.F.slot_str_split PySem.F.type_str_split mt_split (pe_ix ix_list (pv 1) pe_int (fun _ _ => rfl)) (pa_cons pe_str pa_nil)))
      (pss_cons (ps_if (PW.pt (pw_or (pt_cmpR op_ne (pe_callB call_len_seq (by rfl) T.n_len L2.boot_len (pa_cons (pv 2) pa_nil)) pe_int (nomark _)) (pw_or1 (pt_cmpR op_ne (pe_ix ix_list (pv 2) pe_int (fun _ _ => rfl)) pe_str (nomark _)))))
      (pss_one (ps_ret pe_bl))
      pss_nil)
      (pss_cons (ps_set (i := 3) sc_law_good.nd rfl (Or.inl rfl) (pe_callD D_law_number (hr.mono (by decide)) (pa_cons (pe_ix ix_list (pv 2) pe_int (fun _ _ => rfl)) (pa_cons pe_int pa_nil))))
      (pss_cons (ps_set (i := 4) sc_law_good.nd rfl (Or.inl rfl) (pe_tup (pa_cons (pe_un un_neg pe_int) (pa_cons (pe_un un_neg pe_int) pa_nil))))
      (pss_cons (ps_for PassesOwn.never rfl (pi_list (pe_slice sl_list (pv 1) (po_some pe_int) po_none)) (pg_name (i := 5) sc_law_good.nd rfl (Or.inl rfl))
      (pss_cons (ps_set (i := 2) sc_law_good.nd rfl (Or.inl rfl) (pe_bm PySem.F.plainAttrs_str PySem.F.slot_str_split PySem.F.type_str_split mt_split (pv 5) (pa_cons pe_str pa_nil)))
      (pss_cons (ps_if (PW.pt (pw_or (pt_cmpR op_ne (pe_callB call_len_seq (by rfl) T.n_len L2.boot_len (pa_cons (pv 2) pa_nil)) pe_int (nomark _)) (pw_or (pt_cmpR op_ne (pe_ix ix_list (pv 2) pe_int (fun _ _ => rfl)) pe_str (nomark _)) (pw_or1 (pt_cmpR op_ne (pe_ix ix_list (pv 2) pe_int (fun _ _ => rfl)) pe_str (nomark _))))))
      (pss_one (ps_ret pe_bl))
      pss_nil)
      (pss_cons (ps_set (i := 6) sc_law_good.nd rfl (Or.inl rfl) (pe_tup (pa_cons (pe_callD D_law_number (hr.mono (by decide)) (pa_cons (pe_ix ix_list (pv 2) pe_int (fun _ _ => rfl)) (pa_cons (pe_op op_sub (pv 3) pe_int) pa_nil))) (pa_cons (pe_callD D_law_number (hr.mono (by decide)) (pa_cons (pe_ix ix_list (pv 2) pe_int (fun _ _ => rfl)) (pa_cons (pe_op op_sub (pv 3) pe_int) pa_nil))) pa_nil))))
      (pss_cons (ps_if (PW.pt (pw_or (pt_cmpR op_in_seq (pe_un un_neg pe_int) (pv 6) rfl) (pw_or (pt_cmpR op_eq (pe_ix ix_tup (pv 6) pe_int (fun _ _ => rfl)) (pe_ix ix_tup (pv 6) pe_int (fun _ _ => rfl)) (nomark _)) (pw_or (pt_cmpR op_eq (pe_ix ix_tup (pv 6) pe_int (fun _ _ => rfl)) pe_int (nomark _)) (pw_or1 (pt_cmpR (op_leT hu0) (pv 6) (pv 4) (nomark _)))))))
      (pss_one (ps_ret pe_bl))
      pss_nil)
      (pss_cons (ps_if (pt_cmpR op_lt (pe_callD D_law_number (hr.mono (by decide)) (pa_cons (pe_ix ix_list (pv 2) pe_int (fun _ _ => rfl)) (pa_cons pe_int pa_nil))) pe_int (nomark _))
      (pss_one (ps_ret pe_bl))
      pss_nil)
      (pss_one (ps_set (i := 4) sc_law_good.nd rfl (Or.inl rfl) (pv 6)))))))))
      (pss_one (ps_ret (pe_cmpR op_gt (pv 3) pe_int (nomark _)))))))))), ?_⟩
    try clear hu
    try clear hu0
    try clear hu64
    try dsimp only [cxOf, cxComp, Cx.nox]
    walk_at "s"
    refine ⟨rfl, ?_⟩
    walk_at "s"
    refine ⟨_, _, rfl, rfl, by rw [nl_eq]; rfl, by rw [sizeLine_eq]; omega, fun l hl0 => ?_⟩
    rw [hsp]
    have S1 := same_upd (o := .lst ((l0 :: ls).map V.str)) hl0
    have hl1 : upd H l (.lst ((l0 :: ls).map V.str)) l = some (.lst ((l0 :: ls).map V.str)) := upd_same
    generalize upd H l (.lst ((l0 :: ls).map V.str)) = H1 at S1 hl1
    have hb0 := hls l0 List.mem_cons_self
    have hv0 := hws l0 hb0
    walk_at "s"
    refine ⟨l, _, 0, _, rfl, rfl, SqL.of hl1, atI_nat (j := 0) rfl, ?_⟩
    refine ⟨rfl, ?_⟩
    walk_at "s"
    refine ⟨_, _, rfl, rfl, by rw [blank_eq]; rfl, by rw [sizeLine_eq]; omega, fun l2 hl20 => ?_⟩
    have S2 := S1.trans (same_upd (o := .lst ((Txt.split l0 " ").map V.str)) hl20)
    have hl2 : upd H1 l2 (.lst ((Txt.split l0 " ").map V.str)) l2 = some (.lst ((Txt.split l0 " ").map V.str)) := upd_same
    have hl12 := (same_upd (o := .lst ((Txt.split l0 " ").map V.str)) hl20) _ _ hl1
    generalize upd H1 l2 (.lst ((Txt.split l0 " ").map V.str)) = H2 at S2 hl2 hl12
    walk_at "s"
    refine ⟨l2, _, rfl, .inl (SqL.of hl2), ?_⟩
    rw [List.length_map]
    walk_at "s"
    by_cases h2 : ((Txt.split l0 " ").length : Int) = 2
    rotate_left
    · refine w_nneg h2 ?_
      walk_at "s"
      rw [good_head (head_no (fun z => h2 (by omega)))] at q
      exact q _ S2
    refine w_npos h2 ?_
    obtain ⟨w0, w1, hw⟩ := two_of (l := Txt.split l0 " ") (by omega)
    rw [hw] at hl2 hv0
    walk_at "s"
    refine ⟨l2, _, 0, _, rfl, rfl, SqL.of hl2, atI_nat (j := 0) rfl, ?_⟩
    walk_at "s"
    by_cases ht : w0 = "tellers"
    rotate_left
    · refine w_nneg ht ?_
      walk_at "s"
      rw [good_head (by rw [hw]; show (if w0 = "tellers" then _ else _) = _; rw [if_neg ht])] at q
      exact q _ S2
    refine w_npos ht ?_
    have hh : headB (Txt.split l0 " ") = some (lnum w1 12) := by rw [hw]; show (if w0 = "tellers" then _ else _) = _; rw [if_pos ht]
    obtain ⟨a1, b1⟩ := hv0 w1 (by simp)
    walk_at "s"
    refine ⟨l2, _, 1, _, rfl, rfl, SqL.of hl2, atI_nat (j := 1) rfl, ?_⟩
    walk_at "s"
    refine ⟨w1, 12, rfl, a1, b1, ?_⟩
    generalize lnum w1 12 = many at hh
    walk_at "s"
    refine ⟨by simp [sizeLine_eq], fun lt hlt0 => ?_⟩
    have S3 := S2.trans (same_upd (o := .tup [.int (-1), .int (-1)]) hlt0)
    have hlt : upd H2 lt (.tup [.int (-1), .int (-1)]) lt = some (.tup [.int (-1), .int (-1)]) := upd_same
    have hl13 := (same_upd (o := .tup [.int (-1), .int (-1)]) hlt0) _ _ hl12
    generalize upd H2 lt (.tup [.int (-1), .int (-1)]) = H3 at S3 hlt hl13
    walk_at "s"
    refine ⟨l, _, rfl, SqL.of hl13, fun l3 hl30 => ?_⟩
    rw [cut_rest]
    have S4 := S3.trans (same_upd (o := .lst (((l0 :: ls).map V.str).drop 1)) hl30)
    have hl34 : upd H3 l3 (.lst (((l0 :: ls).map V.str).drop 1)) l3 = some (.lst (ls.map V.str)) := upd_same
    have hlt4 := (same_upd (o := .lst (((l0 :: ls).map V.str).drop 1)) hl30) _ _ hlt
    generalize upd H3 l3 (.lst (((l0 :: ls).map V.str).drop 1)) = H4 at S4 hl34 hlt4
    refine ⟨l3, rfl, ⟨_, SqL.of hl34⟩, for_list (xs := ls.map V.str) (fun i σ H' => ∃ (o2 o5 o6 : Option V) (lp : Addr) (last : Pr), σ = [some (.str t), some (.ref l), o2, some (.int many), some (.ref lp), o5, o6] ∧ Same H4 H' ∧ H' lp = some (.tup [.int last.1, .int last.2]) ∧ linesB many (-1, -1) (ls.take i) = some last)
      ⟨some (.ref l2), none, none, lt, (-1, -1), rfl, Same.refl _, hlt4, rfl⟩ (fun i σ H' _ hh9 => by obtain ⟨_, _, _, _, _, _, sm, _⟩ := hh9; exact SqL.of (sm _ _ hl34)) ?_ ?_⟩
    · rintro i y σ H5 hy ⟨o2, o5, o6, lp, last, rfl, sm, hlp, hlines⟩
      rw [List.getElem?_map] at hy
      cases he : ls[i]? with
      | none => rw [he] at hy; cases hy
      | some v =>
        rw [he] at hy
        obtain rfl : V.str v = y := Option.some.inj hy
        have hvb := hls v (List.mem_cons_of_mem _ (List.mem_of_getElem? he))
        have hvw := hws v hvb
        have S5 := S4.trans sm
        have no : wordsB many last (Txt.split v " ") = none → ∀ H', Same H H' → Q (.bl false) H' := fun h H' S => by
          rw [good_no hh (lines_fail hlines he h)] at q
          exact q H' S
        walk_at "s"
        refine ⟨rfl, ?_⟩
        walk_at "s"
        refine ⟨_, _, rfl, rfl, by rw [blank_eq]; rfl, by rw [sizeLine_eq]; omega, fun lw hlw0 => ?_⟩
        have S6 := same_upd (o := .lst ((Txt.split v " ").map V.str)) hlw0
        have hlw : upd H5 lw (.lst ((Txt.split v " ").map V.str)) lw = some (.lst ((Txt.split v " ").map V.str)) := upd_same
        have hlp6 := S6 _ _ hlp
        have sm6 := sm.trans S6
        have S06 := S5.trans S6
        generalize upd H5 lw (.lst ((Txt.split v " ").map V.str)) = H6 at S6 hlw hlp6 sm6 S06
        walk_at "s"
        refine ⟨lw, _, rfl, .inl (SqL.of hlw), ?_⟩
        rw [List.length_map]
        walk_at "s"
        by_cases h5 : ((Txt.split v " ").length : Int) = 5
        rotate_left
        · refine w_nneg h5 ?_
          walk_at "s"
          exact no (words_no fun z => h5 (by omega)) _ S06
        refine w_npos h5 ?_
        obtain ⟨v0, v1, v2, v3, v4, hw5⟩ := len5D (l := Txt.split v " ") (by omega)
        rw [hw5] at hlw hvw no
        have hno : ¬ ((v1 = "to" ∧ v3 = "costs") ∧ pairB many last (lnum v0 (many - 1)) (lnum v2 (many - 1)) = true ∧ ¬ lnum v4 1000000 < 0) → ∀ H', Same H H' → Q (.bl false) H' := fun h => no (by show (if _ then _ else _) = _; rw [if_neg h])
        walk_at "s"
        refine ⟨lw, _, 1, _, rfl, rfl, SqL.of hlw, atI_nat (j := 1) rfl, ?_⟩
        walk_at "s"
        by_cases h1 : v1 = "to"
        rotate_left
        · refine w_nneg h1 ?_
          walk_at "s"
          exact hno (fun z => h1 z.1.1) _ S06
        refine w_npos h1 ?_
        walk_at "s"
        refine ⟨lw, _, 3, _, rfl, rfl, SqL.of hlw, atI_nat (j := 3) rfl, ?_⟩
        walk_at "s"
        by_cases h3 : v3 = "costs"
        rotate_left
        · refine w_nneg h3 ?_
          walk_at "s"
          exact hno (fun z => h3 z.1.2) _ S06
        refine w_npos h3 ?_
        obtain ⟨a0, b0⟩ := hvw v0 (by simp)
        obtain ⟨a2, b2⟩ := hvw v2 (by simp)
        obtain ⟨a4, b4⟩ := hvw v4 (by simp)
        walk_at "s"
        refine ⟨lw, _, 0, _, rfl, rfl, SqL.of hlw, atI_nat (j := 0) rfl, ?_⟩
        walk_at "s"
        refine ⟨v0, many - 1, rfl, a0, b0, ?_⟩
        walk_at "s"
        refine ⟨lw, _, 2, _, rfl, rfl, SqL.of hlw, atI_nat (j := 2) rfl, ?_⟩
        walk_at "s"
        refine ⟨v2, many - 1, rfl, a2, b2, ?_⟩
        have hpb : pairB many last (lnum v0 (many - 1)) (lnum v2 (many - 1)) = (!(decide (lnum v0 (many - 1) = -1) || decide (lnum v2 (many - 1) = -1)) && !decide (lnum v0 (many - 1) = lnum v2 (many - 1)) && !decide (lnum v2 (many - 1) = 0) && !HT.tupLe [lnum v0 (many - 1), lnum v2 (many - 1)] [last.1, last.2]) := rfl
        have hyes : pairB many last (lnum v0 (many - 1)) (lnum v2 (many - 1)) = true → ¬ lnum v4 1000000 < 0 → lineB many last v = some (lnum v0 (many - 1), lnum v2 (many - 1)) := fun h h' => by
          unfold lineB
          rw [hw5]
          show (if _ then _ else _) = _
          rw [if_pos ⟨⟨h1, h3⟩, h, h'⟩]
        generalize lnum v0 (many - 1) = a at hno hpb hyes
        generalize lnum v2 (many - 1) = b at hno hpb hyes
        walk_at "s"
        refine ⟨by simp [sizeLine_eq], fun pp hpp0 => ?_⟩
        have S7 := same_upd (o := .tup [.int a, .int b]) hpp0
        have hpp : upd H6 pp (.tup [.int a, .int b]) pp = some (.tup [.int a, .int b]) := upd_same
        have hlw7 := S7 _ _ hlw
        have hlp7 := S7 _ _ hlp6
        have sm7 := sm6.trans S7
        have S07 := S06.trans S7
        generalize upd H6 pp (.tup [.int a, .int b]) = H7 at S7 hpp hlw7 hlp7 sm7 S07
        have nop : pairB many last a b = false → Q (.bl false) H7 := fun h => hno (fun z => by rw [h] at z; cases z.2.1) _ S07
        walk_at "s"
        refine ⟨pp, _, rfl, .inr (SqT.of hpp), rfl, rfl, ?_⟩
        rw [if_neg Bool.false_ne_true, in_pair]
        cases hin : (decide (a = -1) || decide (b = -1)) with
        | true =>
          walk_at "s"
          exact nop (by rw [hpb, hin]; rfl)
        | false =>
          walk_at "s"
          refine ⟨pp, _, 0, _, rfl, rfl, SqT.of hpp, atI_nat (j := 0) rfl, ?_⟩
          walk_at "s"
          refine ⟨pp, _, 1, _, rfl, rfl, SqT.of hpp, atI_nat (j := 1) rfl, ?_⟩
          walk_at "s"
          by_cases hab : a = b
          · refine w_pos hab ?_
            walk_at "s"
            exact nop (by rw [hpb, hin, decide_eq_true hab]; rfl)
          refine w_neg hab ?_
          walk_at "s"
          refine ⟨pp, _, 1, _, rfl, rfl, SqT.of hpp, atI_nat (j := 1) rfl, ?_⟩
          walk_at "s"
          by_cases hb0' : b = 0
          · refine w_pos hb0' ?_
            walk_at "s"
            exact nop (by rw [hpb, hin, decide_eq_false hab, decide_eq_true hb0']; rfl)
          refine w_neg hb0' ?_
          walk_at "s"
          refine ⟨pp, lp, [a, b], [last.1, last.2], rfl, rfl, SqT.of hpp, SqT.of hlp7, rfl, ?_⟩
          cases hle : HT.tupLe [a, b] [last.1, last.2] with
          | true =>
            walk_at "s"
            exact nop (by rw [hpb, hin, decide_eq_false hab, decide_eq_false hb0', hle]; rfl)
          | false =>
            have hp : pairB many last a b = true := by rw [hpb, hin, decide_eq_false hab, decide_eq_false hb0', hle]; rfl
            walk_at "s"
            refine ⟨lw, _, 4, _, rfl, rfl, SqL.of hlw7, atI_nat (j := 4) rfl, ?_⟩
            walk_at "s"
            refine ⟨v4, 1000000, rfl, a4, b4, ?_⟩
            walk_at "s"
            by_cases hc : lnum v4 1000000 < 0
            · refine w_pos hc ?_
              walk_at "s"
              exact hno (fun z => z.2.2 hc) _ S07
            refine w_neg hc ?_
            walk_at "s"
            exact ⟨_, _, _, pp, (a, b), rfl, sm7, hpp, by rw [lines_snoc hlines he, hyes hp hc]⟩
    · rintro σ H5 ⟨o2, o5, o6, lp, last, rfl, sm, hlp, hlines⟩
      rw [List.length_map, List.take_length] at hlines
      rw [good_yes hh hlines] at q
      walk_at "s"
      exact q _ (S4.trans sm)
theorem sc_law_refused : FnScope ["text", "bad", "e", "other"] ["text"] (defScope s_law_refused) := ⟨rfl, rfl, rfl, by decide +kernel, rfl, by decide +kernel, by decide +kernel⟩
theorem bi_law_refused : BindOk "_law_refused" "_law_refused" s_law_refused ["text"] := fun _ _ _ _ _ _ us hl => by
  obtain ⟨_, rfl⟩ := len1D hl
  rfl
theorem d_refusedT (F : FunAt K mg "_law_refused" "_law_refused" s_law_refused) (T : Txt K mg C) (EX : Exc K mg hasX xa) (X_read : DefX P w K mg base 5 "read" ["text"] (sp_readN xa)) : Def P w K mg base 6 "_law_refused" ["text"] sp_refusedT := by
  refine F.def sc_law_refused bi_law_refused (fun vs H Q E h => ?_) (fun f cdv A outer s H vs Q E hr h => ?_)
  · obtain ⟨t, rfl, _⟩ := h
    rfl
  · obtain ⟨t, rfl, pl, hbad, q⟩ := h
    refine ⟨_, (pss_cons (ps_set (i := 1) sc_law_refused.nd rfl (Or.inl rfl) pe_bl)
      (pss_cons (ps_try (E := fun σ c _ H' => σ = [some (.str t), some (.bl false), none, none] ∧ c = .ref (xa .BadText) ∧ Same H H') (EX.nm .BadText (by decide)).xc (EX.nm .BadText (by decide)).gl rfl rfl (fun F pn hx =>
      (pss_one (ps_expr (pe_callX X_read (hr.mono (by decide)) hx (pa_cons (pv 0) pa_nil))))) (fun e =>
      (pss_cons (ps_set (i := 3) sc_law_refused.nd rfl (Or.inl rfl) (pe_or (pe_callB (call_isiK K rfl) (by rfl) T.n_isinstance L2.boot_isinstance (pa_cons (pv 2) (pa_cons (pe_glob (v := V.ref (xa .NoBook)) rfl (EX.nm .NoBook (by decide)).gl rfl) pa_nil))) (pe_or (pe_callB (call_isiK K rfl) (by rfl) T.n_isinstance L2.boot_isinstance (pa_cons (pv 2) (pa_cons (pe_glob (v := V.ref (xa .NoTeller)) rfl (EX.nm .NoTeller (by decide)).gl rfl) pa_nil))) (pe_or (pe_callB (call_isiK K rfl) (by rfl) T.n_isinstance L2.boot_isinstance (pa_cons (pv 2) (pa_cons (pe_glob (v := V.ref (xa .Alone)) rfl (EX.nm .Alone (by decide)).gl rfl) pa_nil))) (pe_one (pe_callB (call_isiK K rfl) (by rfl) T.n_isinstance L2.boot_isinstance (pa_cons (pv 2) (pa_cons (pe_glob (v := V.ref (xa .First)) rfl (EX.nm .First (by decide)).gl rfl) pa_nil))))))))
      (pss_one (ps_set (i := 1) sc_law_refused.nd rfl (Or.inl rfl) (pe_and (pe_callB (call_isiK K rfl) (by rfl) T.n_isinstance L2.boot_isinstance (pa_cons (pv 2) (pa_cons (pe_glob (v := V.ref (xa .HearError)) rfl (EX.nm .HearError (by decide)).gl rfl) pa_nil))) (pe_one (pe_not (pv 3)))))))) sc_law_refused.nd (i := 2) rfl rfl)
      (pss_one (ps_ret (pv 1))))), ?_⟩
    try clear hu
    try clear hu0
    try clear hu64
    try dsimp only [cxOf, cxComp, Cx.nox]
    walk_at "s"
    refine ⟨?_, ?_⟩
    · walk_at "s"
      exact ⟨t, rfl, pl, hbad, fun d H' S => ⟨rfl, rfl, S⟩⟩
    · rintro σ' c dd H' hl' ⟨rfl, rfl, sm⟩
      refine ⟨_, rfl, EX.mro .BadText (by decide) .BadText (by decide), fun a ha => ?_⟩
      have hx : XCls K (xa .BadText) := (EX.nm .BadText (by decide)).xc
      walk_at "s"
      refine ⟨a, _, _, _, rfl, upd_same, hx, (fun z => nomatch z), EX.kit (x := .BadText) (y := .NoBook) (by decide) (by decide), ?_⟩
      walk_at "s"
      refine w_isnt rfl ?_
      walk_at "s"
      refine ⟨a, _, _, _, rfl, upd_same, hx, (fun z => nomatch z), EX.kit (x := .BadText) (y := .NoTeller) (by decide) (by decide), ?_⟩
      walk_at "s"
      refine w_isnt rfl ?_
      walk_at "s"
      refine ⟨a, _, _, _, rfl, upd_same, hx, (fun z => nomatch z), EX.kit (x := .BadText) (y := .Alone) (by decide) (by decide), ?_⟩
      walk_at "s"
      refine w_isnt rfl ?_
      walk_at "s"
      refine ⟨a, _, _, _, rfl, upd_same, hx, (fun z => nomatch z), EX.kit (x := .BadText) (y := .First) (by decide) (by decide), ?_⟩
      walk_at "s"
      refine ⟨a, _, _, _, rfl, upd_same, hx, (fun z => nomatch z), EX.kit (x := .BadText) (y := .HearError) (by decide) (by decide), ?_⟩
      walk_at "s"
      refine w_is rfl ?_
      walk_at "s"
      exact q _ (sm.trans (same_upd ha))
end
noncomputable def OddW (wd : Str) (v : V) : Prop := ∃ s, v = .str s ∧ Row s ∧ s.length ≤ wd.length + 320
inductive sp_odd (vs : List V) (H : Hp) (Q : VK) (E : XK) : Prop
  | mk (wd : Str) (cell : Int) (h09 : vs = [.str wd, .int cell]) (h19 : Row wd) (h29 : wd.length ≤ 400) (h39 : ∀ s H', Row s → s.length ≤ wd.length + 320 → Same H H' → Q (.str s) H') : sp_odd vs H Q E
inductive sp_turnedT (vs : List V) (H : Hp) (Q : VK) (E : XK) : Prop
  | mk (l : Addr) (ys : List Str) (way cell other : Int) (h09 : vs = [.ref l, .int way, .int cell, .int other]) (h19 : H l = some (.lst (ys.map V.str))) (h29 : 1 ≤ ys.length) (h39 : ys.length ≤ 22) (h49 : (∀ y ∈ ys, Row y ∧ y.length ≤ 32)) (h59 : 0 ≤ way) (h69 : way < 8) (h79 : ∀ t H', Plain t → Same H H' → Q (.str t) H') : sp_turnedT vs H Q E
theorem one_len : ("0" : Str).length = 1 ∧ ("+" : Str).length = 1 ∧ (" " : Str).length = 1 ∧ ("." : Str).length = 1 ∧ ("9" : Str).length = 1 ∧ ("\t" : Str).length = 1 := by decide +kernel
theorem odd_app {wd a : Str} (hw : Row wd) (ha : rowB a = true) (hl : a.length = 1) : OddW wd (.str (wd ++ a)) := ⟨_, rfl, row_app hw (row_of ha), by rw [Str.length_append]; omega⟩
theorem odd_pre {wd a : Str} (hw : Row wd) (ha : rowB a = true) (hl : a.length = 1) : OddW wd (.str (a ++ wd)) := ⟨_, rfl, row_app (row_of ha) hw, by rw [Str.length_append]; omega⟩
theorem odd_lit {wd a : Str} (ha : rowB a = true) (hl : a.length ≤ 300) : OddW wd (.str a) := ⟨_, rfl, row_of ha, by omega⟩
section
variable {P : Program} {w : World} {K : PySem.W.Frag} {mg : Str → Option Value} {base : Heap} {C C1 : Addr} {xa : Ex → Addr}
theorem sc_law_odd : FnScope ["word", "cell", "some"] ["word", "cell"] (defScope s_law_odd) := ⟨rfl, rfl, rfl, by decide +kernel, rfl, by decide +kernel, by decide +kernel⟩
theorem bi_law_odd : BindOk "_law_odd" "_law_odd" s_law_odd ["word", "cell"] := fun _ _ _ _ _ _ us hl => by
  obtain ⟨_, _, rfl⟩ := len2D hl
  rfl
theorem d_odd (F : FunAt K mg "_law_odd" "_law_odd" s_law_odd) (T : Txt K mg C) : Def P w K mg base 1 "_law_odd" ["word", "cell"] sp_odd := by
  refine F.def sc_law_odd bi_law_odd (fun vs H Q E h => ?_) (fun f cdv A outer s H vs Q E hr h => ?_)
  · obtain ⟨wd, cell, rfl, _⟩ := h
    rfl
  · obtain ⟨wd, cell, rfl, hw, hlen, q⟩ := h
    obtain ⟨n1, n2, n3, n4, n5, n6⟩ := one_len
    have m0 := Int.emod_nonneg (cell / 19) (show (300 : Int) ≠ 0 by decide)
    have m1 := Int.emod_lt_of_pos (cell / 19) (show (0 : Int) < 300 by decide)
    have k0 := Int.emod_nonneg (cell / 19) (show (6 : Int) ≠ 0 by decide)
    have k1 := Int.emod_lt_of_pos (cell / 19) (show (0 : Int) < 6 by decide)
    have j0 := Int.emod_nonneg cell (show (19 : Int) ≠ 0 by decide)
    have j1 := Int.emod_lt_of_pos cell (show (0 : Int) < 19 by decide)
    refine ⟨_, (pss_cons (ps_set (i := 2) sc_law_odd.nd rfl (Or.inl rfl) (pe_lst (pa_cons pe_str (pa_cons pe_str (pa_cons (pe_op op_add_str pe_str (pv 0)) (pa_cons (pe_op op_add_str pe_str (pv 0)) (pa_cons (pe_op op_add_str (pv 0) pe_str) (pa_cons pe_str (pa_cons pe_str (pa_cons pe_str (pa_cons pe_str (pa_cons pe_str (pa_cons pe_str (pa_cons pe_str pa_nil))))))))))))))
      (pss_cons (ps_set (i := 2) sc_law_odd.nd rfl (Or.inl rfl) (pe_op op_cat (pv 2) (pe_lst (pa_cons (pe_op op_add_str (pv 0) pe_str) (pa_cons pe_str (pa_cons pe_str (pa_cons (pe_op op_repS pe_str (pe_op op_add pe_int (pe_op op_mod (pe_op op_fdiv (pv 1) pe_int) pe_int))) (pa_cons (pe_op op_add_str (pv 0) pe_str) (pa_cons (pe_op op_add_str pe_str (pv 0)) pa_nil)))))))))
      (pss_one (ps_ret (pe_ix ix_list (pe_op op_cat (pv 2) (pe_lst (pa_cons (pe_callTy call_str_int (by rfl) T.n_str L2.boot_str (pa_cons (pe_op op_mod (pe_op op_fdiv (pv 1) pe_int) pe_int) pa_nil)) pa_nil))) (pe_op op_mod (pv 1) pe_int) (fun _ _ => rfl)))))), ?_⟩
    try clear hu
    try clear hu0
    try clear hu64
    try dsimp only [cxOf, cxComp, Cx.nox]
    walk_at "s"
    refine ⟨_, _, rfl, rfl, by rw [sizeLine_eq]; omega, ?_⟩
    walk_at "s"
    refine ⟨_, _, rfl, rfl, by rw [sizeLine_eq]; omega, ?_⟩
    walk_at "s"
    refine ⟨_, _, rfl, rfl, by rw [sizeLine_eq]; omega, ?_⟩
    walk_at "s"
    refine ⟨by simp [sizeLine_eq], fun l1 hl1 => ?_⟩
    have S1 := same_upd (o := .lst [.str "", .str "-", .str ("0" ++ wd), .str ("+" ++ wd), .str (wd ++ " "), .str "To", .str "to", .str "1000001", .str "12", .str "13", .str "-1", .str "a b"]) hl1
    walk_at "s"
    refine ⟨_, _, rfl, rfl, by rw [sizeLine_eq]; omega, ?_⟩
    walk_at "s"
    refine ⟨"9", 8 + cell / 19 % 300, rfl, rfl, by omega, by omega, by omega, by omega, by rw [rep_len, n5, sizeLine_eq]; omega, ?_⟩
    walk_at "s"
    refine ⟨_, _, rfl, rfl, by rw [sizeLine_eq]; omega, ?_⟩
    walk_at "s"
    refine ⟨_, _, rfl, rfl, by rw [sizeLine_eq]; omega, ?_⟩
    walk_at "s"
    refine ⟨by simp [sizeLine_eq], fun l2 hl2 => ?_⟩
    have S2 := same_upd (o := .lst [.str (wd ++ "."), .str "1_0", .str "00", .str (repS "9" (8 + cell / 19 % 300).toNat), .str (wd ++ "\t"), .str ("\t" ++ wd)]) hl2
    walk_at "s"
    refine ⟨l1, l2, _, _, rfl, rfl, S2 _ _ upd_same, upd_same, by simp [sizeLine_eq], fun l3 hl3 => ?_⟩
    have all : ∀ v ∈ ([.str "", .str "-", .str ("0" ++ wd), .str ("+" ++ wd), .str (wd ++ " "), .str "To", .str "to", .str "1000001", .str "12", .str "13", .str "-1", .str "a b"] ++ [.str (wd ++ "."), .str "1_0", .str "00", .str (repS "9" (8 + cell / 19 % 300).toNat), .str (wd ++ "\t"), .str ("\t" ++ wd)] : List V), OddW wd v := by
      intro v hv
      simp only [List.cons_append, List.nil_append, List.mem_cons, List.not_mem_nil, or_false] at hv
      rcases hv with rfl | rfl | rfl | rfl | rfl | rfl | rfl | rfl | rfl | rfl | rfl | rfl | rfl | rfl | rfl | rfl | rfl | rfl
      · exact odd_lit (by decide +kernel) (by decide +kernel)
      · exact odd_lit (by decide +kernel) (by decide +kernel)
      · exact odd_pre hw (by decide +kernel) n1
      · exact odd_pre hw (by decide +kernel) n2
      · exact odd_app hw (by decide +kernel) n3
      · exact odd_lit (by decide +kernel) (by decide +kernel)
      · exact odd_lit (by decide +kernel) (by decide +kernel)
      · exact odd_lit (by decide +kernel) (by decide +kernel)
      · exact odd_lit (by decide +kernel) (by decide +kernel)
      · exact odd_lit (by decide +kernel) (by decide +kernel)
      · exact odd_lit (by decide +kernel) (by decide +kernel)
      · exact odd_lit (by decide +kernel) (by decide +kernel)
      · exact odd_app hw (by decide +kernel) n4
      · exact odd_lit (by decide +kernel) (by decide +kernel)
      · exact odd_lit (by decide +kernel) (by decide +kernel)
      · exact ⟨_, rfl, row_rep (row_of (by decide +kernel)) _, by rw [rep_len, n5]; omega⟩
      · exact odd_app hw (by decide +kernel) n6
      · exact odd_pre hw (by decide +kernel) n6
    have hxl : ([.str "", .str "-", .str ("0" ++ wd), .str ("+" ++ wd), .str (wd ++ " "), .str "To", .str "to", .str "1000001", .str "12", .str "13", .str "-1", .str "a b"] ++ [.str (wd ++ "."), .str "1_0", .str "00", .str (repS "9" (8 + cell / 19 % 300).toNat), .str (wd ++ "\t"), .str ("\t" ++ wd)] : List V).length = 18 := rfl
    have S3 := (S1.trans S2).trans (same_upd (o := .lst ([.str "", .str "-", .str ("0" ++ wd), .str ("+" ++ wd), .str (wd ++ " "), .str "To", .str "to", .str "1000001", .str "12", .str "13", .str "-1", .str "a b"] ++ [.str (wd ++ "."), .str "1_0", .str "00", .str (repS "9" (8 + cell / 19 % 300).toNat), .str (wd ++ "\t"), .str ("\t" ++ wd)])) hl3)
    generalize ([.str "", .str "-", .str ("0" ++ wd), .str ("+" ++ wd), .str (wd ++ " "), .str "To", .str "to", .str "1000001", .str "12", .str "13", .str "-1", .str "a b"] ++ [.str (wd ++ "."), .str "1_0", .str "00", .str (repS "9" (8 + cell / 19 % 300).toNat), .str (wd ++ "\t"), .str ("\t" ++ wd)] : List V) = xs at all hxl S3
    walk_at "s"
    refine ⟨_, rfl, small_log k0 (by omega), ?_⟩
    walk_at "s"
    refine ⟨by simp [sizeLine_eq], fun l4 hl4 => ?_⟩
    have S4 := same_upd (o := .lst [.str (Str.ofString (toString (cell / 19 % 6)))]) hl4
    refine ⟨l3, l4, xs, _, rfl, rfl, S4 _ _ upd_same, upd_same, by rw [hxl]; simp [sizeLine_eq], fun l5 hl5 => ?_⟩
    have all2 : ∀ v ∈ xs ++ [.str (Str.ofString (toString (cell / 19 % 6)))], OddW wd v := by
      intro v hv
      rcases List.mem_append.mp hv with h | h
      · exact all v h
      · rw [List.mem_singleton.mp h]
        have := num_len k0 (show cell / 19 % 6 ≤ 1000000 by omega)
        exact ⟨_, rfl, ⟨num_ascii k0, num_free k0 (by decide)⟩, by omega⟩
    obtain ⟨j, hj⟩ := Int.eq_ofNat_of_zero_le j0
    obtain ⟨v, hv⟩ : ∃ v, (xs ++ [.str (Str.ofString (toString (cell / 19 % 6)))])[j]? = some v := ⟨_, List.getElem?_eq_getElem (by rw [List.length_append, hxl, List.length_singleton]; omega)⟩
    obtain ⟨s9, rfl, r9, l9⟩ := all2 v (List.mem_of_getElem? hv)
    walk_at "s"
    refine ⟨l5, _, _, _, rfl, rfl, SqL.of upd_same, by rw [hj]; exact atI_nat hv, ?_⟩
    exact q s9 _ r9 l9 ((S3.trans S4).trans (same_upd hl5))
end
theorem sum_ok {zs : List Str} {c : Str} (h1 : c.length = 1) (hw : wide zs ≤ 3000) : (zs.map (·.length)).sum + zs.length * c.length ≤ 16777216 := by
  rw [h1, Nat.mul_one]
  unfold wide at hw
  omega
theorem nl_len : ("\n" : Str).length = 1 := by decide +kernel
theorem bl_len : (" " : Str).length = 1 := by decide +kernel
theorem plain_of {zs : List Str} (h : ∀ y ∈ zs, Row y) (hw : wide zs ≤ 3000) (hl : zs.length ≤ 30) : Plain (Str.join "\n" zs) := by
  obtain ⟨a, b, c⟩ := plain_join h hw hl
  exact ⟨a, by omega, by omega⟩
theorem at_last {ys : List Str} (h : 1 ≤ ys.length) : ∃ y ∈ ys, atI (ys.map V.str) (-1) = some (.str y) := by
  have hne : ys ≠ [] := fun z => by rw [z] at h; cases h
  refine ⟨ys.getLast hne, List.getLast_mem hne, ?_⟩
  have e : ys.map V.str = (ys.dropLast).map V.str ++ [.str (ys.getLast hne)] := by
    rw [← List.map_singleton, ← List.map_append, List.dropLast_concat_getLast]
  rw [e, atI_last]
theorem ix_last {n : Nat} (h : 1 ≤ n) : ixN n (-1) = some (n - 1) := by
  unfold ixN
  rw [if_neg (by decide), if_pos (by omega)]
  congr 1
  omega
theorem mem_set {ys : List Str} {k : Nat} {s y : Str} (h : y ∈ ys.set k s) : y ∈ ys ∨ y = s := List.mem_or_eq_of_mem_set h
section
variable {P : Program} {w : World} {K : PySem.W.Frag} {mg : Str → Option Value} {base : Heap} {C C1 : Addr} {xa : Ex → Addr}
theorem sc_law_turned : FnScope ["lines", "way", "cell", "other", "rows", "at", "words", "place", "text"] ["lines", "way", "cell", "other"] (defScope s_law_turned) := ⟨rfl, rfl, rfl, by decide +kernel, rfl, by decide +kernel, by decide +kernel⟩
theorem bi_law_turned : BindOk "_law_turned" "_law_turned" s_law_turned ["lines", "way", "cell", "other"] := fun _ _ _ _ _ _ us hl => by
  obtain ⟨_, _, _, _, rfl⟩ := len4D hl
  rfl
theorem d_turnedT (F : FunAt K mg "_law_turned" "_law_turned" s_law_turned) (T : Txt K mg C) (D_law_odd : Def P w K mg base 1 "_law_odd" ["word", "cell"] sp_odd) : Def P w K mg base 2 "_law_turned" ["lines", "way", "cell", "other"] sp_turnedT := by
  refine F.def sc_law_turned bi_law_turned (fun vs H Q E h => ?_) (fun f cdv A outer s H vs Q E hr h => ?_)
  · obtain ⟨l, ys, way, cell, other, rfl, _⟩ := h
    rfl
  · obtain ⟨l, ys, way, cell, other, rfl, hl, y1, y22, hys, way0, way8, q⟩ := h
    have hw0 : wide ys ≤ 726 := by
      have h1 := wide_le (B := 32) fun y hy => (hys y hy).2
      omega
    refine ⟨_, (pss_cons (ps_set (i := 4) sc_law_turned.nd rfl (Or.inl rfl) (pe_callTy call_list_of (by rfl) T.n_list L2.boot_list (pa_cons (pv 0) pa_nil)))
      (pss_cons (ps_set (i := 5) sc_law_turned.nd rfl (Or.inl rfl) (pe_op op_mod (pv 2) (pe_callB call_len_seq (by rfl) T.n_len L2.boot_len (pa_cons (pv 4) pa_nil))))
      (pss_cons (ps_set (i := 6) sc_law_turned.nd rfl (Or.inl rfl) (pe_bm PySem.F.plainAttrs_str PySem.F.slot_str_split PySem.F.type_str_split mt_split (pe_ix ix_list (pv 4) (pv 5) (fun _ _ => rfl)) (pa_cons pe_str pa_nil)))
      (pss_cons (ps_if (PW.pt (pw_or (pt_cmpR op_eq (pv 1) pe_int (nomark _)) (pw_or1 (pt_cmpR op_eq (pv 1) pe_int (nomark _)))))
      (pss_cons (ps_set (i := 7) sc_law_turned.nd rfl (Or.inl rfl) (pe_op op_mod (pe_op op_fdiv (pv 2) pe_int) (pe_callB call_len_seq (by rfl) T.n_len L2.boot_len (pa_cons (pv 6) pa_nil))))
      (pss_cons (ps_asg (pe_callD D_law_odd (hr.mono (by decide)) (pa_cons (pe_ix ix_list (pv 6) (pv 7) (fun _ _ => rfl)) (pa_cons (pv 3) pa_nil))) (pg_sub (pv 6) (pv 7) set_list))
      (pss_one (ps_asg (pe_bm PySem.F.plainAttrs_str PySem.F.slot_str_join PySem.F.type_str_join mt_join pe_str (pa_cons (pv 6) pa_nil)) (pg_sub (pv 4) (pv 5) set_list)))))
      pss_nil)
      (pss_cons (ps_if (pt_cmpR op_eq (pv 1) pe_int (nomark _))
      (pss_cons (ps_asg (pe_ix ix_list (pv 0) (pe_un un_neg pe_int) (fun _ _ => rfl)) (pg_sub (pv 4) (pv 5) set_list))
      (pss_one (ps_asg (pe_ix ix_list (pv 0) (pv 5) (fun _ _ => rfl)) (pg_sub (pv 4) (pe_un un_neg pe_int) set_list))))
      pss_nil)
      (pss_cons (ps_if (pt_cmpR op_eq (pv 1) pe_int (nomark _))
      (pss_one (ps_expr (pe_bm PySem.F.plainAttrs_list PySem.F.slot_list_insert PySem.F.type_list_insert mt_insert (pv 4) (pa_cons (pv 5) (pa_cons (pe_ix ix_list (pv 4) (pe_un un_neg pe_int) (fun _ _ => rfl)) pa_nil)))))
      pss_nil)
      (pss_cons (ps_if (pt_cmpR op_eq (pv 1) pe_int (nomark _))
      (pss_one (ps_expr (pe_bm PySem.F.plainAttrs_list PySem.F.slot_list_pop PySem.F.type_list_pop mt_popAt (pv 4) (pa_cons pe_int pa_nil))))
      pss_nil)
      (pss_cons (ps_set (i := 8) sc_law_turned.nd rfl (Or.inl rfl) (pe_bm PySem.F.plainAttrs_str PySem.F.slot_str_join PySem.F.type_str_join mt_join pe_str (pa_cons (pv 4) pa_nil)))
      (pss_cons (ps_if (PW.pt (pw_or (pt_cmpR op_eq (pv 1) pe_int (nomark _)) (pw_or1 (pt_cmpR op_eq (pv 1) pe_int (nomark _)))))
      (pss_cons (ps_set (i := 7) sc_law_turned.nd rfl (Or.inl rfl) (pe_op op_mod (pv 3) (pe_op op_add (pe_callB call_len_str (by rfl) T.n_len L2.boot_len (pa_cons (pv 8) pa_nil)) pe_int)))
      (pss_one (ps_set (i := 8) sc_law_turned.nd rfl (Or.inl rfl) (pe_op op_add_str (pe_op op_add_str (pe_slice sl_str (pv 8) po_none (po_some (pv 7))) (pe_ix ix_list (pe_lst (pa_cons pe_str (pa_cons pe_str pa_nil))) (pe_op op_mod (pv 2) pe_int) (fun _ _ => rfl))) (pe_slice sl_str (pv 8) (po_some (pv 7)) po_none)))))
      pss_nil)
      (pss_one (ps_ret (pv 8)))))))))))), ?_⟩
    try clear hu
    try clear hu0
    try clear hu64
    try dsimp only [cxOf, cxComp, Cx.nox]
    walk_at "s"
    refine ⟨l, _, rfl, .inl (SqL.of hl), fun lr hlr0 => ?_⟩
    have S1 := same_upd (o := .lst (ys.map V.str)) hlr0
    have hlr1 : upd H lr (.lst (ys.map V.str)) lr = some (.lst (ys.map V.str)) := upd_same
    have hl1 := S1 _ _ hl
    generalize upd H lr (.lst (ys.map V.str)) = H1 at S1 hlr1 hl1
    walk_at "s"
    refine ⟨lr, _, rfl, .inl (SqL.of hlr1), ?_⟩
    rw [List.length_map]
    have hpos : (0 : Int) < (ys.length : Int) := by omega
    walk_at "s"
    have at0 := Int.emod_nonneg cell (show (ys.length : Int) ≠ 0 by omega)
    have at1 := Int.emod_lt_of_pos cell hpos
    obtain ⟨k, hk⟩ := Int.eq_ofNat_of_zero_le at0
    rw [hk] at at1
    have hkl : k < ys.length := by omega
    rw [hk]
    obtain ⟨y, hy⟩ : ∃ y, ys[k]? = some y := ⟨_, List.getElem?_eq_getElem hkl⟩
    have hym := hys y (List.mem_of_getElem? hy)
    have hat : atI (ys.map V.str) ((k : Nat) : Int) = some (.str y) := atI_nat (by rw [List.getElem?_map, hy]; rfl)
    walk_at "s"
    refine ⟨lr, _, _, _, rfl, rfl, SqL.of hlr1, hat, ?_⟩
    refine ⟨rfl, ?_⟩
    walk_at "s"
    refine ⟨_, _, rfl, rfl, by rw [blank_eq]; rfl, by rw [sizeLine_eq]; omega, fun lw hlw0 => ?_⟩
    have S12 := same_upd (o := .lst ((Txt.split y " ").map V.str)) hlw0
    have hlw2 : upd H1 lw (.lst ((Txt.split y " ").map V.str)) lw = some (.lst ((Txt.split y " ").map V.str)) := upd_same
    have hlr2 := S12 _ _ hlr1
    have hl2 := S12 _ _ hl1
    have S2 := S1.trans S12
    have hlwH : H lw = none := S1.free hlw0
    have nrw : lr ≠ lw := ne_of_none hlr1 hlw0
    generalize upd H1 lw (.lst ((Txt.split y " ").map V.str)) = H2 at S12 hlw2 hlr2 hl2 S2
    have hrow0 : ∀ y ∈ ys, Row y := fun y hy => (hys y hy).1
    rcases (show (way = 0 ∨ way = 1) ∨ way = 2 ∨ way = 3 ∨ way = 4 ∨ (way = 5 ∨ way = 6) ∨ way = 7 by omega) with h | h | h | h | h | h
    · -- a word
      have n2 : ¬ way = 2 := by omega
      have n3 : ¬ way = 3 := by omega
      have n4 : ¬ way = 4 := by omega
      have n5 : ¬ way = 5 := by omega
      have n6 : ¬ way = 6 := by omega
      have hwl : 1 ≤ (Txt.split y " ").length := by have := PyProof.Rows.split_pos y " "; omega
      have hwpos : (0 : Int) < ((Txt.split y " ").length : Int) := by omega
      have p0 := Int.emod_nonneg (cell / 7) (show ((Txt.split y " ").length : Int) ≠ 0 by omega)
      have p1 := Int.emod_lt_of_pos (cell / 7) hwpos
      obtain ⟨p, hp⟩ := Int.eq_ofNat_of_zero_le p0
      rw [hp] at p1
      have hpl : p < (Txt.split y " ").length := by omega
      obtain ⟨wp, hwp⟩ : ∃ wp, (Txt.split y " ")[p]? = some wp := ⟨_, List.getElem?_eq_getElem hpl⟩
      have hwpm := List.mem_of_getElem? hwp
      have hrw := row_split hym.1
      have hwpl := wide_mem hwpm
      rw [wide_split] at hwpl
      have hatw : atI ((Txt.split y " ").map V.str) ((p : Nat) : Int) = some (.str wp) := atI_nat (by rw [List.getElem?_map, hwp]; rfl)
      rcases h with h | h
      ·
        walk_at "s"
        refine ⟨lw, _, rfl, .inl (SqL.of hlw2), ?_⟩
        rw [List.length_map]
        walk_at "s"
        rw [hp]
        walk_at "s"
        refine ⟨lw, _, _, _, rfl, rfl, SqL.of hlw2, hatw, ?_⟩
        walk_at "s"
        refine ⟨wp, other, rfl, hrw wp hwpm, by omega, fun s9 H3 r9 l9 S23 => ?_⟩
        have hlw3 := S23 _ _ hlw2
        have hlr3 := S23 _ _ hlr2
        have S3 := S2.trans S23
        walk_at "s"
        refine ⟨lw, _, _, p, rfl, rfl, hlw3, ixN_nat (by rw [List.length_map]; omega) (by omega), ?_⟩
        rw [show ((Txt.split y " ").map V.str).set p (.str s9) = ((Txt.split y " ").set p s9).map V.str from (List.map_set).symm]
        have hrowW : ∀ z ∈ (Txt.split y " ").set p s9, Row z := fun z hz => by
          rcases mem_set hz with hz | rfl
          · exact hrw z hz
          · exact r9
        have hwideW : wide ((Txt.split y " ").set p s9) ≤ y.length + 1 + s9.length := by
          have h1 := wide_set (ys := Txt.split y " ") (k := p) (s := s9)
          rw [wide_split] at h1
          exact h1
        have hneW : (Txt.split y " ").set p s9 ≠ [] := fun z => by
          have h1 := congrArg List.length z
          rw [List.length_set, List.length_nil] at h1
          omega
        generalize (Txt.split y " ").set p s9 = ws at hrowW hwideW hneW
        have S4 : Same H (upd H3 lw (.lst (ws.map V.str))) := fun b o h => by
          rw [upd_ne (ne_of_none h hlwH)]
          exact S3 _ _ h
        have hlw4 : upd H3 lw (.lst (ws.map V.str)) lw = some (.lst (ws.map V.str)) := upd_same
        have hlr4 : upd H3 lw (.lst (ws.map V.str)) lr = some (.lst (ys.map V.str)) := (upd_ne nrw).trans hlr3
        generalize upd H3 lw (.lst (ws.map V.str)) = H4 at S4 hlw4 hlr4
        walk_at "s"
        refine ⟨rfl, ?_⟩
        walk_at "s"
        refine ⟨_, lw, ws, rfl, rfl, SqL.of hlw4, sum_ok bl_len (by have := hym.2; omega), ?_⟩
        have hlj : (Str.join " " ws).length ≤ 400 := by
          have h1 := join_wide (c := 32) hneW
          rw [← blank_eq] at h1
          have := hym.2
          omega
        have hrj := row_join hrowW
        generalize Str.join " " ws = line at hlj hrj
        walk_at "s"
        refine ⟨lr, _, _, k, rfl, rfl, hlr4, ixN_nat (by rw [List.length_map]; omega) (by omega), ?_⟩
        rw [show (ys.map V.str).set k (.str line) = (ys.set k line).map V.str from (List.map_set).symm]
        have hrow : ∀ z ∈ ys.set k line, Row z := fun z hz => by
          rcases mem_set hz with hz | rfl
          · exact hrow0 z hz
          · exact hrj
        have hwide : wide (ys.set k line) ≤ 3000 := by
          have h1 := wide_set (ys := ys) (k := k) (s := line)
          omega
        have hzl : (ys.set k line).length ≤ 30 := by rw [List.length_set]; omega
        generalize ys.set k line = zs at hrow hwide hzl
        have S5 : Same H (upd H4 lr (.lst (zs.map V.str))) := fun b o h => by
          rw [upd_ne (ne_of_none h hlr0)]
          exact S4 _ _ h
        have hlr5 : upd H4 lr (.lst (zs.map V.str)) lr = some (.lst (zs.map V.str)) := upd_same
        generalize upd H4 lr (.lst (zs.map V.str)) = H5 at S5 hlr5
        walk_at "s"
        refine ⟨rfl, ?_⟩
        walk_at "s"
        refine ⟨_, lr, zs, rfl, rfl, SqL.of hlr5, sum_ok nl_len hwide, ?_⟩
        walk_at "s"
        exact q _ _ (plain_of hrow hwide hzl) S5
      · have n0 : ¬ way = 0 := by omega
        walk_at "s"
        refine ⟨lw, _, rfl, .inl (SqL.of hlw2), ?_⟩
        rw [List.length_map]
        walk_at "s"
        rw [hp]
        walk_at "s"
        refine ⟨lw, _, _, _, rfl, rfl, SqL.of hlw2, hatw, ?_⟩
        walk_at "s"
        refine ⟨wp, other, rfl, hrw wp hwpm, by omega, fun s9 H3 r9 l9 S23 => ?_⟩
        have hlw3 := S23 _ _ hlw2
        have hlr3 := S23 _ _ hlr2
        have S3 := S2.trans S23
        walk_at "s"
        refine ⟨lw, _, _, p, rfl, rfl, hlw3, ixN_nat (by rw [List.length_map]; omega) (by omega), ?_⟩
        rw [show ((Txt.split y " ").map V.str).set p (.str s9) = ((Txt.split y " ").set p s9).map V.str from (List.map_set).symm]
        have hrowW : ∀ z ∈ (Txt.split y " ").set p s9, Row z := fun z hz => by
          rcases mem_set hz with hz | rfl
          · exact hrw z hz
          · exact r9
        have hwideW : wide ((Txt.split y " ").set p s9) ≤ y.length + 1 + s9.length := by
          have h1 := wide_set (ys := Txt.split y " ") (k := p) (s := s9)
          rw [wide_split] at h1
          exact h1
        have hneW : (Txt.split y " ").set p s9 ≠ [] := fun z => by
          have h1 := congrArg List.length z
          rw [List.length_set, List.length_nil] at h1
          omega
        generalize (Txt.split y " ").set p s9 = ws at hrowW hwideW hneW
        have S4 : Same H (upd H3 lw (.lst (ws.map V.str))) := fun b o h => by
          rw [upd_ne (ne_of_none h hlwH)]
          exact S3 _ _ h
        have hlw4 : upd H3 lw (.lst (ws.map V.str)) lw = some (.lst (ws.map V.str)) := upd_same
        have hlr4 : upd H3 lw (.lst (ws.map V.str)) lr = some (.lst (ys.map V.str)) := (upd_ne nrw).trans hlr3
        generalize upd H3 lw (.lst (ws.map V.str)) = H4 at S4 hlw4 hlr4
        walk_at "s"
        refine ⟨rfl, ?_⟩
        walk_at "s"
        refine ⟨_, lw, ws, rfl, rfl, SqL.of hlw4, sum_ok bl_len (by have := hym.2; omega), ?_⟩
        have hlj : (Str.join " " ws).length ≤ 400 := by
          have h1 := join_wide (c := 32) hneW
          rw [← blank_eq] at h1
          have := hym.2
          omega
        have hrj := row_join hrowW
        generalize Str.join " " ws = line at hlj hrj
        walk_at "s"
        refine ⟨lr, _, _, k, rfl, rfl, hlr4, ixN_nat (by rw [List.length_map]; omega) (by omega), ?_⟩
        rw [show (ys.map V.str).set k (.str line) = (ys.set k line).map V.str from (List.map_set).symm]
        have hrow : ∀ z ∈ ys.set k line, Row z := fun z hz => by
          rcases mem_set hz with hz | rfl
          · exact hrow0 z hz
          · exact hrj
        have hwide : wide (ys.set k line) ≤ 3000 := by
          have h1 := wide_set (ys := ys) (k := k) (s := line)
          omega
        have hzl : (ys.set k line).length ≤ 30 := by rw [List.length_set]; omega
        generalize ys.set k line = zs at hrow hwide hzl
        have S5 : Same H (upd H4 lr (.lst (zs.map V.str))) := fun b o h => by
          rw [upd_ne (ne_of_none h hlr0)]
          exact S4 _ _ h
        have hlr5 : upd H4 lr (.lst (zs.map V.str)) lr = some (.lst (zs.map V.str)) := upd_same
        generalize upd H4 lr (.lst (zs.map V.str)) = H5 at S5 hlr5
        walk_at "s"
        refine ⟨rfl, ?_⟩
        walk_at "s"
        refine ⟨_, lr, zs, rfl, rfl, SqL.of hlr5, sum_ok nl_len hwide, ?_⟩
        walk_at "s"
        exact q _ _ (plain_of hrow hwide hzl) S5
    · -- two lines changed about
      have n0 : ¬ way = 0 := by omega
      have n1 : ¬ way = 1 := by omega
      have n3 : ¬ way = 3 := by omega
      have n4 : ¬ way = 4 := by omega
      have n5 : ¬ way = 5 := by omega
      have n6 : ¬ way = 6 := by omega
      obtain ⟨yl, hyl, hatl⟩ := at_last y1
      walk_at "s"
      refine ⟨l, _, _, _, rfl, rfl, SqL.of hl2, hatl, ?_⟩
      walk_at "s"
      refine ⟨lr, _, _, k, rfl, rfl, hlr2, ixN_nat (by rw [List.length_map]; omega) (by omega), ?_⟩
      rw [show (ys.map V.str).set k (.str yl) = (ys.set k yl).map V.str from (List.map_set).symm]
      have S3 : Same H (upd H2 lr (.lst ((ys.set k yl).map V.str))) := fun b o h => by
        rw [upd_ne (ne_of_none h hlr0)]
        exact S2 _ _ h
      have hlr3 : upd H2 lr (.lst ((ys.set k yl).map V.str)) lr = some (.lst ((ys.set k yl).map V.str)) := upd_same
      have hl3 := S3 _ _ hl
      generalize upd H2 lr (.lst ((ys.set k yl).map V.str)) = H3 at S3 hlr3 hl3
      walk_at "s"
      refine ⟨l, _, _, _, rfl, rfl, SqL.of hl3, hat, ?_⟩
      walk_at "s"
      refine ⟨lr, _, _, (ys.set k yl).length - 1, rfl, rfl, hlr3, by rw [List.length_map]; exact ix_last (by rw [List.length_set]; omega), ?_⟩
      rw [show ((ys.set k yl).map V.str).set ((ys.set k yl).length - 1) (.str y) = ((ys.set k yl).set ((ys.set k yl).length - 1) y).map V.str from (List.map_set).symm]
      have hrow : ∀ z ∈ (ys.set k yl).set ((ys.set k yl).length - 1) y, Row z := fun z hz => by
        rcases mem_set hz with hz | rfl
        · rcases mem_set hz with hz | rfl
          · exact hrow0 z hz
          · exact hrow0 _ hyl
        · exact hym.1
      have hwide : wide ((ys.set k yl).set ((ys.set k yl).length - 1) y) ≤ 3000 := by
        have h1 := wide_set (ys := ys.set k yl) (k := (ys.set k yl).length - 1) (s := y)
        have h2 := wide_set (ys := ys) (k := k) (s := yl)
        have h3 := (hys yl hyl).2
        have h4 := hym.2
        omega
      have hzl : ((ys.set k yl).set ((ys.set k yl).length - 1) y).length ≤ 30 := by rw [List.length_set, List.length_set]; omega
      generalize (ys.set k yl).set ((ys.set k yl).length - 1) y = zs at hrow hwide hzl
      have S4 : Same H (upd H3 lr (.lst (zs.map V.str))) := fun b o h => by
        rw [upd_ne (ne_of_none h hlr0)]
        exact S3 _ _ h
      have hlr4 : upd H3 lr (.lst (zs.map V.str)) lr = some (.lst (zs.map V.str)) := upd_same
      generalize upd H3 lr (.lst (zs.map V.str)) = H4 at S4 hlr4
      walk_at "s"
      refine ⟨rfl, ?_⟩
      walk_at "s"
      refine ⟨_, lr, zs, rfl, rfl, SqL.of hlr4, sum_ok nl_len hwide, ?_⟩
      walk_at "s"
      exact q _ _ (plain_of hrow hwide hzl) S4
    · -- a line said twice
      have n0 : ¬ way = 0 := by omega
      have n1 : ¬ way = 1 := by omega
      have n2 : ¬ way = 2 := by omega
      have n4 : ¬ way = 4 := by omega
      have n5 : ¬ way = 5 := by omega
      have n6 : ¬ way = 6 := by omega
      obtain ⟨yl, hyl, hatl⟩ := at_last y1
      walk_at "s"
      refine ⟨.inl ⟨rfl, _, SqL.of hlr2⟩, ?_⟩
      walk_at "s"
      refine ⟨lr, _, _, _, rfl, rfl, SqL.of hlr2, hatl, ?_⟩
      walk_at "s"
      refine ⟨lr, _, _, _, rfl, rfl, hlr2, by omega, by omega, by rw [List.length_map]; omega, by rw [List.length_map, sizeLine_eq]; omega, ?_⟩
      rw [show ((k : Nat) : Int).toNat = k from Int.toNat_natCast k, show (ys.map V.str).take k ++ .str yl :: (ys.map V.str).drop k = (ys.take k ++ yl :: ys.drop k).map V.str by rw [List.map_append, List.map_cons, List.map_take, List.map_drop]]
      have hrow : ∀ z ∈ ys.take k ++ yl :: ys.drop k, Row z := fun z hz => by
        rcases List.mem_append.mp hz with hz | hz
        · exact hrow0 z (List.mem_of_mem_take hz)
        · rcases List.mem_cons.mp hz with rfl | hz
          · exact hrow0 _ hyl
          · exact hrow0 z (List.mem_of_mem_drop hz)
      have hwide : wide (ys.take k ++ yl :: ys.drop k) ≤ 3000 := by
        rw [wide_put]
        have h3 := (hys yl hyl).2
        omega
      have hzl : (ys.take k ++ yl :: ys.drop k).length ≤ 30 := by rw [List.length_append, List.length_cons, List.length_take, List.length_drop]; omega
      generalize ys.take k ++ yl :: ys.drop k = zs at hrow hwide hzl
      have S4 : Same H (upd H2 lr (.lst (zs.map V.str))) := fun b o h => by
        rw [upd_ne (ne_of_none h hlr0)]
        exact S2 _ _ h
      have hlr4 : upd H2 lr (.lst (zs.map V.str)) lr = some (.lst (zs.map V.str)) := upd_same
      generalize upd H2 lr (.lst (zs.map V.str)) = H4 at S4 hlr4
      walk_at "s"
      refine ⟨rfl, ?_⟩
      walk_at "s"
      refine ⟨_, lr, zs, rfl, rfl, SqL.of hlr4, sum_ok nl_len hwide, ?_⟩
      walk_at "s"
      exact q _ _ (plain_of hrow hwide hzl) S4
    · -- the first line left out
      have n0 : ¬ way = 0 := by omega
      have n1 : ¬ way = 1 := by omega
      have n2 : ¬ way = 2 := by omega
      have n3 : ¬ way = 3 := by omega
      have n5 : ¬ way = 5 := by omega
      have n6 : ¬ way = 6 := by omega
      obtain ⟨yh, yt, rfl⟩ : ∃ yh yt, ys = yh :: yt := List.exists_cons_of_ne_nil fun z => by rw [z] at y1; cases y1
      walk_at "s"
      refine ⟨.inl ⟨rfl, _, SqL.of hlr2⟩, ?_⟩
      walk_at "s"
      have hsq : seqIndex? 0 ((yh :: yt).map V.str).length = some 0 := (ixN_seq (ixN_nat (i := 0) (n := ((yh :: yt).map V.str).length) (by rw [List.length_map, List.length_cons]; exact Nat.succ_pos _) (by decide))).1
      refine ⟨lr, _, 0, 0, _, rfl, rfl, hlr2, by decide, by decide, hsq, rfl, ?_⟩
      have hrow : ∀ z ∈ yt, Row z := fun z hz => hrow0 z (List.mem_cons_of_mem _ hz)
      have hwide : wide yt ≤ 3000 := Nat.le_trans (wide_tail (y := yh)) (by omega)
      have hzl : yt.length ≤ 30 := by rw [List.length_cons] at y22; omega
      have S4 : Same H (upd H2 lr (.lst (((yh :: yt).map V.str).eraseIdx 0))) := fun b o h => by
        rw [upd_ne (ne_of_none h hlr0)]
        exact S2 _ _ h
      have hlr4 : upd H2 lr (.lst (((yh :: yt).map V.str).eraseIdx 0)) lr = some (.lst (yt.map V.str)) := upd_same
      generalize upd H2 lr (.lst (((yh :: yt).map V.str).eraseIdx 0)) = H4 at S4 hlr4
      walk_at "s"
      refine ⟨rfl, ?_⟩
      walk_at "s"
      refine ⟨_, lr, yt, rfl, rfl, SqL.of hlr4, sum_ok nl_len hwide, ?_⟩
      walk_at "s"
      exact q _ _ (plain_of hrow hwide hzl) S4
    · -- a sign more
      have n0 : ¬ way = 0 := by omega
      have n1 : ¬ way = 1 := by omega
      have n2 : ¬ way = 2 := by omega
      have n3 : ¬ way = 3 := by omega
      have n4 : ¬ way = 4 := by omega
      obtain ⟨pa, pb, pc⟩ := plain_join hrow0 (by omega) (show ys.length ≤ 30 by omega)
      walk_at "s"
      refine ⟨rfl, ?_⟩
      walk_at "s"
      refine ⟨_, lr, ys, rfl, rfl, SqL.of hlr2, sum_ok nl_len (by omega), ?_⟩
      generalize Str.join "\n" ys = t at pa pb pc
      rcases h with h | h
      ·
        walk_at "s"
        refine ⟨_, rfl, by rw [sizeLine_eq]; omega, ?_⟩
        have pp0 := Int.emod_nonneg other (show ((t.length : Int) + 1) ≠ 0 by omega)
        have pp1 := Int.emod_lt_of_pos other (show (0 : Int) < (t.length : Int) + 1 by omega)
        walk_at "s"
        obtain ⟨p, hp⟩ := Int.eq_ofNat_of_zero_le pp0
        rw [hp] at pp1
        have hpl : p ≤ t.length := by omega
        rw [hp]
        refine ⟨t, rfl, by rw [sizeLine_eq]; omega, ?_⟩
        walk_at "s"
        refine ⟨by simp [sizeLine_eq], fun lc hlc0 => ?_⟩
        have S3 := S2.trans (same_upd (o := .lst [.str " ", .str "\n"]) hlc0)
        have c0 := Int.emod_nonneg cell (show (2 : Int) ≠ 0 by decide)
        have c1 := Int.emod_lt_of_pos cell (show (0 : Int) < 2 by decide)
        walk_at "s"
        obtain ⟨sg, hsg, hats⟩ : ∃ sg : Str, (sg = " " ∨ sg = "\n") ∧ atI [V.str " ", .str "\n"] (cell % 2) = some (.str sg) := by
          rcases (show cell % 2 = 0 ∨ cell % 2 = 1 by omega) with z | z
          · exact ⟨" ", .inl rfl, by rw [z]; exact atI_nat (j := 0) rfl⟩
          · exact ⟨"\n", .inr rfl, by rw [z]; exact atI_nat (j := 1) rfl⟩
        refine ⟨lc, _, _, _, rfl, rfl, SqL.of upd_same, hats, ?_⟩
        have hsl : sg.length = 1 := by
          rcases hsg with rfl | rfl
          · exact bl_len
          · exact nl_len
        have b1 := Txt.slice_le t none (some ((p : Nat) : Int))
        have b2 := Txt.slice_le t (some ((p : Nat) : Int)) none
        refine ⟨_, _, rfl, rfl, by rw [sizeLine_eq]; omega, ?_⟩
        walk_at "s"
        refine ⟨t, rfl, by rw [sizeLine_eq]; omega, ?_⟩
        refine ⟨_, _, rfl, rfl, by rw [Str.length_append, sizeLine_eq]; omega, ?_⟩
        walk_at "s"
        exact q _ _ (plain_put pa pb pc hpl hsg) S3
      · have n5 : ¬ way = 5 := by omega
        walk_at "s"
        refine ⟨_, rfl, by rw [sizeLine_eq]; omega, ?_⟩
        have pp0 := Int.emod_nonneg other (show ((t.length : Int) + 1) ≠ 0 by omega)
        have pp1 := Int.emod_lt_of_pos other (show (0 : Int) < (t.length : Int) + 1 by omega)
        walk_at "s"
        obtain ⟨p, hp⟩ := Int.eq_ofNat_of_zero_le pp0
        rw [hp] at pp1
        have hpl : p ≤ t.length := by omega
        rw [hp]
        refine ⟨t, rfl, by rw [sizeLine_eq]; omega, ?_⟩
        walk_at "s"
        refine ⟨by simp [sizeLine_eq], fun lc hlc0 => ?_⟩
        have S3 := S2.trans (same_upd (o := .lst [.str " ", .str "\n"]) hlc0)
        have c0 := Int.emod_nonneg cell (show (2 : Int) ≠ 0 by decide)
        have c1 := Int.emod_lt_of_pos cell (show (0 : Int) < 2 by decide)
        walk_at "s"
        obtain ⟨sg, hsg, hats⟩ : ∃ sg : Str, (sg = " " ∨ sg = "\n") ∧ atI [V.str " ", .str "\n"] (cell % 2) = some (.str sg) := by
          rcases (show cell % 2 = 0 ∨ cell % 2 = 1 by omega) with z | z
          · exact ⟨" ", .inl rfl, by rw [z]; exact atI_nat (j := 0) rfl⟩
          · exact ⟨"\n", .inr rfl, by rw [z]; exact atI_nat (j := 1) rfl⟩
        refine ⟨lc, _, _, _, rfl, rfl, SqL.of upd_same, hats, ?_⟩
        have hsl : sg.length = 1 := by
          rcases hsg with rfl | rfl
          · exact bl_len
          · exact nl_len
        have b1 := Txt.slice_le t none (some ((p : Nat) : Int))
        have b2 := Txt.slice_le t (some ((p : Nat) : Int)) none
        refine ⟨_, _, rfl, rfl, by rw [sizeLine_eq]; omega, ?_⟩
        walk_at "s"
        refine ⟨t, rfl, by rw [sizeLine_eq]; omega, ?_⟩
        refine ⟨_, _, rfl, rfl, by rw [Str.length_append, sizeLine_eq]; omega, ?_⟩
        walk_at "s"
        exact q _ _ (plain_put pa pb pc hpl hsg) S3
    · -- nothing
      have n0 : ¬ way = 0 := by omega
      have n1 : ¬ way = 1 := by omega
      have n2 : ¬ way = 2 := by omega
      have n3 : ¬ way = 3 := by omega
      have n4 : ¬ way = 4 := by omega
      have n5 : ¬ way = 5 := by omega
      have n6 : ¬ way = 6 := by omega
      have hrow := hrow0
      have hwide : wide ys ≤ 3000 := by omega
      have hzl : ys.length ≤ 30 := by omega
      walk_at "s"
      refine ⟨rfl, ?_⟩
      walk_at "s"
      refine ⟨_, lr, ys, rfl, rfl, SqL.of hlr2, sum_ok nl_len hwide, ?_⟩
      walk_at "s"
      exact q _ _ (plain_of hrow hwide hzl) S2
end
section
variable {P : Program} {w : World} {K : PySem.W.Frag} {mg : Str → Option Value} {base : Heap} {C C1 : Addr} {xa : Ex → Addr}
theorem sc_law : FnScope ["script", "many", "rows", "lines", "cell", "text"] ["script"] (defScope s_law) := ⟨rfl, rfl, rfl, by decide +kernel, rfl, by decide +kernel, by decide +kernel⟩
theorem law_body (T : Txt K mg C) (D_law_cell_at : Def P w K mg base 1 "_law_cell_at" ["script", "k"] (sp_cell K)) (D_law_rows : Def P w K mg base 2 "_law_rows" ["script", "many"] (sp_rows K)) (D_law_text : Def P w K mg base 1 "_law_text" ["many", "rows"] sp_text) (D_law_turned : Def P w K mg base 2 "_law_turned" ["lines", "way", "cell", "other"] sp_turnedT)
    (D_law_good : Def P w K mg base 2 "_law_good" ["text"] sp_goodB) (D_law_refused : Def P w K mg base 6 "_law_refused" ["text"] sp_refusedT) (D_read : Def P w K mg base 5 "read" ["text"] (sp_read C)) (D_shown : Def P w K mg base 2 "shown" ["book"] (sp_shown C)) :
    BodyOk P w K mg base "law" s_law ["script", "many", "rows", "lines", "cell", "text"] 6 (spLaw K) := by
  intro f cdv A outer s0 H vs Q E hr h
  obtain ⟨a, ns, rfl, hS, hlen, q⟩ := h
  have hu64 := hr.units
  have hu0 := hr.units0
  refine ⟨_, (pss_cons (ps_set (i := 1) sc_law.nd rfl (Or.inl rfl) (pe_op op_add pe_int (pe_op op_mod (pe_callD D_law_cell_at (hr.mono (by decide)) (pa_cons (pv 0) (pa_cons pe_int pa_nil))) pe_int)))
      (pss_cons (ps_set (i := 2) sc_law.nd rfl (Or.inl rfl) (pe_callD D_law_rows (hr.mono (by decide)) (pa_cons (pv 0) (pa_cons (pv 1) pa_nil))))
      (pss_cons (ps_if (pt_cmpR (op_eqNil hu0) (pv 2) (pe_lst pa_nil) (nomark _))
      (pss_one (ps_set (i := 2) sc_law.nd rfl (Or.inl rfl) (pe_lst (pa_cons (pe_tup (pa_cons pe_int (pa_cons pe_int (pa_cons pe_int pa_nil)))) pa_nil))))
      pss_nil)
      (pss_cons (ps_set (i := 3) sc_law.nd rfl (Or.inl rfl) (pe_bm PySem.F.plainAttrs_str PySem.F.slot_str_split PySem.F.type_str_split mt_split (pe_callD D_law_text (hr.mono (by decide)) (pa_cons (pv 1) (pa_cons (pv 2) pa_nil))) (pa_cons pe_str pa_nil)))
      (pss_cons (ps_set (i := 4) sc_law.nd rfl (Or.inl rfl) (pe_callD D_law_cell_at (hr.mono (by decide)) (pa_cons (pv 0) (pa_cons pe_int pa_nil))))
      (pss_cons (ps_set (i := 5) sc_law.nd rfl (Or.inl rfl) (pe_callD D_law_turned (hr.mono (by decide)) (pa_cons (pv 3) (pa_cons (pe_op op_mod (pe_callD D_law_cell_at (hr.mono (by decide)) (pa_cons (pv 0) (pa_cons pe_int pa_nil))) pe_int) (pa_cons (pv 4) (pa_cons (pe_callD D_law_cell_at (hr.mono (by decide)) (pa_cons (pv 0) (pa_cons pe_int pa_nil))) pa_nil))))))
      (pss_cons (ps_if (pt_not (pt_val (pe_callD D_law_good (hr.mono (by decide)) (pa_cons (pv 5) pa_nil))))
      (pss_one (ps_ret (pe_callD D_law_refused (hr.mono (by decide)) (pa_cons (pv 5) pa_nil))))
      pss_nil)
      (pss_one (ps_ret (pe_cmpR op_eq (pe_callD D_shown (hr.mono (by decide)) (pa_cons (pe_callD D_read (hr.mono (by decide)) (pa_cons (pv 5) pa_nil)) pa_nil)) (pv 5) (nomark _))))))))))), ?_⟩
  try clear hu
  try clear hu0
  try clear hu64
  try dsimp only [cxOf, cxComp, Cx.nox]
  walk_at "s"
  refine ⟨a, ns, 0, rfl, hS, hlen, by decide, ?_⟩
  obtain ⟨n, hn⟩ : ∃ n : Nat, 2 + cellF ns 0 % 4 = n := ⟨(2 + cellF ns 0 % 4).toNat, by omega⟩
  have hn1 : 2 ≤ n ∧ n ≤ 5 := by omega
  have n12 : n ≤ 12 := by omega
  have n1i : (1 : Int) ≤ n := by omega
  have n12i : (n : Int) ≤ 12 := by omega
  walk_at "s"
  rw [hn]
  refine ⟨a, ns, n, rfl, hS, hlen, n1i, n12i, fun l rs cs H1 S1 hl0 hl tr R => ?_⟩
  have few : cs.length ≤ 20 := by
    have h1 := keys_few2 R.nd R.ok
    have h2 : n * (n - 1) ≤ 5 * 4 := Nat.mul_le_mul (by omega) (by omega)
    omega
  walk_at "s"
  refine ⟨Nat.zero_le _, fun z hz => ?_⟩
  have S2 := S1.trans (same_upd (o := .lst []) hz)
  have hl2 := (same_upd (o := .lst []) hz) _ _ hl
  have tr2 := tr.same (same_upd (o := .lst []) hz)
  refine ⟨l, z, _, rfl, rfl, SqL.of hl2, SqL.of upd_same, ?_⟩
  rw [if_neg Bool.false_ne_true]
  generalize upd H1 z (.lst []) = H2 at S2 hl2 tr2
  cases rs with
  | nil =>
    walk_at "s"
    refine w_is rfl ?_
    walk_at "s"
    refine ⟨by simp [sizeLine_eq], fun tp htp => ?_⟩
    have T1 := same_upd (o := .tup [.int 0, .int 1, .int 7]) htp
    walk_at "s"
    refine ⟨by simp [sizeLine_eq], fun ln hln0 => ?_⟩
    have T2 := T1.trans (same_upd (o := .lst [.ref tp]) hln0)
    have S3 := S2.trans T2
    have hln : upd (upd H2 tp (.tup [.int 0, .int 1, .int 7])) ln (.lst [.ref tp]) ln = some (.lst [.ref tp]) := upd_same
    have htp3 : upd (upd H2 tp (.tup [.int 0, .int 1, .int 7])) ln (.lst [.ref tp]) tp = some (.tup ((tri ((0, 1), 7)).map V.int)) := by
      rw [upd_ne (fun z => by rw [← z, upd_same] at hln0; cases hln0), upd_same]; rfl
    generalize upd (upd H2 tp (.tup [.int 0, .int 1, .int 7])) ln (.lst [.ref tp]) = H3 at S3 hln htp3
    have tr3 : TupRefs H3 [.ref tp] (([((0, 1), 7)] : Cs).map tri) := .cons ⟨tp, rfl, htp3⟩ .nil
    have R3 : RowsOk n ([((0, 1), 7)] : Cs) := by
      refine ⟨List.pairwise_singleton _ _, fun k hk => ?_, fun e he => ?_, by decide⟩
      · have hk' : k ∈ [((0 : Int), (1 : Int))] := hk
        rw [List.mem_singleton.mp hk']
        exact ⟨by decide, by omega, by decide, by omega, by decide, by decide⟩
      · rw [List.mem_singleton.mp he]
        exact ⟨by decide, by decide⟩
    have few3 : ([((0, 1), 7)] : Cs).length ≤ 20 := by decide
    walk_at "s"
    refine ⟨ln, [.ref tp], ([((0, 1), 7)] : Cs), n, rfl, hln, tr3, n12, by have := R3.len; omega, rowIn_of n12 R3, ?_⟩
    have htl := text_len (n := ((n : Nat) : Int)) (by omega) (by omega) _ ([((0, 1), 7)] : Cs) rfl (rowIn_of n12 R3)
    have hcl := R3.len
    refine ⟨rfl, ?_⟩
    walk_at "s"
    refine ⟨_, _, rfl, rfl, by rw [nl_eq]; rfl, by rw [sizeLine_eq]; omega, fun ll hll0 => ?_⟩
    rw [text_split (by omega) (rowIn_of n12 R3)]
    have SA := S3.trans (same_upd (o := .lst ((headS n :: (([((0, 1), 7)] : Cs)).map lineS).map V.str)) hll0)
    have hll : upd H3 ll (.lst ((headS n :: (([((0, 1), 7)] : Cs)).map lineS).map V.str)) ll = some (.lst ((headS n :: (([((0, 1), 7)] : Cs)).map lineS).map V.str)) := upd_same
    generalize upd H3 ll (.lst ((headS n :: (([((0, 1), 7)] : Cs)).map lineS).map V.str)) = HA at SA hll
    walk_at "s"
    refine ⟨a, ns, 35, rfl, SA.seq hS, hlen, by decide, ?_⟩
    walk_at "s"
    refine ⟨a, ns, 34, rfl, SA.seq hS, hlen, by decide, ?_⟩
    have w0 := Int.emod_nonneg (cellF ns 34) (show (8 : Int) ≠ 0 by decide)
    have w1 := Int.emod_lt_of_pos (cellF ns 34) (show (0 : Int) < 8 by decide)
    walk_at "s"
    refine ⟨a, ns, 36, rfl, SA.seq hS, hlen, by decide, ?_⟩
    walk_at "s"
    refine ⟨ll, _, _, _, _, rfl, hll, by rw [List.length_cons]; omega, by rw [List.length_cons, List.length_map]; omega, rows_text n12 R3, w0, w1, fun t HB pl SB => ?_⟩
    walk_at "s"
    refine ⟨t, rfl, pl, fun HC SC => ?_⟩
    cases hg : goodB t with
    | false =>
      walk_at "s"
      refine ⟨t, rfl, pl, hg, fun HD SD => ?_⟩
      exact q _
    | true =>
      obtain ⟨m, ds, m1, m12, Rd, rfl⟩ := good_rows hg
      walk_at "s"
      refine ⟨m, ds, rfl, m1, m12, Rd, fun p d HD SD hp hd BD => ?_⟩
      walk_at "s"
      refine ⟨p, d, m, ds, rfl, BD, Rd.bk, m12, rowIn_of m12 Rd, fun hs HE SE so => ?_⟩
      rw [sorted_unique2 so (sorted_self Rd.rise)]
      walk_at "s"
      rw [decide_eq_true rfl]
      exact q _
  | cons r0 rr =>
    walk_at "s"
    refine w_isnt rfl ?_
    walk_at "s"
    refine ⟨l, (r0 :: rr), cs, n, rfl, hl2, tr2, n12, by have := R.len; omega, rowIn_of n12 R, ?_⟩
    have htl := text_len (n := ((n : Nat) : Int)) (by omega) (by omega) _ cs rfl (rowIn_of n12 R)
    have hcl := R.len
    refine ⟨rfl, ?_⟩
    walk_at "s"
    refine ⟨_, _, rfl, rfl, by rw [nl_eq]; rfl, by rw [sizeLine_eq]; omega, fun ll hll0 => ?_⟩
    rw [text_split (by omega) (rowIn_of n12 R)]
    have SA := S2.trans (same_upd (o := .lst ((headS n :: (cs).map lineS).map V.str)) hll0)
    have hll : upd H2 ll (.lst ((headS n :: (cs).map lineS).map V.str)) ll = some (.lst ((headS n :: (cs).map lineS).map V.str)) := upd_same
    generalize upd H2 ll (.lst ((headS n :: (cs).map lineS).map V.str)) = HA at SA hll
    walk_at "s"
    refine ⟨a, ns, 35, rfl, SA.seq hS, hlen, by decide, ?_⟩
    walk_at "s"
    refine ⟨a, ns, 34, rfl, SA.seq hS, hlen, by decide, ?_⟩
    have w0 := Int.emod_nonneg (cellF ns 34) (show (8 : Int) ≠ 0 by decide)
    have w1 := Int.emod_lt_of_pos (cellF ns 34) (show (0 : Int) < 8 by decide)
    walk_at "s"
    refine ⟨a, ns, 36, rfl, SA.seq hS, hlen, by decide, ?_⟩
    walk_at "s"
    refine ⟨ll, _, _, _, _, rfl, hll, by rw [List.length_cons]; omega, by rw [List.length_cons, List.length_map]; omega, rows_text n12 R, w0, w1, fun t HB pl SB => ?_⟩
    walk_at "s"
    refine ⟨t, rfl, pl, fun HC SC => ?_⟩
    cases hg : goodB t with
    | false =>
      walk_at "s"
      refine ⟨t, rfl, pl, hg, fun HD SD => ?_⟩
      exact q _
    | true =>
      obtain ⟨m, ds, m1, m12, Rd, rfl⟩ := good_rows hg
      walk_at "s"
      refine ⟨m, ds, rfl, m1, m12, Rd, fun p d HD SD hp hd BD => ?_⟩
      walk_at "s"
      refine ⟨p, d, m, ds, rfl, BD, Rd.bk, m12, rowIn_of m12 Rd, fun hs HE SE so => ?_⟩
      rw [sorted_unique2 so (sorted_self Rd.rise)]
      walk_at "s"
      rw [decide_eq_true rfl]
      exact q _
end
theorem all_mk {l : PySem.W.OpenLaw} {w : World} {K : PySem.W.Frag} {h : Heap} {mg : Str → Option Value} {fa C : Addr} (X : K.In h) (G : h.Ns mainGlobals mg) (hfa : mg "law" = some (.ref fa))
    {f1 : Addr} {od1 an1 : Option Addr} {sl1 : Array (Option Value)} {oc1 kV1 dc1 pm1 cd1 ct1 : Value}
    {f2 : Addr} {od2 an2 : Option Addr} {sl2 : Array (Option Value)} {oc2 kV2 dc2 pm2 cd2 ct2 : Value}
    {f3 : Addr} {od3 an3 : Option Addr} {sl3 : Array (Option Value)} {oc3 kV3 dc3 pm3 cd3 ct3 : Value}
    {f4 : Addr} {od4 an4 : Option Addr} {sl4 : Array (Option Value)} {oc4 kV4 dc4 pm4 cd4 ct4 : Value}
    {f5 : Addr} {od5 an5 : Option Addr} {sl5 : Array (Option Value)} {oc5 kV5 dc5 pm5 cd5 ct5 : Value}
    {f6 : Addr} {od6 an6 : Option Addr} {sl6 : Array (Option Value)} {oc6 kV6 dc6 pm6 cd6 ct6 : Value}
    {f7 : Addr} {od7 an7 : Option Addr} {sl7 : Array (Option Value)} {oc7 kV7 dc7 pm7 cd7 ct7 : Value}
    {f8 : Addr} {od8 an8 : Option Addr} {sl8 : Array (Option Value)} {oc8 kV8 dc8 pm8 cd8 ct8 : Value}
    {f9 : Addr} {od9 an9 : Option Addr} {sl9 : Array (Option Value)} {oc9 kV9 dc9 pm9 cd9 ct9 : Value}
    {f10 : Addr} {od10 an10 : Option Addr} {sl10 : Array (Option Value)} {oc10 kV10 dc10 pm10 cd10 ct10 : Value}
    {f11 : Addr} {od11 an11 : Option Addr} {sl11 : Array (Option Value)} {oc11 kV11 dc11 pm11 cd11 ct11 : Value}
    {f12 : Addr} {od12 an12 : Option Addr} {sl12 : Array (Option Value)} {oc12 kV12 dc12 pm12 cd12 ct12 : Value}
    {f13 : Addr} {od13 an13 : Option Addr} {sl13 : Array (Option Value)} {oc13 kV13 dc13 pm13 cd13 ct13 : Value}
    {f14 : Addr} {od14 an14 : Option Addr} {sl14 : Array (Option Value)} {oc14 kV14 dc14 pm14 cd14 ct14 : Value}
    {f15 : Addr} {od15 an15 : Option Addr} {sl15 : Array (Option Value)} {oc15 kV15 dc15 pm15 cd15 ct15 : Value}
    {f16 : Addr} {od16 an16 : Option Addr} {sl16 : Array (Option Value)} {oc16 kV16 dc16 pm16 cd16 ct16 : Value}
    {f17 : Addr} {od17 an17 : Option Addr} {sl17 : Array (Option Value)} {oc17 kV17 dc17 pm17 cd17 ct17 : Value}
    {f18 : Addr} {od18 an18 : Option Addr} {sl18 : Array (Option Value)} {oc18 kV18 dc18 pm18 cd18 ct18 : Value}
    {f19 : Addr} {od19 an19 : Option Addr} {sl19 : Array (Option Value)} {oc19 kV19 dc19 pm19 cd19 ct19 : Value}
    {f20 : Addr} {od20 an20 : Option Addr} {sl20 : Array (Option Value)} {oc20 kV20 dc20 pm20 cd20 ct20 : Value}
    {f21 : Addr} {od21 an21 : Option Addr} {sl21 : Array (Option Value)} {oc21 kV21 dc21 pm21 cd21 ct21 : Value}
    {A_HearError : Addr}
    {A_NoBook : Addr}
    {A_NoTeller : Addr}
    {A_Alone : Addr}
    {A_First : Addr}
    {A_BadText : Addr}
    {t_MOST_TELLERS : Tok}
    {t_MOST_COST : Tok}
    {t_MOST_FIGURES : Tok}
    {t_FIGURES : Tok}
    (aC : PySem.W.nsIn K mainGlobals "Book" = some (some (.ref C)))
    (a1 : PySem.W.nsIn K mainGlobals "check_pair" = some (some (.ref f1)))
    (l1 : K.lookup f1 = some ⟨oc1, od1, .func (PySem.W.fnOf "check_pair" "check_pair" (defArgs s_check_pair) (defBody s_check_pair) (defScope s_check_pair) .none kV1 dc1 pm1 an1 cd1 ct1), sl1⟩) (c1 : PySem.W.codeIn K cd1 "check_pair" = true) (k1 : PySem.W.keepIn K (.ref f1) = true)
    (a2 : PySem.W.findIn K (.ref C) "__init__" = some (some (.ref f2))) (i2 : PySem.W.isFn K (.ref f2) = true)
    (l2 : K.lookup f2 = some ⟨oc2, od2, .func (PySem.W.fnOf "__init__" "Book.__init__" (defArgs s_Book___init__) (defBody s_Book___init__) (defScope s_Book___init__) .none kV2 dc2 pm2 an2 cd2 ct2), sl2⟩) (c2 : PySem.W.codeIn K cd2 "Book.__init__" = true) (k2 : PySem.W.keepIn K (.ref f2) = true)
    (a3 : PySem.W.findIn K (.ref C) "many" = some (some (.ref f3))) (i3 : PySem.W.isFn K (.ref f3) = true)
    (l3 : K.lookup f3 = some ⟨oc3, od3, .func (PySem.W.fnOf "many" "Book.many" (defArgs s_Book_many) (defBody s_Book_many) (defScope s_Book_many) .none kV3 dc3 pm3 an3 cd3 ct3), sl3⟩) (c3 : PySem.W.codeIn K cd3 "Book.many" = true) (k3 : PySem.W.keepIn K (.ref f3) = true)
    (a4 : PySem.W.findIn K (.ref C) "let" = some (some (.ref f4))) (i4 : PySem.W.isFn K (.ref f4) = true)
    (l4 : K.lookup f4 = some ⟨oc4, od4, .func (PySem.W.fnOf "let" "Book.let" (defArgs s_Book_let) (defBody s_Book_let) (defScope s_Book_let) .none kV4 dc4 pm4 an4 cd4 ct4), sl4⟩) (c4 : PySem.W.codeIn K cd4 "Book.let" = true) (k4 : PySem.W.keepIn K (.ref f4) = true)
    (a5 : PySem.W.findIn K (.ref C) "hearings" = some (some (.ref f5))) (i5 : PySem.W.isFn K (.ref f5) = true)
    (l5 : K.lookup f5 = some ⟨oc5, od5, .func (PySem.W.fnOf "hearings" "Book.hearings" (defArgs s_Book_hearings) (defBody s_Book_hearings) (defScope s_Book_hearings) .none kV5 dc5 pm5 an5 cd5 ct5), sl5⟩) (c5 : PySem.W.codeIn K cd5 "Book.hearings" = true) (k5 : PySem.W.keepIn K (.ref f5) = true)
    (a6 : PySem.W.nsIn K mainGlobals "shown" = some (some (.ref f6)))
    (l6 : K.lookup f6 = some ⟨oc6, od6, .func (PySem.W.fnOf "shown" "shown" (defArgs s_shown) (defBody s_shown) (defScope s_shown) .none kV6 dc6 pm6 an6 cd6 ct6), sl6⟩) (c6 : PySem.W.codeIn K cd6 "shown" = true) (k6 : PySem.W.keepIn K (.ref f6) = true)
    (a7 : PySem.W.nsIn K mainGlobals "number" = some (some (.ref f7)))
    (l7 : K.lookup f7 = some ⟨oc7, od7, .func (PySem.W.fnOf "number" "number" (defArgs s_number) (defBody s_number) (defScope s_number) .none kV7 dc7 pm7 an7 cd7 ct7), sl7⟩) (c7 : PySem.W.codeIn K cd7 "number" = true) (k7 : PySem.W.keepIn K (.ref f7) = true)
    (a8 : PySem.W.nsIn K mainGlobals "words_of" = some (some (.ref f8)))
    (l8 : K.lookup f8 = some ⟨oc8, od8, .func (PySem.W.fnOf "words_of" "words_of" (defArgs s_words_of) (defBody s_words_of) (defScope s_words_of) .none kV8 dc8 pm8 an8 cd8 ct8), sl8⟩) (c8 : PySem.W.codeIn K cd8 "words_of" = true) (k8 : PySem.W.keepIn K (.ref f8) = true)
    (a9 : PySem.W.nsIn K mainGlobals "let_line" = some (some (.ref f9)))
    (l9 : K.lookup f9 = some ⟨oc9, od9, .func (PySem.W.fnOf "let_line" "let_line" (defArgs s_let_line) (defBody s_let_line) (defScope s_let_line) .none kV9 dc9 pm9 an9 cd9 ct9), sl9⟩) (c9 : PySem.W.codeIn K cd9 "let_line" = true) (k9 : PySem.W.keepIn K (.ref f9) = true)
    (a10 : PySem.W.nsIn K mainGlobals "book_of" = some (some (.ref f10)))
    (l10 : K.lookup f10 = some ⟨oc10, od10, .func (PySem.W.fnOf "book_of" "book_of" (defArgs s_book_of) (defBody s_book_of) (defScope s_book_of) .none kV10 dc10 pm10 an10 cd10 ct10), sl10⟩) (c10 : PySem.W.codeIn K cd10 "book_of" = true) (k10 : PySem.W.keepIn K (.ref f10) = true)
    (a11 : PySem.W.nsIn K mainGlobals "read" = some (some (.ref f11)))
    (l11 : K.lookup f11 = some ⟨oc11, od11, .func (PySem.W.fnOf "read" "read" (defArgs s_read) (defBody s_read) (defScope s_read) .none kV11 dc11 pm11 an11 cd11 ct11), sl11⟩) (c11 : PySem.W.codeIn K cd11 "read" = true) (k11 : PySem.W.keepIn K (.ref f11) = true)
    (a12 : PySem.W.nsIn K mainGlobals "_law_cell_at" = some (some (.ref f12)))
    (l12 : K.lookup f12 = some ⟨oc12, od12, .func (PySem.W.fnOf "_law_cell_at" "_law_cell_at" (defArgs s_law_cell_at) (defBody s_law_cell_at) (defScope s_law_cell_at) .none kV12 dc12 pm12 an12 cd12 ct12), sl12⟩) (c12 : PySem.W.codeIn K cd12 "_law_cell_at" = true) (k12 : PySem.W.keepIn K (.ref f12) = true)
    (a13 : PySem.W.nsIn K mainGlobals "_law_mix" = some (some (.ref f13)))
    (l13 : K.lookup f13 = some ⟨oc13, od13, .func (PySem.W.fnOf "_law_mix" "_law_mix" (defArgs s_law_mix) (defBody s_law_mix) (defScope s_law_mix) .none kV13 dc13 pm13 an13 cd13 ct13), sl13⟩) (c13 : PySem.W.codeIn K cd13 "_law_mix" = true) (k13 : PySem.W.keepIn K (.ref f13) = true)
    (a14 : PySem.W.nsIn K mainGlobals "_law_rows" = some (some (.ref f14)))
    (l14 : K.lookup f14 = some ⟨oc14, od14, .func (PySem.W.fnOf "_law_rows" "_law_rows" (defArgs s_law_rows) (defBody s_law_rows) (defScope s_law_rows) .none kV14 dc14 pm14 an14 cd14 ct14), sl14⟩) (c14 : PySem.W.codeIn K cd14 "_law_rows" = true) (k14 : PySem.W.keepIn K (.ref f14) = true)
    (a15 : PySem.W.nsIn K mainGlobals "_law_text" = some (some (.ref f15)))
    (l15 : K.lookup f15 = some ⟨oc15, od15, .func (PySem.W.fnOf "_law_text" "_law_text" (defArgs s_law_text) (defBody s_law_text) (defScope s_law_text) .none kV15 dc15 pm15 an15 cd15 ct15), sl15⟩) (c15 : PySem.W.codeIn K cd15 "_law_text" = true) (k15 : PySem.W.keepIn K (.ref f15) = true)
    (a16 : PySem.W.nsIn K mainGlobals "_law_odd" = some (some (.ref f16)))
    (l16 : K.lookup f16 = some ⟨oc16, od16, .func (PySem.W.fnOf "_law_odd" "_law_odd" (defArgs s_law_odd) (defBody s_law_odd) (defScope s_law_odd) .none kV16 dc16 pm16 an16 cd16 ct16), sl16⟩) (c16 : PySem.W.codeIn K cd16 "_law_odd" = true) (k16 : PySem.W.keepIn K (.ref f16) = true)
    (a17 : PySem.W.nsIn K mainGlobals "_law_turned" = some (some (.ref f17)))
    (l17 : K.lookup f17 = some ⟨oc17, od17, .func (PySem.W.fnOf "_law_turned" "_law_turned" (defArgs s_law_turned) (defBody s_law_turned) (defScope s_law_turned) .none kV17 dc17 pm17 an17 cd17 ct17), sl17⟩) (c17 : PySem.W.codeIn K cd17 "_law_turned" = true) (k17 : PySem.W.keepIn K (.ref f17) = true)
    (a18 : PySem.W.nsIn K mainGlobals "_law_number" = some (some (.ref f18)))
    (l18 : K.lookup f18 = some ⟨oc18, od18, .func (PySem.W.fnOf "_law_number" "_law_number" (defArgs s_law_number) (defBody s_law_number) (defScope s_law_number) .none kV18 dc18 pm18 an18 cd18 ct18), sl18⟩) (c18 : PySem.W.codeIn K cd18 "_law_number" = true) (k18 : PySem.W.keepIn K (.ref f18) = true)
    (a19 : PySem.W.nsIn K mainGlobals "_law_good" = some (some (.ref f19)))
    (l19 : K.lookup f19 = some ⟨oc19, od19, .func (PySem.W.fnOf "_law_good" "_law_good" (defArgs s_law_good) (defBody s_law_good) (defScope s_law_good) .none kV19 dc19 pm19 an19 cd19 ct19), sl19⟩) (c19 : PySem.W.codeIn K cd19 "_law_good" = true) (k19 : PySem.W.keepIn K (.ref f19) = true)
    (a20 : PySem.W.nsIn K mainGlobals "_law_refused" = some (some (.ref f20)))
    (l20 : K.lookup f20 = some ⟨oc20, od20, .func (PySem.W.fnOf "_law_refused" "_law_refused" (defArgs s_law_refused) (defBody s_law_refused) (defScope s_law_refused) .none kV20 dc20 pm20 an20 cd20 ct20), sl20⟩) (c20 : PySem.W.codeIn K cd20 "_law_refused" = true) (k20 : PySem.W.keepIn K (.ref f20) = true)
    (a21 : PySem.W.nsIn K mainGlobals "law" = some (some (.ref f21)))
    (l21 : K.lookup f21 = some ⟨oc21, od21, .func (PySem.W.fnOf "law" "law" (defArgs s_law) (defBody s_law) (defScope s_law) .none kV21 dc21 pm21 an21 cd21 ct21), sl21⟩) (c21 : PySem.W.codeIn K cd21 "law" = true) (k21 : PySem.W.keepIn K (.ref f21) = true)
    (pgC : PySem.W.plainGet K C Str.empty = true) (hdC : PySem.W.hasDictIn K C = true) (poC : PySem.W.plainOver K C = true) (saC : PySem.W.findIn K (.ref C) "__setattr__" = some (some (.builtin "object.__setattr__"))) (mkC : PySem.W.makesIn K C = true) (kcC : PySem.W.keepIn K (.ref C) = true)
    (nC_tellers : PySem.W.findIn K (.ref C) "tellers" = some none)
    (nC_costs : PySem.W.findIn K (.ref C) "costs" = some none)
    (ax_HearError : PySem.W.nsIn K mainGlobals "HearError" = some (some (.ref A_HearError)))
    (ax_NoBook : PySem.W.nsIn K mainGlobals "NoBook" = some (some (.ref A_NoBook)))
    (ax_NoTeller : PySem.W.nsIn K mainGlobals "NoTeller" = some (some (.ref A_NoTeller)))
    (ax_Alone : PySem.W.nsIn K mainGlobals "Alone" = some (some (.ref A_Alone)))
    (ax_First : PySem.W.nsIn K mainGlobals "First" = some (some (.ref A_First)))
    (ax_BadText : PySem.W.nsIn K mainGlobals "BadText" = some (some (.ref A_BadText)))
    (e1_HearError : PySem.W.excIn K A_HearError veTail "ValueError.__new__" = true)
    (e2_HearError : PySem.W.findIn K (.ref A_HearError) "__getattribute__" = some (some (.builtin "BaseException.__getattribute__")))
    (e3_HearError : PySem.W.findIn K (.ref A_HearError) "__getattr__" = some none)
    (e4_HearError : PySem.W.findIn K (.ref A_HearError) "__class__" = some (some (.builtin "object.__class__")))
    (e7_HearError : PySem.W.mroIn K A_HearError (.type "object") = some true)
    (e8_HearError : PySem.W.mroIn K A_HearError (.type "BaseException") = some true)
    (e9_HearError : PySem.W.keepIn K (.ref A_HearError) = true)
    (ty_HearError : PySem.W.typeIn K (.ref A_HearError) = some (.type "type"))
    (ve_HearError : PySem.W.mroIn K A_HearError (.type "ValueError") = some true)
    (m_HearError_HearError : PySem.W.mroIn K A_HearError (.ref A_HearError) = some true)
    (m_HearError_NoBook : PySem.W.mroIn K A_HearError (.ref A_NoBook) = some false)
    (m_HearError_NoTeller : PySem.W.mroIn K A_HearError (.ref A_NoTeller) = some false)
    (m_HearError_Alone : PySem.W.mroIn K A_HearError (.ref A_Alone) = some false)
    (m_HearError_First : PySem.W.mroIn K A_HearError (.ref A_First) = some false)
    (m_HearError_BadText : PySem.W.mroIn K A_HearError (.ref A_BadText) = some false)
    (e1_NoBook : PySem.W.excIn K A_NoBook veTail "ValueError.__new__" = true)
    (e2_NoBook : PySem.W.findIn K (.ref A_NoBook) "__getattribute__" = some (some (.builtin "BaseException.__getattribute__")))
    (e3_NoBook : PySem.W.findIn K (.ref A_NoBook) "__getattr__" = some none)
    (e4_NoBook : PySem.W.findIn K (.ref A_NoBook) "__class__" = some (some (.builtin "object.__class__")))
    (e7_NoBook : PySem.W.mroIn K A_NoBook (.type "object") = some true)
    (e8_NoBook : PySem.W.mroIn K A_NoBook (.type "BaseException") = some true)
    (e9_NoBook : PySem.W.keepIn K (.ref A_NoBook) = true)
    (ty_NoBook : PySem.W.typeIn K (.ref A_NoBook) = some (.type "type"))
    (ve_NoBook : PySem.W.mroIn K A_NoBook (.type "ValueError") = some true)
    (m_NoBook_HearError : PySem.W.mroIn K A_NoBook (.ref A_HearError) = some true)
    (m_NoBook_NoBook : PySem.W.mroIn K A_NoBook (.ref A_NoBook) = some true)
    (m_NoBook_NoTeller : PySem.W.mroIn K A_NoBook (.ref A_NoTeller) = some false)
    (m_NoBook_Alone : PySem.W.mroIn K A_NoBook (.ref A_Alone) = some false)
    (m_NoBook_First : PySem.W.mroIn K A_NoBook (.ref A_First) = some false)
    (m_NoBook_BadText : PySem.W.mroIn K A_NoBook (.ref A_BadText) = some false)
    (e1_NoTeller : PySem.W.excIn K A_NoTeller veTail "ValueError.__new__" = true)
    (e2_NoTeller : PySem.W.findIn K (.ref A_NoTeller) "__getattribute__" = some (some (.builtin "BaseException.__getattribute__")))
    (e3_NoTeller : PySem.W.findIn K (.ref A_NoTeller) "__getattr__" = some none)
    (e4_NoTeller : PySem.W.findIn K (.ref A_NoTeller) "__class__" = some (some (.builtin "object.__class__")))
    (e7_NoTeller : PySem.W.mroIn K A_NoTeller (.type "object") = some true)
    (e8_NoTeller : PySem.W.mroIn K A_NoTeller (.type "BaseException") = some true)
    (e9_NoTeller : PySem.W.keepIn K (.ref A_NoTeller) = true)
    (ty_NoTeller : PySem.W.typeIn K (.ref A_NoTeller) = some (.type "type"))
    (ve_NoTeller : PySem.W.mroIn K A_NoTeller (.type "ValueError") = some true)
    (m_NoTeller_HearError : PySem.W.mroIn K A_NoTeller (.ref A_HearError) = some true)
    (m_NoTeller_NoBook : PySem.W.mroIn K A_NoTeller (.ref A_NoBook) = some false)
    (m_NoTeller_NoTeller : PySem.W.mroIn K A_NoTeller (.ref A_NoTeller) = some true)
    (m_NoTeller_Alone : PySem.W.mroIn K A_NoTeller (.ref A_Alone) = some false)
    (m_NoTeller_First : PySem.W.mroIn K A_NoTeller (.ref A_First) = some false)
    (m_NoTeller_BadText : PySem.W.mroIn K A_NoTeller (.ref A_BadText) = some false)
    (e1_Alone : PySem.W.excIn K A_Alone veTail "ValueError.__new__" = true)
    (e2_Alone : PySem.W.findIn K (.ref A_Alone) "__getattribute__" = some (some (.builtin "BaseException.__getattribute__")))
    (e3_Alone : PySem.W.findIn K (.ref A_Alone) "__getattr__" = some none)
    (e4_Alone : PySem.W.findIn K (.ref A_Alone) "__class__" = some (some (.builtin "object.__class__")))
    (e7_Alone : PySem.W.mroIn K A_Alone (.type "object") = some true)
    (e8_Alone : PySem.W.mroIn K A_Alone (.type "BaseException") = some true)
    (e9_Alone : PySem.W.keepIn K (.ref A_Alone) = true)
    (ty_Alone : PySem.W.typeIn K (.ref A_Alone) = some (.type "type"))
    (ve_Alone : PySem.W.mroIn K A_Alone (.type "ValueError") = some true)
    (m_Alone_HearError : PySem.W.mroIn K A_Alone (.ref A_HearError) = some true)
    (m_Alone_NoBook : PySem.W.mroIn K A_Alone (.ref A_NoBook) = some false)
    (m_Alone_NoTeller : PySem.W.mroIn K A_Alone (.ref A_NoTeller) = some false)
    (m_Alone_Alone : PySem.W.mroIn K A_Alone (.ref A_Alone) = some true)
    (m_Alone_First : PySem.W.mroIn K A_Alone (.ref A_First) = some false)
    (m_Alone_BadText : PySem.W.mroIn K A_Alone (.ref A_BadText) = some false)
    (e1_First : PySem.W.excIn K A_First veTail "ValueError.__new__" = true)
    (e2_First : PySem.W.findIn K (.ref A_First) "__getattribute__" = some (some (.builtin "BaseException.__getattribute__")))
    (e3_First : PySem.W.findIn K (.ref A_First) "__getattr__" = some none)
    (e4_First : PySem.W.findIn K (.ref A_First) "__class__" = some (some (.builtin "object.__class__")))
    (e7_First : PySem.W.mroIn K A_First (.type "object") = some true)
    (e8_First : PySem.W.mroIn K A_First (.type "BaseException") = some true)
    (e9_First : PySem.W.keepIn K (.ref A_First) = true)
    (ty_First : PySem.W.typeIn K (.ref A_First) = some (.type "type"))
    (ve_First : PySem.W.mroIn K A_First (.type "ValueError") = some true)
    (m_First_HearError : PySem.W.mroIn K A_First (.ref A_HearError) = some true)
    (m_First_NoBook : PySem.W.mroIn K A_First (.ref A_NoBook) = some false)
    (m_First_NoTeller : PySem.W.mroIn K A_First (.ref A_NoTeller) = some false)
    (m_First_Alone : PySem.W.mroIn K A_First (.ref A_Alone) = some false)
    (m_First_First : PySem.W.mroIn K A_First (.ref A_First) = some true)
    (m_First_BadText : PySem.W.mroIn K A_First (.ref A_BadText) = some false)
    (e1_BadText : PySem.W.excIn K A_BadText veTail "ValueError.__new__" = true)
    (e2_BadText : PySem.W.findIn K (.ref A_BadText) "__getattribute__" = some (some (.builtin "BaseException.__getattribute__")))
    (e3_BadText : PySem.W.findIn K (.ref A_BadText) "__getattr__" = some none)
    (e4_BadText : PySem.W.findIn K (.ref A_BadText) "__class__" = some (some (.builtin "object.__class__")))
    (e7_BadText : PySem.W.mroIn K A_BadText (.type "object") = some true)
    (e8_BadText : PySem.W.mroIn K A_BadText (.type "BaseException") = some true)
    (e9_BadText : PySem.W.keepIn K (.ref A_BadText) = true)
    (ty_BadText : PySem.W.typeIn K (.ref A_BadText) = some (.type "type"))
    (ve_BadText : PySem.W.mroIn K A_BadText (.type "ValueError") = some true)
    (m_BadText_HearError : PySem.W.mroIn K A_BadText (.ref A_HearError) = some true)
    (m_BadText_NoBook : PySem.W.mroIn K A_BadText (.ref A_NoBook) = some false)
    (m_BadText_NoTeller : PySem.W.mroIn K A_BadText (.ref A_NoTeller) = some false)
    (m_BadText_Alone : PySem.W.mroIn K A_BadText (.ref A_Alone) = some false)
    (m_BadText_First : PySem.W.mroIn K A_BadText (.ref A_First) = some false)
    (m_BadText_BadText : PySem.W.mroIn K A_BadText (.ref A_BadText) = some true)
    (xgg : PySem.W.specialIn K (.builtin "object.__class__") "__get__" = some (some (.builtin "getset_descriptor.__get__"))) (xtk : PySem.W.takesIn K (.builtin "object.__class__") = some true)
    (z_len : PySem.W.nsIn K mainGlobals "len" = some none)
    (z_range : PySem.W.nsIn K mainGlobals "range" = some none)
    (z_max : PySem.W.nsIn K mainGlobals "max" = some none)
    (z_min : PySem.W.nsIn K mainGlobals "min" = some none)
    (z_isinstance : PySem.W.nsIn K mainGlobals "isinstance" = some none)
    (z_all : PySem.W.nsIn K mainGlobals "all" = some none)
    (z_any : PySem.W.nsIn K mainGlobals "any" = some none)
    (z_sorted : PySem.W.nsIn K mainGlobals "sorted" = some none)
    (z_sum : PySem.W.nsIn K mainGlobals "sum" = some none)
    (z_list : PySem.W.nsIn K mainGlobals "list" = some none)
    (z_int : PySem.W.nsIn K mainGlobals "int" = some none)
    (z_bool : PySem.W.nsIn K mainGlobals "bool" = some none)
    (z_tuple : PySem.W.nsIn K mainGlobals "tuple" = some none)
    (z_str : PySem.W.nsIn K mainGlobals "str" = some none)
    (z_dict : PySem.W.nsIn K mainGlobals "dict" = some none)
    (z_ValueError : PySem.W.nsIn K mainGlobals "ValueError" = some none)
    (v_MOST_TELLERS : PySem.W.nsIn K mainGlobals "MOST_TELLERS" = some (some (.int 12 t_MOST_TELLERS)))
    (v_MOST_COST : PySem.W.nsIn K mainGlobals "MOST_COST" = some (some (.int 1000000 t_MOST_COST)))
    (v_MOST_FIGURES : PySem.W.nsIn K mainGlobals "MOST_FIGURES" = some (some (.int 7 t_MOST_FIGURES)))
    (v_FIGURES : PySem.W.nsIn K mainGlobals "FIGURES" = some (some (.str "0123456789" t_FIGURES))) :
    ∃ fd : FuncData, (∀ (s : Shared) (v : Value), BindsTo s fd ⟨[v], []⟩ [("script", v)]) ∧ ∀ base : Heap, K.In base → base.Ns mainGlobals mg → FnOk l.prog w K mg base CX0 7 fa fd ["script"] (spLaw K) := by
  have e := hfa.symm.trans (PySem.W.mg_of X G a21)
  cases e
  have F1 := fun_mk (st := s_check_pair) l1 c1 k1
  have FA_check_pair : FunAt K mg "check_pair" "check_pair" s_check_pair := ⟨f1, _, F1, PySem.W.mg_of X G a1⟩
  have F2 := fun_mk (st := s_Book___init__) l2 c2 k2
  have FA_Book___init__ : MakAt K mg C "Book" "__init__" "Book.__init__" s_Book___init__ := ⟨f2, _, F2, ⟨mkC, a2, i2, kcC⟩, PySem.W.mg_of X G aC⟩
  have F3 := fun_mk (st := s_Book_many) l3 c3 k3
  have FA_Book_many : MetAt K C "many" "Book.many" s_Book_many := ⟨f3, _, F3, ⟨a3, i3, k3⟩⟩
  have F4 := fun_mk (st := s_Book_let) l4 c4 k4
  have FA_Book_let : MetAt K C "let" "Book.let" s_Book_let := ⟨f4, _, F4, ⟨a4, i4, k4⟩⟩
  have F5 := fun_mk (st := s_Book_hearings) l5 c5 k5
  have FA_Book_hearings : MetAt K C "hearings" "Book.hearings" s_Book_hearings := ⟨f5, _, F5, ⟨a5, i5, k5⟩⟩
  have F6 := fun_mk (st := s_shown) l6 c6 k6
  have FA_shown : FunAt K mg "shown" "shown" s_shown := ⟨f6, _, F6, PySem.W.mg_of X G a6⟩
  have F7 := fun_mk (st := s_number) l7 c7 k7
  have FA_number : FunAt K mg "number" "number" s_number := ⟨f7, _, F7, PySem.W.mg_of X G a7⟩
  have F8 := fun_mk (st := s_words_of) l8 c8 k8
  have FA_words_of : FunAt K mg "words_of" "words_of" s_words_of := ⟨f8, _, F8, PySem.W.mg_of X G a8⟩
  have F9 := fun_mk (st := s_let_line) l9 c9 k9
  have FA_let_line : FunAt K mg "let_line" "let_line" s_let_line := ⟨f9, _, F9, PySem.W.mg_of X G a9⟩
  have F10 := fun_mk (st := s_book_of) l10 c10 k10
  have FA_book_of : FunAt K mg "book_of" "book_of" s_book_of := ⟨f10, _, F10, PySem.W.mg_of X G a10⟩
  have F11 := fun_mk (st := s_read) l11 c11 k11
  have FA_read : FunAt K mg "read" "read" s_read := ⟨f11, _, F11, PySem.W.mg_of X G a11⟩
  have F12 := fun_mk (st := s_law_cell_at) l12 c12 k12
  have FA_law_cell_at : FunAt K mg "_law_cell_at" "_law_cell_at" s_law_cell_at := ⟨f12, _, F12, PySem.W.mg_of X G a12⟩
  have F13 := fun_mk (st := s_law_mix) l13 c13 k13
  have FA_law_mix : FunAt K mg "_law_mix" "_law_mix" s_law_mix := ⟨f13, _, F13, PySem.W.mg_of X G a13⟩
  have F14 := fun_mk (st := s_law_rows) l14 c14 k14
  have FA_law_rows : FunAt K mg "_law_rows" "_law_rows" s_law_rows := ⟨f14, _, F14, PySem.W.mg_of X G a14⟩
  have F15 := fun_mk (st := s_law_text) l15 c15 k15
  have FA_law_text : FunAt K mg "_law_text" "_law_text" s_law_text := ⟨f15, _, F15, PySem.W.mg_of X G a15⟩
  have F16 := fun_mk (st := s_law_odd) l16 c16 k16
  have FA_law_odd : FunAt K mg "_law_odd" "_law_odd" s_law_odd := ⟨f16, _, F16, PySem.W.mg_of X G a16⟩
  have F17 := fun_mk (st := s_law_turned) l17 c17 k17
  have FA_law_turned : FunAt K mg "_law_turned" "_law_turned" s_law_turned := ⟨f17, _, F17, PySem.W.mg_of X G a17⟩
  have F18 := fun_mk (st := s_law_number) l18 c18 k18
  have FA_law_number : FunAt K mg "_law_number" "_law_number" s_law_number := ⟨f18, _, F18, PySem.W.mg_of X G a18⟩
  have F19 := fun_mk (st := s_law_good) l19 c19 k19
  have FA_law_good : FunAt K mg "_law_good" "_law_good" s_law_good := ⟨f19, _, F19, PySem.W.mg_of X G a19⟩
  have F20 := fun_mk (st := s_law_refused) l20 c20 k20
  have FA_law_refused : FunAt K mg "_law_refused" "_law_refused" s_law_refused := ⟨f20, _, F20, PySem.W.mg_of X G a20⟩
  have F21 := fun_mk (st := s_law) l21 c21 k21
  have cl_Book : Cls K C := ⟨pgC, hdC, poC, saC⟩
  let xa : Ex → Addr := fun x => match x with | .HearError => A_HearError | .NoBook => A_NoBook | .NoTeller => A_NoTeller | .Alone => A_Alone | .First => A_First | .NoHearing => 0 | .NoFamily => 0 | .BadText => A_BadText
  have EX : Exc K mg hasX xa := by
    refine ⟨fun x hx => ?_, fun x hx y hy => ?_⟩
    · cases x
      · exact ⟨⟨e1_HearError, e2_HearError, e3_HearError, e4_HearError, xgg, xtk, e7_HearError, e8_HearError, e9_HearError⟩, PySem.W.mg_of X G ax_HearError, ty_HearError, ve_HearError⟩
      · exact ⟨⟨e1_NoBook, e2_NoBook, e3_NoBook, e4_NoBook, xgg, xtk, e7_NoBook, e8_NoBook, e9_NoBook⟩, PySem.W.mg_of X G ax_NoBook, ty_NoBook, ve_NoBook⟩
      · exact ⟨⟨e1_NoTeller, e2_NoTeller, e3_NoTeller, e4_NoTeller, xgg, xtk, e7_NoTeller, e8_NoTeller, e9_NoTeller⟩, PySem.W.mg_of X G ax_NoTeller, ty_NoTeller, ve_NoTeller⟩
      · exact ⟨⟨e1_Alone, e2_Alone, e3_Alone, e4_Alone, xgg, xtk, e7_Alone, e8_Alone, e9_Alone⟩, PySem.W.mg_of X G ax_Alone, ty_Alone, ve_Alone⟩
      · exact ⟨⟨e1_First, e2_First, e3_First, e4_First, xgg, xtk, e7_First, e8_First, e9_First⟩, PySem.W.mg_of X G ax_First, ty_First, ve_First⟩
      · exact absurd hx (by decide)
      · exact absurd hx (by decide)
      · exact ⟨⟨e1_BadText, e2_BadText, e3_BadText, e4_BadText, xgg, xtk, e7_BadText, e8_BadText, e9_BadText⟩, PySem.W.mg_of X G ax_BadText, ty_BadText, ve_BadText⟩
    · cases x <;> cases y <;> first | exact absurd hx (by decide) | exact absurd hy (by decide) | assumption
  have T : Txt K mg C := ⟨cl_Book, nC_tellers, nC_costs, PySem.W.mg_of X G aC, ⟨_, PySem.W.mg_of X G v_MOST_TELLERS⟩, PySem.W.mg_none_of X G z_len, PySem.W.mg_none_of X G z_range, PySem.W.mg_none_of X G z_max, PySem.W.mg_none_of X G z_min, PySem.W.mg_none_of X G z_isinstance, PySem.W.mg_none_of X G z_all, PySem.W.mg_none_of X G z_any, PySem.W.mg_none_of X G z_sorted, PySem.W.mg_none_of X G z_sum, PySem.W.mg_none_of X G z_list, PySem.W.mg_none_of X G z_int, PySem.W.mg_none_of X G z_bool, PySem.W.mg_none_of X G z_tuple, PySem.W.mg_none_of X G z_str, PySem.W.mg_none_of X G z_dict, PySem.W.mg_none_of X G z_ValueError⟩
  refine ⟨PySem.W.fnOf "law" "law" (defArgs s_law) (defBody s_law) (defScope s_law) .none kV21 dc21 pm21 an21 cd21 ct21, fun s v => .of_eq rfl, fun base _ _ => ?_⟩
  have D1 := x_check (P := l.prog) (w := w) (base := base) FA_check_pair EX
  have I1 := x_init (P := l.prog) (w := w) (base := base) FA_Book___init__ T EX
  have L1 := x_let (base := base) FA_Book_let T D1
  have D0 := d_cell (P := l.prog) (w := w) (base := base) FA_law_cell_at T
  have MX := d_mix (P := l.prog) (w := w) (base := base) FA_law_mix
  have MM := d_many (P := l.prog) (w := w) (base := base) FA_Book_many T
  have MR := d_hear (P := l.prog) (w := w) (base := base) FA_Book_hearings T
  have MH := MetD.imp MR (hearS_of C)
  have TN : TxtN mg := ⟨⟨_, PySem.W.mg_of X G v_MOST_COST⟩, ⟨_, PySem.W.mg_of X G v_MOST_FIGURES⟩, ⟨_, PySem.W.mg_of X G v_FIGURES⟩⟩
  have WO := d_words (P := l.prog) (w := w) (base := base) FA_words_of T
  have NU := d_number (P := l.prog) (w := w) (base := base) FA_number T TN
  have LL := d_letl FA_let_line T TN WO NU (L1.calm calm_let)
  have BO := d_bookof FA_book_of T WO NU LL (I1.calm calm_init)
  have SH := d_shown (P := l.prog) (w := w) (base := base) FA_shown T MM MH
  have RE := d_read FA_read T BO SH
  have XW := x_words (P := l.prog) (w := w) (base := base) FA_words_of T EX
  have XN := x_number (P := l.prog) (w := w) (base := base) FA_number T TN EX
  have XB := x_bookofA FA_book_of T XW XN (x_letl FA_let_line T TN EX XW XN L1) I1
  have XR := x_readN FA_read T EX XB SH
  have LN := d_lnum (P := l.prog) (w := w) (base := base) FA_law_number T
  refine F21.ok sc_law (fun vs H Q E h => ?_) (law_body T D0 (d_rows FA_law_rows T D0 MX) (d_text FA_law_text T) (d_turnedT FA_law_turned T (d_odd FA_law_odd T)) (d_goodB FA_law_good T LN) (d_refusedT FA_law_refused T EX XR) RE SH _)
  obtain ⟨a, ns, rfl, _⟩ := h
  rfl
theorem walk {l : PySem.W.OpenLaw} {q : Program} {loose : List Str} {XP : (Str → Option Value) → Heap → Prop} {YP : World → Heap → Prop} {d : DefRec} {K : Params → PySem.W.Frag} (hn : l.most = some 63) (hdf : d.params.defaults = [])
    (hY : ∀ (w : World) (h : Heap), YP w h → (K w.params).In h)
    (F : ∀ (w : World) (mg : Str → Option Value) (fa : Addr) (h : Heap), (K w.params).In h → h.Ns mainGlobals mg → mg d.name = some (.ref fa) →
      ∃ fd : FuncData, (∀ (s : Shared) (u : Value), BindsTo s fd ⟨[u], []⟩ [("script", u)]) ∧ ∀ base : Heap, (K w.params).In base → base.Ns mainGlobals mg → FnOk l.prog w (K w.params) mg base CX0 7 fa fd ["script"] (spLaw (K w.params))) :
    PySem.W.WalkO q loose XP YP l.row.toRowW d [] (fun f vs => PySem.call f vs) :=
  L2.walk_of (n := 63) (k := 7) (x := "script") (CX := fun _ => CX0) (sp := fun w => spLaw (K w.params)) hn (by decide) hdf ⟨rfl, by decide, by decide⟩ hY F (fun _ _ a ns hl _ hS => ⟨a, ns, rfl, hS, hl, fun _ => rfl⟩) fun _ _ _ _ _ z => z
end Hw
open PySem PySem.W PyProof.Rows
set_option maxRecDepth 100000 in
set_option maxHeartbeats 0 in
theorem PySem.Challenge.cw_hearwood_k19_texts_refused_holds : PySem.Challenge.rw_hearwood_k19_texts_refused.Holds := by
  w_on; o_law; z_head; (case hw => w_witness2)
  refine Hw.walkX_of (fun _ => by kernel_rfl) ?W
  case W =>
  refine Hw.walk (l := PySem.Challenge.rw_hearwood_k19_texts_refused) rfl rfl (fun w h Y => Y) ?F
  case F =>
    intro w mg fa h KX G hmg
    refine' Hw.all_mk KX G hmg ?aC ?a1 ?l1 ?c1 ?k1 ?a2 ?i2 ?l2 ?c2 ?k2 ?a3 ?i3 ?l3 ?c3 ?k3 ?a4 ?i4 ?l4 ?c4 ?k4 ?a5 ?i5 ?l5 ?c5 ?k5 ?a6 ?l6 ?c6 ?k6 ?a7 ?l7 ?c7 ?k7 ?a8 ?l8 ?c8 ?k8 ?a9 ?l9 ?c9 ?k9 ?a10 ?l10 ?c10 ?k10 ?a11 ?l11 ?c11 ?k11 ?a12 ?l12 ?c12 ?k12 ?a13 ?l13 ?c13 ?k13 ?a14 ?l14 ?c14 ?k14 ?a15 ?l15 ?c15 ?k15 ?a16 ?l16 ?c16 ?k16 ?a17 ?l17 ?c17 ?k17 ?a18 ?l18 ?c18 ?k18 ?a19 ?l19 ?c19 ?k19 ?a20 ?l20 ?c20 ?k20 ?a21 ?l21 ?c21 ?k21 ?pgC ?hdC ?poC ?saC ?mkC ?kcC ?nC_tellers ?nC_costs ?ax_HearError ?ax_NoBook ?ax_NoTeller ?ax_Alone ?ax_First ?ax_BadText ?e1_HearError ?e2_HearError ?e3_HearError ?e4_HearError ?e7_HearError ?e8_HearError ?e9_HearError ?ty_HearError ?ve_HearError ?m_HearError_HearError ?m_HearError_NoBook ?m_HearError_NoTeller ?m_HearError_Alone ?m_HearError_First ?m_HearError_BadText ?e1_NoBook ?e2_NoBook ?e3_NoBook ?e4_NoBook ?e7_NoBook ?e8_NoBook ?e9_NoBook ?ty_NoBook ?ve_NoBook ?m_NoBook_HearError ?m_NoBook_NoBook ?m_NoBook_NoTeller ?m_NoBook_Alone ?m_NoBook_First ?m_NoBook_BadText ?e1_NoTeller ?e2_NoTeller ?e3_NoTeller ?e4_NoTeller ?e7_NoTeller ?e8_NoTeller ?e9_NoTeller ?ty_NoTeller ?ve_NoTeller ?m_NoTeller_HearError ?m_NoTeller_NoBook ?m_NoTeller_NoTeller ?m_NoTeller_Alone ?m_NoTeller_First ?m_NoTeller_BadText ?e1_Alone ?e2_Alone ?e3_Alone ?e4_Alone ?e7_Alone ?e8_Alone ?e9_Alone ?ty_Alone ?ve_Alone ?m_Alone_HearError ?m_Alone_NoBook ?m_Alone_NoTeller ?m_Alone_Alone ?m_Alone_First ?m_Alone_BadText ?e1_First ?e2_First ?e3_First ?e4_First ?e7_First ?e8_First ?e9_First ?ty_First ?ve_First ?m_First_HearError ?m_First_NoBook ?m_First_NoTeller ?m_First_Alone ?m_First_First ?m_First_BadText ?e1_BadText ?e2_BadText ?e3_BadText ?e4_BadText ?e7_BadText ?e8_BadText ?e9_BadText ?ty_BadText ?ve_BadText ?m_BadText_HearError ?m_BadText_NoBook ?m_BadText_NoTeller ?m_BadText_Alone ?m_BadText_First ?m_BadText_BadText ?xgg ?xtk ?z_len ?z_range ?z_max ?z_min ?z_isinstance ?z_all ?z_any ?z_sorted ?z_sum ?z_list ?z_int ?z_bool ?z_tuple ?z_str ?z_dict ?z_ValueError ?v_MOST_TELLERS ?v_MOST_COST ?v_MOST_FIGURES ?v_FIGURES
    (case aC => k_is); (case a1 => k_is); (case l1 => k_is); (case c1 => k_is); (case k1 => k_is); (case a2 => k_is)
    (case i2 => k_is); (case l2 => k_is); (case c2 => k_is); (case k2 => k_is); (case a3 => k_is); (case i3 => k_is)
    (case l3 => k_is); (case c3 => k_is); (case k3 => k_is); (case a4 => k_is); (case i4 => k_is); (case l4 => k_is)
    (case c4 => k_is); (case k4 => k_is); (case a5 => k_is); (case i5 => k_is); (case l5 => k_is); (case c5 => k_is)
    (case k5 => k_is); (case a6 => k_is); (case l6 => k_is); (case c6 => k_is); (case k6 => k_is); (case a7 => k_is)
    (case l7 => k_is); (case c7 => k_is); (case k7 => k_is); (case a8 => k_is); (case l8 => k_is); (case c8 => k_is)
    (case k8 => k_is); (case a9 => k_is); (case l9 => k_is); (case c9 => k_is); (case k9 => k_is); (case a10 => k_is)
    (case l10 => k_is); (case c10 => k_is); (case k10 => k_is); (case a11 => k_is); (case l11 => k_is); (case c11 => k_is)
    (case k11 => k_is); (case a12 => k_is); (case l12 => k_is); (case c12 => k_is); (case k12 => k_is); (case a13 => k_is)
    (case l13 => k_is); (case c13 => k_is); (case k13 => k_is); (case a14 => k_is); (case l14 => k_is); (case c14 => k_is)
    (case k14 => k_is); (case a15 => k_is); (case l15 => k_is); (case c15 => k_is); (case k15 => k_is); (case a16 => k_is)
    (case l16 => k_is); (case c16 => k_is); (case k16 => k_is); (case a17 => k_is); (case l17 => k_is); (case c17 => k_is)
    (case k17 => k_is); (case a18 => k_is); (case l18 => k_is); (case c18 => k_is); (case k18 => k_is); (case a19 => k_is)
    (case l19 => k_is); (case c19 => k_is); (case k19 => k_is); (case a20 => k_is); (case l20 => k_is); (case c20 => k_is)
    (case k20 => k_is); (case a21 => k_is); (case l21 => k_is); (case c21 => k_is); (case k21 => k_is); (case pgC => k_is)
    (case hdC => k_is); (case poC => k_is); (case saC => k_is); (case mkC => k_is); (case kcC => k_is); (case nC_tellers => k_is)
    (case nC_costs => k_is); (case ax_HearError => k_is); (case ax_NoBook => k_is); (case ax_NoTeller => k_is); (case ax_Alone => k_is); (case ax_First => k_is)
    (case ax_BadText => k_is); (case e1_HearError => k_exc); (case e2_HearError => k_is); (case e3_HearError => k_is); (case e4_HearError => k_is); (case e7_HearError => k_is)
    (case e8_HearError => k_is); (case e9_HearError => k_is); (case ty_HearError => k_is); (case ve_HearError => k_is); (case m_HearError_HearError => k_is); (case m_HearError_NoBook => k_is)
    (case m_HearError_NoTeller => k_is); (case m_HearError_Alone => k_is); (case m_HearError_First => k_is); (case m_HearError_BadText => k_is); (case e1_NoBook => k_exc); (case e2_NoBook => k_is)
    (case e3_NoBook => k_is); (case e4_NoBook => k_is); (case e7_NoBook => k_is); (case e8_NoBook => k_is); (case e9_NoBook => k_is); (case ty_NoBook => k_is)
    (case ve_NoBook => k_is); (case m_NoBook_HearError => k_is); (case m_NoBook_NoBook => k_is); (case m_NoBook_NoTeller => k_is); (case m_NoBook_Alone => k_is); (case m_NoBook_First => k_is)
    (case m_NoBook_BadText => k_is); (case e1_NoTeller => k_exc); (case e2_NoTeller => k_is); (case e3_NoTeller => k_is); (case e4_NoTeller => k_is); (case e7_NoTeller => k_is)
    (case e8_NoTeller => k_is); (case e9_NoTeller => k_is); (case ty_NoTeller => k_is); (case ve_NoTeller => k_is); (case m_NoTeller_HearError => k_is); (case m_NoTeller_NoBook => k_is)
    (case m_NoTeller_NoTeller => k_is); (case m_NoTeller_Alone => k_is); (case m_NoTeller_First => k_is); (case m_NoTeller_BadText => k_is); (case e1_Alone => k_exc); (case e2_Alone => k_is)
    (case e3_Alone => k_is); (case e4_Alone => k_is); (case e7_Alone => k_is); (case e8_Alone => k_is); (case e9_Alone => k_is); (case ty_Alone => k_is)
    (case ve_Alone => k_is); (case m_Alone_HearError => k_is); (case m_Alone_NoBook => k_is); (case m_Alone_NoTeller => k_is); (case m_Alone_Alone => k_is); (case m_Alone_First => k_is)
    (case m_Alone_BadText => k_is); (case e1_First => k_exc); (case e2_First => k_is); (case e3_First => k_is); (case e4_First => k_is); (case e7_First => k_is)
    (case e8_First => k_is); (case e9_First => k_is); (case ty_First => k_is); (case ve_First => k_is); (case m_First_HearError => k_is); (case m_First_NoBook => k_is)
    (case m_First_NoTeller => k_is); (case m_First_Alone => k_is); (case m_First_First => k_is); (case m_First_BadText => k_is); (case e1_BadText => k_exc); (case e2_BadText => k_is)
    (case e3_BadText => k_is); (case e4_BadText => k_is); (case e7_BadText => k_is); (case e8_BadText => k_is); (case e9_BadText => k_is); (case ty_BadText => k_is)
    (case ve_BadText => k_is); (case m_BadText_HearError => k_is); (case m_BadText_NoBook => k_is); (case m_BadText_NoTeller => k_is); (case m_BadText_Alone => k_is); (case m_BadText_First => k_is)
    (case m_BadText_BadText => k_is); (case xgg => k_is); (case xtk => k_is); (case z_len => k_is); (case z_range => k_is); (case z_max => k_is)
    (case z_min => k_is); (case z_isinstance => k_is); (case z_all => k_is); (case z_any => k_is); (case z_sorted => k_is); (case z_sum => k_is)
    (case z_list => k_is); (case z_int => k_is); (case z_bool => k_is); (case z_tuple => k_is); (case z_str => k_is); (case z_dict => k_is)
    (case z_ValueError => k_is); (case v_MOST_TELLERS => k_is); (case v_MOST_COST => k_is); (case v_MOST_FIGURES => k_is); (case v_FIGURES => k_is)
