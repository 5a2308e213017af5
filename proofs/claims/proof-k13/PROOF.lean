import PyProof.Rows.All
import Wide.All
import OpenK.AllK
import Wide.FinOn
import Lean
import PyProof.EqAt
import PyProof.EqKinds
import PyProof.TupleCall
import KE.KSortAsk
import KE.KMinBuiltin
import KE.KDictOf
import PyProof.IsiH_list
import PyProof.P3Eq
import PyProof.NeData
import PyProof.ListRange
import KE.KIntText
import KE.KxLen
import PySem.Challenge.RW_hearwood_k13_whole_by_all_families
set_option bootstrap.genMatcherCode false
set_option genSizeOfSpec false
set_option compiler.extract_closed false
set_option Elab.async false
set_option linter.all false
set_option maxRecDepth 100000

namespace L2
open PySem PySem.Spec PyProof.Rows


noncomputable abbrev Key := Sum Int Str
noncomputable def keyIs : Key → Value → Bool
  | .inl k, v => Value.isInt k v
  | .inr x, v => Value.isStrOf x v
noncomputable def keyH (w : World) : Key → Int
  | .inl k => hashInt k
  | .inr x => hashStr w x
theorem keyIs_shape : ∀ {k : Key} {v : Value}, keyIs k v = true → (∃ i t, k = Sum.inl i ∧ v = Value.int i t) ∨ (∃ x t, k = Sum.inr x ∧ v = Value.str x t)
  | .inl i, v, h => by
    obtain ⟨t, e⟩ := Value.isInt_shape (k := i) (v := v) h
    exact .inl ⟨i, t, rfl, e⟩
  | .inr x, v, h => by
    obtain ⟨t, e⟩ := Value.isStrOf_shape (x := x) (v := v) h
    exact .inr ⟨x, t, rfl, e⟩
theorem keyIs_int (i : Int) (t : Tok) : keyIs (.inl i) (.int i t) = true := by simp [keyIs, Value.isInt]
theorem keyIs_str (x : Str) (t : Tok) : keyIs (.inr x) (.str x t) = true := by simp [keyIs, Value.isStrOf]
theorem key_ll (a b : Int) : decide ((Sum.inl a : Key) = Sum.inl b) = (a == b) := by
  by_cases e : a = b
  · subst e; simp
  · have h : ¬ (Sum.inl a : Key) = Sum.inl b := fun q => e (Sum.inl.inj q)
    rw [decide_eq_false h]
    exact (beq_eq_false_iff_ne.mpr e).symm
theorem key_rr (a b : Str) : decide ((Sum.inr a : Key) = Sum.inr b) = decide (a = b) := by
  by_cases e : a = b
  · subst e; simp
  · have h : ¬ (Sum.inr a : Key) = Sum.inr b := fun q => e (Sum.inr.inj q)
    rw [decide_eq_false h, decide_eq_false e]
theorem key_lr (a : Int) (b : Str) : decide ((Sum.inl a : Key) = Sum.inr b) = false := decide_eq_false (fun q => nomatch q)
theorem key_rl (a : Str) (b : Int) : decide ((Sum.inr a : Key) = Sum.inl b) = false := decide_eq_false (fun q => nomatch q)

noncomputable def mixKind (prog : Program) (w : World) : PySem.KeyKind prog w Key where
  is := keyIs
  hash := keyH w
  inj := fun v a b ha hb => by
    rcases keyIs_shape ha with ⟨i, t, rfl, rfl⟩ | ⟨x, t, rfl, rfl⟩
    · rcases keyIs_shape hb with ⟨j, u, rfl, e⟩ | ⟨y, u, rfl, e⟩
      · injection e with e1 _; rw [e1]
      · exact nomatch e
    · rcases keyIs_shape hb with ⟨j, u, rfl, e⟩ | ⟨y, u, rfl, e⟩
      · exact nomatch e
      · injection e with e1 _; rw [e1]
  byValue := fun k v h => by
    rcases keyIs_shape h with ⟨i, t, rfl, rfl⟩ | ⟨x, t, rfl, rfl⟩ <;> rfl
  pyHash := fun hv h => by
    rcases keyIs_shape hv with ⟨i, t, rfl, rfl⟩ | ⟨x, t, rfl, rfl⟩
    · exact wpAny_pyHash_int h
    · exact wpAny_pyHash_str h
  eqBool := fun hu hv h => by
    rcases keyIs_shape hu with ⟨i, t, rfl, rfl⟩ | ⟨x, t, rfl, rfl⟩
    · rcases keyIs_shape hv with ⟨j, u, rfl, rfl⟩ | ⟨y, u, rfl, rfl⟩
      · rw [key_ll] at h; exact wpAny_eqBool_int h
      · rw [key_lr] at h; exact SeqAt.EqAt.int_str i t y u _ _ _ _ h
    · rcases keyIs_shape hv with ⟨j, u, rfl, rfl⟩ | ⟨y, u, rfl, rfl⟩
      · rw [key_rl] at h; exact SeqAt.EqAt.str_int x t j u _ _ _ _ h
      · rw [key_rr] at h; exact wpAny_eqBool_str h
  «strs» := fun k x t v h => by
    rcases keyIs_shape h with ⟨i, u, rfl, e⟩ | ⟨y, u, rfl, e⟩
    · exact nomatch e
    · injection e with e1 _
      subst e1
      cases v <;> rfl

theorem mixKind_is (prog : Program) (w : World) (k : Key) (v : Value) : (mixKind prog w).is k v = keyIs k v := rfl
theorem mixKind_int (prog : Program) (w : World) (i : Int) (t : Tok) : (mixKind prog w).is (.inl i) (.int i t) = true := keyIs_int i t
theorem mixKind_str (prog : Program) (w : World) (x : Str) (t : Tok) : (mixKind prog w).is (.inr x) (.str x t) = true := keyIs_str x t
end L2

namespace L2
open PySem PySem.Spec PyProof.Rows


inductive V where
  | non | bl (b : Bool) | int (i : Int) | str (x : Str) | byt (b : Array UInt8) | flt (b : UInt64) | ref (a : Addr) | ty (n : String)
  deriving DecidableEq

noncomputable def RelV : V → Value → Prop
  | .non, u => u = Value.none
  | .bl b, u => u = Value.bool b
  | .int i, u => ∃ t, u = Value.int i t
  | .str x, u => ∃ t, u = Value.str x t
  | .byt b, u => ∃ t, u = Value.bytes b t
  | .flt b, u => ∃ t, u = Value.float b t
  | .ref a, u => u = Value.ref a
  | .ty n, u => u = Value.type n

noncomputable abbrev Vals : List V → List Value → Prop := Paired RelV
theorem Vals.length {xs : List V} {us : List Value} (r : Vals xs us) : xs.length = us.length := Paired.length r
theorem Vals.get : ∀ {xs : List V} {us : List Value} {i : Nat} {x : V}, Vals xs us → xs[i]? = some x → ∃ u, us[i]? = some u ∧ RelV x u
  | _, _, _, _, .nil, e => by simp at e
  | _, _, 0, _, .cons r _, e => by simp at e; subst e; exact ⟨_, rfl, r⟩
  | _, _, i + 1, x, .cons _ t, e => by
    obtain ⟨u, h1, h2⟩ := Vals.get (i := i) (x := x) t (by simpa using e)
    exact ⟨u, by simpa using h1, h2⟩
theorem Vals.set {x : V} {u : Value} (r : RelV x u) : ∀ {xs : List V} {us : List Value} (i : Nat), Vals xs us → Vals (xs.set i x) (us.set i u)
  | _, _, _, .nil => .nil
  | _, _, 0, .cons _ t => .cons r t
  | _, _, i + 1, .cons q t => .cons q (Vals.set r i t)
theorem Vals.append {xs ys : List V} {us ws : List Value} (h : Vals xs us) (s : Vals ys ws) : Vals (xs ++ ys) (us ++ ws) := by
  induction h with
  | nil => exact s
  | cons r t ih => exact .cons r ih
theorem Vals.take : ∀ {xs : List V} {us : List Value} (n : Nat), Vals xs us → Vals (xs.take n) (us.take n)
  | _, _, 0, _ => .nil
  | _, _, _ + 1, .nil => .nil
  | _, _, n + 1, .cons r t => .cons r (Vals.take n t)
theorem Vals.drop : ∀ {xs : List V} {us : List Value} (n : Nat), Vals xs us → Vals (xs.drop n) (us.drop n)
  | _, _, 0, r => r
  | _, _, _ + 1, .nil => .nil
  | _, _, n + 1, .cons _ t => Vals.drop n t
noncomputable def RelO : Option V → Option Value → Prop
  | some v, some u => RelV v u
  | none, none => True
  | _, _ => False
noncomputable def KV {κ : Type} : List (κ × V) → List (κ × Value) → Prop := Paired fun (p : κ × V) (q : κ × Value) => p.1 = q.1 ∧ RelV p.2 q.2


noncomputable def kV : Key → V
  | .inl i => .int i
  | .inr x => .str x


inductive HO where
  
  | lst (xs : List V)
  
  | tup (xs : List V)
  
  | dK (kvs : List (Key × V)) | dT (kvs : List (List Key × V))
  
  | set (S : Int → Bool) (n : Nat)
  
  | ins (C dx : Addr) (fs : List (Str × V))
  
  | own (x : Addr)
  
  | xd (fs : List (Str × V))
  
  | met (f x : Addr)
  
  | rng (lo hi : Int)
  
  | frz (o : Obj) (u : HO)
  
  | tbl (ps : Array Value)
  
  | ext (φ : Heap → Prop)

noncomputable abbrev Hp := Addr → Option HO
noncomputable def upd (H : Hp) (a : Addr) (o : HO) : Hp := fun b => if b = a then some o else H b
theorem upd_same {H : Hp} {a : Addr} {o : HO} : upd H a o a = some o := by unfold upd; rw [if_pos rfl]
theorem upd_ne {H : Hp} {a b : Addr} {o : HO} (h : b ≠ a) : upd H a o b = H b := by unfold upd; rw [if_neg h]
theorem upd_upd {H : Hp} {a : Addr} {o u : HO} : upd (upd H a o) a u = upd H a u := by
  funext b; unfold upd; split <;> rfl

theorem ne_of {H : Hp} {a b : Addr} {o u : HO} (h : H a = some o) (h' : H b = some u) (d : o ≠ u) : a ≠ b := by
  intro e; subst e; rw [h] at h'; exact d (Option.some.inj h')
theorem ne_of_none {H : Hp} {a b : Addr} {o : HO} (h : H a = some o) (h' : H b = none) : a ≠ b := by
  intro e; subst e; rw [h] at h'; cases h'

section
variable (P : Program) (w : World)
noncomputable def ObjOk (H : Hp) (h : Heap) (a : Addr) : HO → Prop
  | .lst xs => xs.length ≤ sizeLine ∧ ∃ (its : List Value) (n : Nat), Vals xs its ∧ h.get? a = some { cls := .type "list", data := .seq its.toArray n }
  | .tup xs => xs.length ≤ sizeLine ∧ ∃ its : List Value, Vals xs its ∧ IsTup h a its.toArray
  | .dK kvs => kvs.length ≤ sizeLine ∧ (a == sysModules) = false ∧ ∃ vs, KV kvs vs ∧ h.DictOf (mixKind P w) a vs
  | .dT kvs => kvs.length ≤ sizeLine ∧ (a == sysModules) = false ∧ ∃ xs : List (List Key × Addr × Value),
      Paired (fun (p : List Key × V) (q : List Key × Addr × Value) => p.1 = q.1 ∧ H q.2.1 = some (.tup (p.1.map kV)) ∧ RelV p.2 q.2.2) kvs xs ∧
      ∃ o es ep, h.get? a = some o ∧ o.ExactDict ∧ o.data = .dict es ep ∧ es.toList = xs.map (entryOfKey (tupleKind (mixKind P w))) ∧ (xs.map (·.1)).Nodup
  | .set S n => h.SetOf (intKind P w) a S n
  | .ins C dx fs => H dx = some (.own a) ∧ fs.length ≤ 1000 ∧ dx ≠ a ∧ h.get? a = some (PySem.W.instObj C dx) ∧
      ∃ mA, h.Ns1 dx mA ∧ (∀ f, RelO (fs.lookup f) (mA f)) ∧ PySem.Within mA (fs.map (·.1))
  | .own _ => ∃ o, h.get? a = some o
  | .xd fs => ∃ mA, h.Ns1 a mA ∧ ∀ f, RelO (fs.lookup f) (mA f)
  | .rng lo hi => ∃ t u v, h.get? a = some { cls := .type "range", data := .fields #[.int lo t, .int hi u, .int 1 v] }
  | .frz o u => h.get? a = some o ∧ ObjOk H h a u
  | .tbl ps => h.get? a = some { cls := .none, data := .fields ps }
  | .met f x => h.get? a = some (PySem.W.methodObj (.ref f) (.ref x))
  | .ext φ => φ h ∧ (∃ o, h.get? a = some o) ∧ ∀ h1 h2 : Heap, φ h1 → (∀ o, h1.get? a = some o → h2.get? a = some o) → φ h2

noncomputable def HOk (H : Hp) (h : Heap) : Prop := ∀ a o, H a = some o → ObjOk P w H h a o
end

section
variable {P : Program} {w : World} {H H' : Hp} {h h' : Heap} {a : Addr} {o : HO}
theorem ObjOk.lt (x : ObjOk P w H h a o) : a < h.objs.size := by
  cases o with
  | lst xs => obtain ⟨_, _, _, _, e⟩ := x; exact Heap.lt_size e
  | tup xs => obtain ⟨_, _, _, p⟩ := x; exact p.lt
  | dK kvs => obtain ⟨_, _, _, _, o, _, _, e, _⟩ := x; exact Heap.lt_size e
  | dT kvs => obtain ⟨_, _, _, _, o, _, _, e, _⟩ := x; exact Heap.lt_size e
  | set S n => obtain ⟨o, _, _, _, e, _⟩ := x; exact Heap.lt_size e
  | ins C dx fs => obtain ⟨_, _, _, e, _⟩ := x; exact Heap.lt_size e
  | own y => obtain ⟨_, e⟩ := x; exact Heap.lt_size e
  | xd fs => obtain ⟨_, ⟨_, _, _, e, _⟩, _⟩ := x; exact Heap.lt_size e
  | rng lo hi => obtain ⟨_, _, _, e⟩ := x; exact Heap.lt_size e
  | frz ob u => obtain ⟨e, _⟩ := x; exact Heap.lt_size e
  | tbl ps => exact Heap.lt_size (show h.get? a = some _ from x)
  | met f y => exact Heap.lt_size (show h.get? a = some _ from x)
  | ext φ => obtain ⟨_, ⟨_, e⟩, _⟩ := x; exact Heap.lt_size e
theorem Paired.mapP {α β : Type} {F G : α → β → Prop} {l₁ : List α} {l₂ : List β} (h : Paired F l₁ l₂) (f : ∀ a b, F a b → G a b) : Paired G l₁ l₂ := by
  induction h with
  | nil => exact .nil
  | cons r t ih => exact .cons (f _ _ r) ih
theorem ObjOk.stay (x : ObjOk P w H h a o) (k : ∀ b u, (b = a ∨ H b = some (.own a)) → h.get? b = some u → h'.get? b = some u)
    (ho : ∀ b, H b = some (.own a) → H' b = some (.own a)) (ht : ∀ b xs, H b = some (.tup xs) → H' b = some (.tup xs)) : ObjOk P w H' h' a o := by
  induction o with
  | lst xs => obtain ⟨z, its, n, r, e⟩ := x; exact ⟨z, its, n, r, k _ _ (.inl rfl) e⟩
  | tup xs => obtain ⟨z, its, r, ob, e, c⟩ := x; exact ⟨z, its, r, ob, k _ _ (.inl rfl) e, c⟩
  | dK kvs => obtain ⟨z, y, vs, r, ob, es, ep, e, c⟩ := x; exact ⟨z, y, vs, r, ob, es, ep, k _ _ (.inl rfl) e, c⟩
  | dT kvs =>
    obtain ⟨z, y, xs, r, ob, es, ep, e, c⟩ := x
    exact ⟨z, y, xs, Paired.mapP r fun p q z => ⟨z.1, ht _ _ z.2.1, z.2.2⟩, ob, es, ep, k _ _ (.inl rfl) e, c⟩
  | set S n => obtain ⟨ob, es, ep, t, e, c⟩ := x; exact ⟨ob, es, ep, t, k _ _ (.inl rfl) e, c⟩
  | ins C dx fs =>
    obtain ⟨d, z, ne, e, mA, ⟨od, es, ep, e2, c⟩, r⟩ := x
    exact ⟨ho _ d, z, ne, k _ _ (.inl rfl) e, mA, ⟨od, es, ep, k _ _ (.inr d) e2, c⟩, r⟩
  | own y => obtain ⟨ob, e⟩ := x; exact ⟨ob, k _ _ (.inl rfl) e⟩
  | xd fs => obtain ⟨mA, ⟨od, es, ep, e, c⟩, r⟩ := x; exact ⟨mA, ⟨od, es, ep, k _ _ (.inl rfl) e, c⟩, r⟩
  | rng lo hi => obtain ⟨t, u, v, e⟩ := x; exact ⟨t, u, v, k _ _ (.inl rfl) e⟩
  | frz ob u ih => obtain ⟨e, q⟩ := x; exact ⟨k _ _ (.inl rfl) e, ih q⟩
  | tbl ps =>
    have e : h.get? a = some { cls := .none, data := .fields ps } := x
    show h'.get? a = some { cls := .none, data := .fields ps }
    exact k a _ (.inl rfl) e
  | met f y =>
    have e : h.get? a = some (PySem.W.methodObj (.ref f) (.ref y)) := x
    show h'.get? a = some (PySem.W.methodObj (.ref f) (.ref y))
    exact k a _ (.inl rfl) e
  | ext φ => obtain ⟨p, ⟨o, e⟩, st⟩ := x; exact ⟨st _ _ p fun o q => k _ _ (.inl rfl) q, ⟨o, k _ _ (.inl rfl) e⟩, st⟩
theorem HOk.lt (x : HOk P w H h) (e : H a = some o) : a < h.objs.size := (x a o e).lt
theorem HOk.fresh (x : HOk P w H h) (e : h.objs.size ≤ a) : H a = none := by
  cases q : H a with
  | none => rfl
  | some u => exact absurd (Nat.lt_of_lt_of_le (x.lt q) e) (Nat.lt_irrefl _)

theorem HOk.kept (x : HOk P w H h) (k : ∀ b u, h.get? b = some u → h'.get? b = some u) : HOk P w H h' := fun a o e =>
  (x a o e).stay (fun b u _ q => k b u q) (fun _ q => q) fun _ _ q => q

theorem HOk.laid (x : HOk P w H h) (k : ∀ b u, h.get? b = some u → h'.get? b = some u) (hp : h.objs.size ≤ a) (new : ObjOk P w (upd H a o) h' a o) : HOk P w (upd H a o) h' := fun b u e => by
  have hn := x.fresh hp
  by_cases hb : b = a
  · subst hb; rw [upd_same] at e; cases e; exact new
  · rw [upd_ne hb] at e
    exact (x b u e).stay (fun c v _ q => k c v q) (fun c q => by rw [upd_ne (ne_of_none q hn)]; exact q) fun c xs q => by rw [upd_ne (ne_of_none q hn)]; exact q
end


noncomputable def Rd (H : Hp) (a : Addr) (u : HO) : Prop := H a = some u ∨ ∃ o, H a = some (.frz o u)
theorem Rd.ok {P : Program} {w : World} {H : Hp} {h : Heap} {a : Addr} {u : HO} (r : Rd H a u) (x : HOk P w H h) : ObjOk P w H h a u := by
  rcases r with r | ⟨o, r⟩
  · exact x a u r
  · obtain ⟨_, q⟩ := x a _ r
    exact q

noncomputable def Mut : Option HO → Prop
  | some (.lst _) => True
  | some (.dK _) => True
  | some (.dT _) => True
  | some (.set _ _) => True
  | some (.ins _ _ _) => True
  | some (.ext _) => True
  | _ => False
section
variable {P : Program} {w : World} {H : Hp} {h h' : Heap} {x e : Addr} {o' : HO}

theorem HOk.write (ok : HOk P w H h) (mu : Mut (H x)) (he : e = x ∨ H e = some (.own x)) (k : ∀ b u, b ≠ e → h.get? b = some u → h'.get? b = some u) (heo : ∃ u, h'.get? e = some u)
    (new : ObjOk P w (upd H x o') h' x o') : HOk P w (upd H x o') h' := fun b u q => by
  have nown : ∀ c y, H c = some (.own y) → c ≠ x := fun c y r z => by subst z; rw [r] at mu; exact mu
  have ntup : ∀ c xs, H c = some (.tup xs) → c ≠ x := fun c xs r z => by subst z; rw [r] at mu; exact mu
  by_cases hb : b = x
  · subst hb; rw [upd_same] at q; cases q; exact new
  · rw [upd_ne hb] at q
    by_cases hbe : b = e
    · have q' : H b = some (.own x) := by
        rcases he with z | z
        · exact absurd (hbe.trans z) hb
        · rw [hbe]; exact z
      rw [q] at q'; cases q'
      obtain ⟨v, hv⟩ := heo
      exact ⟨v, by rw [hbe]; exact hv⟩
    · refine (ok b u q).stay (fun c v hc r => k c v ?_ r) (fun c r => by rw [upd_ne (nown c b r)]; exact r) fun c xs r => by rw [upd_ne (ntup c xs r)]; exact r
      rcases hc with rfl | hc
      · exact hbe
      · rintro rfl
        rcases he with z | z
        · exact nown c b hc z
        · rw [hc] at z; cases z; exact hb rfl
end


structure Un (fs ex : List Addr) (H H' : Hp) (h h' : Heap) : Prop where
  keep : ∀ b o, h.get? b = some o → H b = none → b ∉ fs → b ∉ ex → h'.get? b = some o
  slot : ∀ b o, h.get? b = some o → H b = none → b ∈ fs → b ∉ ex → ∃ sl, h'.get? b = some { o with slots := sl }
  free : ∀ b o, h.get? b = some o → H b = none → b ∉ ex → H' b = none
  there : ∀ b o, h.get? b = some o → b ∉ ex → ∃ o', h'.get? b = some o'
  tups : ∀ b xs, H b = some (.tup xs) → H' b = some (.tup xs)
  frzs : ∀ b o u, H b = some (.frz o u) → H' b = some (.frz o u)
  tbls : ∀ b ps, H b = some (.tbl ps) → ∃ more, H' b = some (.tbl (ps ++ more))
section
variable {fs fs' ex ex' : List Addr} {H H1 H2 : Hp} {h h1 h2 h' : Heap} {a x e : Addr} {o : HO}
theorem Un.any (u : Un fs ex H H1 h h1) {b : Addr} {ob : Obj} (q : h.get? b = some ob) (n : H b = none) (hx : b ∉ ex) : ∃ sl, h1.get? b = some { ob with slots := sl } := by
  by_cases hb : b ∈ fs
  · exact u.slot b ob q n hb hx
  · exact ⟨ob.slots, u.keep b ob q n hb hx⟩
theorem Un.trans (a : Un fs ex H H1 h h1) (b : Un fs ex H1 H2 h1 h2) : Un fs ex H H2 h h2 where
  keep := fun c ob q n hc hx => b.keep c ob (a.keep c ob q n hc hx) (a.free c ob q n hx) hc hx
  slot := fun c ob q n hc hx => by
    obtain ⟨sl, e1⟩ := a.slot c ob q n hc hx
    obtain ⟨sl', e2⟩ := b.slot c _ e1 (a.free c ob q n hx) hc hx
    exact ⟨sl', e2⟩
  free := fun c ob q n hx => by
    obtain ⟨o', e1⟩ := a.there c ob q hx
    exact b.free c o' e1 (a.free c ob q n hx) hx
  there := fun c ob q hx => by
    obtain ⟨o', e1⟩ := a.there c ob q hx
    exact b.there c o' e1 hx
  tups := fun c xs q => b.tups c xs (a.tups c xs q)
  frzs := fun c ob xs q => b.frzs c ob xs (a.frzs c ob xs q)
  tbls := fun c ps q => by
    obtain ⟨m1, e1⟩ := a.tbls c ps q
    obtain ⟨m2, e2⟩ := b.tbls c _ e1
    exact ⟨m1 ++ m2, by rw [e2, Array.append_assoc]⟩
theorem Un.kept (k : ∀ b u, h.get? b = some u → h'.get? b = some u) : Un fs ex H H h h' :=
  ⟨fun b ob q _ _ _ => k b ob q, fun b ob q _ _ _ => ⟨ob.slots, k b ob q⟩, fun _ _ _ n _ => n, fun b ob q _ => ⟨ob, k b ob q⟩, fun _ _ q => q, fun _ _ _ q => q, fun _ ps q => ⟨#[], by rw [q]; simp⟩⟩
theorem Un.refl : Un fs ex H H h h := Un.kept fun _ _ q => q
theorem Un.laid (k : ∀ b u, h.get? b = some u → h'.get? b = some u) (hp : h.objs.size ≤ a) (hn : H a = none) : Un fs ex H (upd H a o) h h' where
  keep := fun b u q _ _ _ => k b u q
  slot := fun b u q _ _ _ => ⟨u.slots, k b u q⟩
  free := fun b u q n _ => by rw [upd_ne (Nat.ne_of_lt (Nat.lt_of_lt_of_le (Heap.lt_size q) hp))]; exact n
  there := fun b u q _ => ⟨u, k b u q⟩
  tups := fun b xs q => by rw [upd_ne (ne_of_none q hn)]; exact q
  frzs := fun b u xs q => by rw [upd_ne (ne_of_none q hn)]; exact q
  tbls := fun b ps q => ⟨#[], by rw [upd_ne (ne_of_none q hn), q]; simp⟩
theorem Un.write (mu : Mut (H x)) (he : e = x ∨ H e = some (.own x)) (k : ∀ b u, b ≠ e → h.get? b = some u → h'.get? b = some u) (heo : ∃ u, h'.get? e = some u) : Un fs ex H (upd H x o) h h' := by
  have hx : ∀ b, H b = none → b ≠ x := fun b n z => by subst z; rw [n] at mu; exact mu
  have hb : ∀ b, H b = none → b ≠ e := fun b n z => by
    subst z
    rcases he with r | r
    · exact hx b n r
    · rw [n] at r; cases r
  have hm : ∀ b u, H b = some u → ¬ Mut (some u) → b ≠ x := fun b u q nm z => by subst z; rw [q] at mu; exact nm mu
  refine ⟨fun b u q n _ _ => k b u (hb b n) q, fun b u q n _ _ => ⟨u.slots, k b u (hb b n) q⟩, fun b u q n _ => by rw [upd_ne (hx b n)]; exact n, fun b u q _ => ?_,
    fun b xs q => by rw [upd_ne (hm b _ q fun z => z)]; exact q, fun b u xs q => by rw [upd_ne (hm b _ q fun z => z)]; exact q, fun b ps q => ⟨#[], by rw [upd_ne (hm b _ q fun z => z), q]; simp⟩⟩
  by_cases hbe : b = e
  · subst hbe; exact heo
  · exact ⟨u, k b u hbe q⟩
end


noncomputable def trk (h : Heap) (H : Hp) : List Addr := (List.range h.objs.size).filter fun a => (H a).isSome
noncomputable def hidT (h : Heap) (H : Hp) : Heap := PySem.W.hideAll h (trk h H)
theorem hidT_size (h : Heap) (H : Hp) : (hidT h H).objs.size = h.objs.size := PySem.W.hideAll_size _ _
theorem hidT_get {h : Heap} {H : Hp} {b : Addr} {o : Obj} (e : h.get? b = some o) (n : H b = none) : (hidT h H).get? b = some o :=
  PySem.W.hideAll_get _ e fun hm => by
    have q : (H b).isSome = true := (List.mem_filter.mp hm).2
    rw [n] at q; simp at q
theorem of_hidT {h : Heap} {H : Hp} {b : Addr} {o : Obj} (e : (hidT h H).get? b = some o) : h.get? b = some o ∧ H b = none := by
  have e' : h.get? b = some o := PySem.W.of_hideAll (trk h H) e
  refine ⟨e', ?_⟩
  cases q : H b with
  | none => rfl
  | some x =>
    have hm : b ∈ trk h H := List.mem_filter.mpr ⟨List.mem_range.mpr (Heap.lt_size e'), by simp [q]⟩
    have z : (hidT h H).get? b = none := PySem.W.hideAll_none (trk h H) hm
    rw [z] at e; cases e


noncomputable def allNews (g h : Heap) (L : Addr) : List (Addr × Obj) := (List.range h.objs.size).filterMap fun a => if a = L ∨ (g.get? a).isSome = true then none else (h.get? a).map fun o => (a, o)
noncomputable def rest (g h : Heap) (L d : Addr) : List (Addr × Obj) := (allNews g h L).filter fun p => decide (p.1 ≠ d)
end L2

namespace L2
open PySem PySem.Spec PyProof.Rows


structure Mod (K : PySem.W.Frag) (mg : Str → Option Value) (base : Heap) : Prop where
  kin : K.In base
  glob : base.Ns mainGlobals mg
  blt : ∃ mb, base.Ns builtinsNs mb ∧ ∀ x : Str, x ≠ "__name__" → mb x = bootBuiltins x
  nolimit : base.NoLimit


structure Cx where
  prog : Program
  w : World
  K : PySem.W.Frag
  mg : Str → Option Value
  base : Heap
  A : Around
  N : List Str
  s₀ : Shared
  H₀ : Hp
  env : Env
  outer : List Env
  stack : List Env
  ex : List Addr
  fn : Str → Bool
  calm : Bool
  pn : List (Addr × Obj)
  xe : Value → Shared → Prop

noncomputable def frs (l : List Env) : List Addr := l.filterMap (·.frame)
noncomputable abbrev Cx.fs (X : Cx) : List Addr := frs X.outer

noncomputable def Vis (sc : Scope) (x : Str) : Prop := sc.names.lookup x = some .local ∨ sc.names.lookup x = some .cell ∨ sc.names.lookup x = some .free
noncomputable def Loc (sc : Scope) (x : Str) : Prop := sc.names.lookup x = some .local ∨ sc.names.lookup x = some .cell
noncomputable def Look (env : Env) (h : Heap) (m : Str → Option Value) (x : Str) (u : Value) : Prop :=
  (env.kindOf x = some .local ∧ m x = some u) ∨ ((env.kindOf x = some .cell ∨ env.kindOf x = some .free) ∧ ∃ c, env.cells.lookup x = some c ∧ h.IsCell c (some u))

structure Cx.Ok (X : Cx) : Prop where
  mod : Mod X.K X.mg X.base
  kind : X.env.scope.kind = .function
  glob : X.env.globals = mainGlobals
  blt : X.env.builtins = builtinsNs
  above : X.s₀.heap.objs.size ≤ X.env.locals
  inj : ∀ x y c, X.env.cells.lookup x = some c → X.env.cells.lookup y = some c → x = y
  has : ∀ x, (X.env.kindOf x = some .cell ∨ X.env.kindOf x = some .free) → ∃ c, X.env.cells.lookup x = some c
  cab : ∀ x c, X.fn x = true → X.env.cells.lookup x = some c → X.s₀.heap.objs.size ≤ c
  hd : X.calm = true → X.A.handled = none
  frames : X.A.frames = some X.stack
  stk : X.stack = X.outer ∨ (X.stack = X.env :: X.outer ∧ X.env.frame = some X.env.locals)
  exf : ∀ b ∈ X.ex, b ≠ X.env.locals ∧ ∀ x c, X.env.cells.lookup x = some c → c ≠ b
  bs : ∀ b o, X.base.get? b = some o → X.s₀.heap.get? b = some o ∧ X.H₀ b = none
  bsz : X.base.objs.size ≤ X.s₀.heap.objs.size
  noex : ∀ b o, X.base.get? b = some o → b ∉ X.ex
  exfs : ∀ b ∈ X.ex, b ∉ X.fs
  funs : X.s₀.heap.FunFrames X.base X.outer
  frf : ∀ b ∈ X.fs, X.H₀ b = none

structure Inv (X : Cx) (pins : List (Addr × Obj)) (σ : List (Option V)) (H : Hp) (s : Shared) : Prop where
  ok : X.Ok
  os : s.os = X.s₀.os
  bare : AllBare s.gens
  base : Un X.fs X.ex X.H₀ H X.s₀.heap s.heap
  loc : ∃ m, s.heap.Ns X.env.locals m ∧ ∀ (i : Nat) (x : Str) (v : V), X.N[i]? = some x → σ[i]? = some (some v) → Vis X.env.scope x → ∃ u, RelV v u ∧ Look X.env s.heap m x u
  cell : ∀ x c, X.env.cells.lookup x = some c → ∃ v, s.heap.IsCell c v
  free : H X.env.locals = none
  freeC : ∀ x c, X.env.cells.lookup x = some c → H c = none
  pin : ∀ p ∈ X.pn ++ pins, s.heap.get? p.1 = some p.2 ∧ H p.1 = none ∧ p.1 ≠ X.env.locals ∧ p.1 ∉ X.fs ∧ ∀ v, p.2.data ≠ .cell v
  hok : HOk X.prog X.w H s.heap
  len : σ.length = X.N.length

section
variable {X : Cx} {pins : List (Addr × Obj)} {σ : List (Option V)} {H H' : Hp} {s : Shared} {h' : Heap}

theorem Cx.Ok.nofr (ok : X.Ok) {b : Addr} {o : Obj} (e : X.base.get? b = some o) : b ∉ X.fs := fun hb => by
  have := (ok.funs.mem hb).1
  rw [e] at this; cases this
theorem Inv.bs (I : Inv X pins σ H s) : ∀ b o, X.base.get? b = some o → s.heap.get? b = some o ∧ H b = none := fun b o e =>
  ⟨I.base.keep b o (I.ok.bs b o e).1 (I.ok.bs b o e).2 (I.ok.nofr e) (I.ok.noex b o e), I.base.free b o (I.ok.bs b o e).1 (I.ok.bs b o e).2 (I.ok.noex b o e)⟩
theorem Inv.bk (I : Inv X pins σ H s) : ∀ b o, X.base.get? b = some o → s.heap.get? b = some o := fun b o e => (I.bs b o e).1
theorem Inv.mod (I : Inv X pins σ H s) : Mod X.K X.mg X.base := I.ok.mod
theorem Inv.kIn (I : Inv X pins σ H s) : X.K.In s.heap := I.ok.mod.kin.keeps I.bk
theorem Inv.lt (I : Inv X pins σ H s) : X.env.locals < s.heap.objs.size := let ⟨_, hn, _⟩ := I.loc; hn.lt
theorem Inv.sz (I : Inv X pins σ H s) : X.s₀.heap.objs.size ≤ s.heap.objs.size := Nat.le_trans I.ok.above (Nat.le_of_lt I.lt)
theorem Inv.nofs (I : Inv X pins σ H s) {a : Addr} (h : s.heap.objs.size ≤ a) : a ∉ X.fs := fun hb => by
  obtain ⟨_, o, ho, _⟩ := I.ok.funs.mem hb
  exact absurd (Nat.lt_of_lt_of_le (Heap.lt_size ho) (Nat.le_trans I.sz h)) (Nat.lt_irrefl _)
theorem Inv.cne (I : Inv X pins σ H s) : ∀ x c, X.env.cells.lookup x = some c → c ≠ X.env.locals := fun x c e z => by
  obtain ⟨v, o, ho, hd⟩ := I.cell x c e
  obtain ⟨m, ⟨o', es, ep, ho', hd', _⟩, _⟩ := I.loc
  rw [z, ho'] at ho; cases ho; rw [hd'] at hd; cases hd
theorem Inv.funs (I : Inv X pins σ H s) : s.heap.FunFrames X.base X.outer := by
  have all : ∀ (l : List Env), (∀ b ∈ frs l, b ∈ X.fs) → X.s₀.heap.FunFrames X.base l → s.heap.FunFrames X.base l := by
    intro l
    induction l with
    | nil => intro _ _; trivial
    | cons env r ih =>
      intro hs hl
      obtain ⟨hk, ⟨L, o, hf, hn, ho, hd⟩, hr⟩ := hl
      have hL : L ∈ X.fs := hs L (by unfold frs; rw [List.filterMap_cons, hf]; exact List.mem_cons_self)
      obtain ⟨sl, e⟩ := I.base.slot L o ho (I.ok.frf L hL) hL fun z => I.ok.exfs L z hL
      exact ⟨hk, ⟨L, _, hf, hn, e, hd⟩, ih (fun b hb => hs b (by unfold frs; rw [List.filterMap_cons, hf]; exact List.mem_cons_of_mem _ hb)) hr⟩
  exact all X.outer (fun _ hb => hb) I.ok.funs


theorem Inv.stack (I : Inv X pins σ H s) : s.heap.FunFrames X.base X.stack := by
  rcases I.ok.stk with e | ⟨e, hf⟩
  · rw [e]; exact I.funs
  · rw [e]
    obtain ⟨m, hn, _⟩ := I.loc
    refine .cons (by rw [I.ok.kind]; decide) hf hn ?_ I.funs
    exact Heap.get?_none_of_le (Nat.le_trans I.ok.bsz I.ok.above)
theorem Inv.stkSub (I : Inv X pins σ H s) : ∀ b ∈ frs X.stack, b ∈ X.env.locals :: X.fs := fun b hb => by
  rcases I.ok.stk with e | ⟨e, hf⟩
  · rw [e] at hb; exact List.mem_cons_of_mem _ hb
  · rw [e] at hb
    unfold frs at hb
    rw [List.filterMap_cons, hf] at hb
    exact hb
theorem Inv.stkFree (I : Inv X pins σ H s) : ∀ b ∈ frs X.stack, H b = none := fun b hb => by
  rcases List.mem_cons.mp (I.stkSub b hb) with e | hb
  · rw [e]; exact I.free
  · obtain ⟨_, o, ho, _⟩ := I.ok.funs.mem hb
    exact I.base.free b o ho (I.ok.frf b hb) fun z => I.ok.exfs b z hb


theorem Inv.step {g' : Array GenState} {t' : Nat} {d' : Drawn} {ch : List Addr} (I : Inv X pins σ H s)
    (hch : ∀ b ∈ ch, (b ∈ X.ex ∨ X.s₀.heap.objs.size ≤ b) ∧ b ≠ X.env.locals ∧ (∀ x c, X.env.cells.lookup x = some c → c ≠ b) ∧ ∀ p ∈ X.pn ++ pins, p.1 ≠ b)
    (keep : ∀ b o, b ≠ X.env.locals → b ∉ X.fs → b ∉ ch → s.heap.get? b = some o → H b = none → h'.get? b = some o)
    (slot : ∀ b o, b ≠ X.env.locals → b ∈ X.fs → b ∉ ch → s.heap.get? b = some o → H b = none → ∃ sl, h'.get? b = some { o with slots := sl }) (free : ∀ b o, b ∉ ch → s.heap.get? b = some o → H b = none → H' b = none)
    (there : ∀ b o, b ∉ ch → s.heap.get? b = some o → ∃ o', h'.get? b = some o')
    (tups : ∀ b xs, H b = some (.tup xs) → H' b = some (.tup xs)) (frzs : ∀ b o u, H b = some (.frz o u) → H' b = some (.frz o u)) (tbls : ∀ b ps, H b = some (.tbl ps) → ∃ more, H' b = some (.tbl (ps ++ more)))
    (ns : ∀ m, s.heap.Ns X.env.locals m → h'.Ns X.env.locals m) (hok : HOk X.prog X.w H' h') (hg : AllBare g') :
    Inv X pins σ H' { s with heap := h', gens := g', drawn := d', toks := t' } := by
  have neL : ∀ b o, X.s₀.heap.get? b = some o → b ≠ X.env.locals := fun b o e => Nat.ne_of_lt (Nat.lt_of_lt_of_le (Heap.lt_size e) I.ok.above)
  have neC : ∀ b o, X.s₀.heap.get? b = some o → b ∉ X.ex → b ∉ ch := fun b o e hx hb => by
    rcases (hch b hb).1 with z | z
    · exact hx z
    · exact absurd (Nat.lt_of_lt_of_le (Heap.lt_size e) z) (Nat.lt_irrefl _)
  have cellK : ∀ x c, X.env.cells.lookup x = some c → ∀ v, s.heap.IsCell c v → h'.IsCell c v := fun x c e v ⟨o, ho, hd⟩ => by
    have nch : c ∉ ch := fun z => (hch c z).2.2.1 x c e rfl
    by_cases hc : c ∈ X.fs
    · obtain ⟨sl, q⟩ := slot c o (I.cne x c e) hc nch ho (I.freeC x c e)
      exact ⟨_, q, hd⟩
    · exact ⟨o, keep c o (I.cne x c e) hc nch ho (I.freeC x c e), hd⟩
  refine ⟨I.ok, I.os, hg, ⟨fun b o e n hb hx => ?_, fun b o e n hb hx => ?_, fun b o e n hx => ?_, fun b o e hx => ?_, fun b xs e => tups b xs (I.base.tups b xs e), fun b o xs e => frzs b o xs (I.base.frzs b o xs e), fun b ps e => ?_⟩, ?_, fun x c e => ?_, ?_, fun x c e => ?_, fun p hp => ?_, hok, I.len⟩
  · exact keep b o (neL b o e) hb (neC b o e hx) (I.base.keep b o e n hb hx) (I.base.free b o e n hx)
  · obtain ⟨sl, e1⟩ := I.base.slot b o e n hb hx
    obtain ⟨sl', e2⟩ := slot b _ (neL b o e) hb (neC b o e hx) e1 (I.base.free b o e n hx)
    exact ⟨sl', e2⟩
  · obtain ⟨o', e1⟩ := I.base.there b o e hx
    exact free b o' (neC b o e hx) e1 (I.base.free b o e n hx)
  · obtain ⟨o', e1⟩ := I.base.there b o e hx
    exact there b o' (neC b o e hx) e1
  · obtain ⟨m1, e1⟩ := I.base.tbls b ps e
    obtain ⟨m2, e2⟩ := tbls b _ e1
    exact ⟨m1 ++ m2, by rw [e2, Array.append_assoc]⟩
  · obtain ⟨m, hn, hl⟩ := I.loc
    refine ⟨m, ns m hn, fun i x v e1 e2 e3 => ?_⟩
    obtain ⟨u, r, l⟩ := hl i x v e1 e2 e3
    refine ⟨u, r, ?_⟩
    rcases l with l | ⟨k, c, e, z⟩
    · exact .inl l
    · exact .inr ⟨k, c, e, cellK x c e _ z⟩
  · obtain ⟨v, z⟩ := I.cell x c e
    exact ⟨v, cellK x c e v z⟩
  · obtain ⟨m, ⟨o, _, _, ho, _⟩, _⟩ := I.loc
    exact free _ o (fun z => (hch _ z).2.1 rfl) ho I.free
  · obtain ⟨v, o, ho, hd⟩ := I.cell x c e
    exact free c o (fun z => (hch c z).2.2.1 x c e rfl) ho (I.freeC x c e)
  · obtain ⟨e, n, ne, nf, d⟩ := I.pin p hp
    have nch : p.1 ∉ ch := fun z => (hch p.1 z).2.2.2 p hp rfl
    exact ⟨keep p.1 p.2 ne nf nch e n, free p.1 p.2 nch e n, ne, nf, d⟩

theorem Inv.un {t' : Nat} (I : Inv X pins σ H s) (u : Un X.fs [] H H' s.heap h') (hok : HOk X.prog X.w H' h') : Inv X pins σ H' { s with heap := h', toks := t' } := by
  obtain ⟨m, ⟨o, es, ep, ho, r⟩, _⟩ := id I.loc
  obtain ⟨sl, hL⟩ := u.any ho I.free (by simp)
  exact I.step (g' := s.gens) (d' := s.drawn) (ch := []) (fun _ z => nomatch z) (fun b o _ hb _ e n => u.keep b o e n hb (by simp)) (fun b o _ hb _ e n => u.slot b o e n hb (by simp)) (fun b o _ e n => u.free b o e n (by simp)) (fun b o _ e => u.there b o e (by simp)) u.tups u.frzs u.tbls (fun m' hm => by
    obtain ⟨o', es', ep', ho', r'⟩ := hm
    rw [ho] at ho'; cases ho'
    exact ⟨_, es', ep', hL, r'⟩) hok I.bare

theorem Inv.call {g' : Array GenState} {t' : Nat} {d' : Drawn} {ch : List Addr} (I : Inv X pins σ H s) (u : Un (frs X.stack) ch H H' s.heap h') (hok : HOk X.prog X.w H' h') (hg : AllBare g')
    (hch : ∀ b ∈ ch, (b ∈ X.ex ∨ X.s₀.heap.objs.size ≤ b) ∧ b ≠ X.env.locals ∧ (∀ x c, X.env.cells.lookup x = some c → c ≠ b) ∧ ∀ p ∈ X.pn ++ pins, p.1 ≠ b) :
    Inv X pins σ H' { s with heap := h', gens := g', drawn := d', toks := t' } := by
  obtain ⟨m, ⟨o, es, ep, ho, r⟩, _⟩ := id I.loc
  obtain ⟨sl, hL⟩ := u.any ho I.free fun z => (hch _ z).2.1 rfl
  exact I.step (ch := ch) hch (fun b o hL hb hc e n => u.keep b o e n (fun z => (List.mem_cons.mp (I.stkSub b z)).elim hL hb) hc) (fun b o _ _ hc e n => u.any e n hc) (fun b o hc e n => u.free b o e n hc) (fun b o hc e => u.there b o e hc) u.tups u.frzs u.tbls (fun m' hm => by
    obtain ⟨o', es', ep', ho', r'⟩ := hm
    rw [ho] at ho'; cases ho'
    exact ⟨_, es', ep', hL, r'⟩) hok hg

theorem Inv.turned {t' : Nat} {it : Addr} (I : Inv X pins σ H s) (k : ∀ b o, b ≠ it → s.heap.get? b = some o → h'.get? b = some o) (hn : H it = none) (hL : it ≠ X.env.locals)
    (h1 : it ∈ X.ex ∨ X.s₀.heap.objs.size ≤ it) (h2 : ∀ x c, X.env.cells.lookup x = some c → c ≠ it) (h3 : ∀ p ∈ X.pn ++ pins, p.1 ≠ it) : Inv X pins σ H { s with heap := h', toks := t' } := by
  have nit : ∀ b u, H b = some u → b ≠ it := fun b u e z => by rw [z, hn] at e; cases e
  refine I.step (g' := s.gens) (d' := s.drawn) (ch := [it]) (fun b hb => ?_) (fun b o _ _ hc e _ => k b o (fun z => hc (by simp [z])) e) (fun b o _ _ hc e _ => ⟨o.slots, k b o (fun z => hc (by simp [z])) e⟩) (fun _ _ _ _ n => n)
    (fun b o hc e => ⟨o, k b o (fun z => hc (by simp [z])) e⟩) (fun _ _ e => e) (fun _ _ _ e => e) (fun b ps e => ⟨#[], by rw [e]; simp⟩) (fun m hm => ?_) (fun b u e => ?_) I.bare
  · have e : b = it := by simpa using hb
    subst e
    exact ⟨h1, hL, h2, h3⟩
  · obtain ⟨o, es, ep, ho, r⟩ := hm
    exact ⟨o, es, ep, k _ o (Ne.symm hL) ho, r⟩
  · refine (I.hok b u e).stay (fun c v hc q => k c v ?_ q) (fun _ q => q) fun _ _ q => q
    rcases hc with z | z
    · rw [z]; exact nit b u e
    · exact nit c _ z
theorem Inv.tok (I : Inv X pins σ H s) (t : Nat) : Inv X pins σ H { s with toks := t } := I.un (h' := s.heap) (t' := t) Un.refl I.hok

theorem Inv.kept {t' : Nat} (I : Inv X pins σ H s) (k : ∀ b u, s.heap.get? b = some u → h'.get? b = some u) : Inv X pins σ H { s with heap := h', toks := t' } := I.un (Un.kept k) (I.hok.kept k)

theorem Inv.laid {a : Addr} {o : HO} {t' : Nat} (I : Inv X pins σ H s) (k : ∀ b u, s.heap.get? b = some u → h'.get? b = some u) (hp : s.heap.objs.size ≤ a) (new : ObjOk X.prog X.w (upd H a o) h' a o) :
    Inv X pins σ (upd H a o) { s with heap := h', toks := t' } := I.un (Un.laid k hp (I.hok.fresh hp)) (I.hok.laid k hp new)

theorem Inv.write {x e : Addr} {o : HO} {t' : Nat} (I : Inv X pins σ H s) (mu : Mut (H x)) (he : e = x ∨ H e = some (.own x)) (k : ∀ b u, b ≠ e → s.heap.get? b = some u → h'.get? b = some u) (heo : ∃ u, h'.get? e = some u)
    (new : ObjOk X.prog X.w (upd H x o) h' x o) : Inv X pins σ (upd H x o) { s with heap := h', toks := t' } := I.un (Un.write mu he k heo) (I.hok.write mu he k heo new)

theorem Inv.pins_of {pins' : List (Addr × Obj)} (I : Inv X pins σ H s) (h : ∀ p ∈ pins', s.heap.get? p.1 = some p.2 ∧ H p.1 = none ∧ p.1 ≠ X.env.locals ∧ p.1 ∉ X.fs ∧ ∀ v, p.2.data ≠ .cell v) : Inv X pins' σ H s :=
  ⟨I.ok, I.os, I.bare, I.base, I.loc, I.cell, I.free, I.freeC, fun p hp => (List.mem_append.mp hp).elim (fun z => I.pin p (List.mem_append_left _ z)) (h p), I.hok, I.len⟩

theorem nodup_ix {N : List Str} (hN : N.Nodup) {i j : Nat} {x : Str} (a : N[i]? = some x) (b : N[j]? = some x) : i = j := by
  obtain ⟨h1, e1⟩ := List.getElem?_eq_some_iff.mp a
  obtain ⟨h2, e2⟩ := List.getElem?_eq_some_iff.mp b
  exact (List.getElem_inj hN).mp (e1.trans e2.symm)


theorem store_ok2 {M : Model} {A : Around} {E : Value → Shared → Prop} {i : Nat} {x : Str} {v : V} {u : Value} {Q : Unit → Shared → Prop} (I : Inv X pins σ H s) (hN : X.N.Nodup) (hi : X.N[i]? = some x) (hx : Loc X.env.scope x) (r : RelV v u)
    (h : ∀ s', Inv X pins (σ.set i (some v)) H s' → (∃ a, Heap.SameBut a s.heap s'.heap ∧ (a = X.env.locals ∨ X.env.cells.lookup x = some a)) → Q () s') (hf : X.fn x = true ∨ X.env.scope.names.lookup x = some .local := by first | exact .inl rfl | exact .inr rfl | assumption) : wpAny M A (storeName X.env x u) Q E s := by
  obtain ⟨m, hn, hl⟩ := id I.loc
  have hcls : (X.env.scope.kind == .class || (X.env.scope.kind == .module && X.env.locals != X.env.globals)) = false := by rw [I.ok.kind]; rfl
  have hiσ : i < σ.length := by rw [I.len]; exact (List.getElem?_eq_some_iff.mp hi).1
  have cne := I.cne
  have tracked : ∀ {a : Addr} {h' : Heap}, (∃ o, s.heap.get? a = some o ∧ H a = none) → Heap.SameBut a s.heap h' → HOk X.prog X.w H h' := fun {a h'} ha hs b ob e => by
    obtain ⟨_, _, hfree⟩ := ha
    refine (I.hok b ob e).stay (fun c w' hc q => (hs.2 c ?_).trans q) (fun _ q => q) fun _ _ q => q
    rintro rfl
    rcases hc with rfl | hc
    · rw [hfree] at e; cases e
    · rw [hfree] at hc; cases hc
  rcases hx with hk | hk
  · refine wpAny_storeName_local hk hn (fun h' hn' hs => ?_) hcls
    obtain ⟨oL, _, _, hoL, _⟩ := id hn
    refine h _ ⟨I.ok, I.os, I.bare, ⟨fun b o e n hb hx => ?_, fun b o e n hb hx => ?_, I.base.free, fun b o e hx => ?_, I.base.tups, I.base.frzs, I.base.tbls⟩, ⟨_, hn', fun j y v' e1 e2 e3 => ?_⟩, fun y c e => ?_, I.free, I.freeC, fun p hp => ?_, tracked ⟨oL, hoL, I.free⟩ hs, by simpa using I.len⟩ ⟨_, hs, .inl rfl⟩
    · exact (hs.2 b (Nat.ne_of_lt (Nat.lt_of_lt_of_le (Heap.lt_size e) I.ok.above))).trans (I.base.keep b o e n hb hx)
    · obtain ⟨sl, e1⟩ := I.base.slot b o e n hb hx
      exact ⟨sl, (hs.2 b (Nat.ne_of_lt (Nat.lt_of_lt_of_le (Heap.lt_size e) I.ok.above))).trans e1⟩
    · obtain ⟨o', e1⟩ := I.base.there b o e hx
      exact ⟨o', (hs.2 b (Nat.ne_of_lt (Nat.lt_of_lt_of_le (Heap.lt_size e) I.ok.above))).trans e1⟩
    · by_cases hj : j = i
      · subst hj
        rw [hi] at e1; cases e1
        rw [List.getElem?_set_self hiσ] at e2
        cases e2
        exact ⟨u, r, .inl ⟨hk, by simp⟩⟩
      · rw [List.getElem?_set_ne (Ne.symm hj)] at e2
        obtain ⟨u', r', q⟩ := hl j y v' e1 e2 e3
        refine ⟨u', r', ?_⟩
        rcases q with ⟨k, e⟩ | ⟨k, c, e, z⟩
        · refine .inl ⟨k, ?_⟩
          have : y ≠ x := fun e => hj (nodup_ix hN e1 (e ▸ hi))
          simp [this, e]
        · exact .inr ⟨k, c, e, z.sameBut hs (cne y c e)⟩
    · obtain ⟨w', z⟩ := I.cell y c e
      exact ⟨w', z.sameBut hs (cne y c e)⟩
    · obtain ⟨e, n, ne, nf, d⟩ := I.pin p hp
      exact ⟨(hs.2 p.1 ne).trans e, n, ne, nf, d⟩
  · have hfn : X.fn x = true := by
      rcases hf with z | z
      · exact z
      · rw [z] at hk; cases hk
    obtain ⟨c, hc⟩ := I.ok.has x (.inl hk)
    obtain ⟨w', z⟩ := I.cell x c hc
    refine wpAny_storeName_cell I.ok.kind hk hc z (fun h' hc' hs => ?_)
    obtain ⟨oc, hoc, hocd⟩ := id z
    refine h { s with heap := h' } ⟨I.ok, I.os, I.bare, ⟨fun b o e n hb hx => ?_, fun b o e n hb hx => ?_, I.base.free, fun b o e hx => ?_, I.base.tups, I.base.frzs, I.base.tbls⟩, ⟨m, hn.sameBut hs (Ne.symm (cne x c hc)), fun j y v' e1 e2 e3 => ?_⟩, fun y c' e => ?_, I.free, I.freeC, fun p hp => ?_, tracked ⟨oc, hoc, I.freeC x c hc⟩ hs, by simpa using I.len⟩ ⟨c, hs, .inr hc⟩
    · exact (hs.2 b (Nat.ne_of_lt (Nat.lt_of_lt_of_le (Heap.lt_size e) (I.ok.cab x c hfn hc)))).trans (I.base.keep b o e n hb hx)
    · obtain ⟨sl, e1⟩ := I.base.slot b o e n hb hx
      exact ⟨sl, (hs.2 b (Nat.ne_of_lt (Nat.lt_of_lt_of_le (Heap.lt_size e) (I.ok.cab x c hfn hc)))).trans e1⟩
    · obtain ⟨o', e1⟩ := I.base.there b o e hx
      exact ⟨o', (hs.2 b (Nat.ne_of_lt (Nat.lt_of_lt_of_le (Heap.lt_size e) (I.ok.cab x c hfn hc)))).trans e1⟩
    · by_cases hj : j = i
      · subst hj
        rw [hi] at e1; cases e1
        rw [List.getElem?_set_self hiσ] at e2
        cases e2
        exact ⟨u, r, .inr ⟨.inl hk, c, hc, hc'⟩⟩
      · rw [List.getElem?_set_ne (Ne.symm hj)] at e2
        obtain ⟨u', r', q⟩ := hl j y v' e1 e2 e3
        refine ⟨u', r', ?_⟩
        rcases q with q | ⟨k, c', e, z'⟩
        · exact .inl q
        · refine .inr ⟨k, c', e, z'.sameBut hs ?_⟩
          rintro rfl
          exact hj (nodup_ix hN e1 (I.ok.inj _ _ _ e hc ▸ hi))
    · by_cases hcc : c' = c
      · subst hcc; exact ⟨_, hc'⟩
      · obtain ⟨w2, z2⟩ := I.cell y c' e
        exact ⟨w2, z2.sameBut hs hcc⟩
    · obtain ⟨e, n, ne, nf, d⟩ := I.pin p hp
      refine ⟨(hs.2 p.1 ?_).trans e, n, ne, nf, d⟩
      intro q
      rw [q, hoc] at e
      have q' : oc = p.2 := Option.some.inj e
      exact d w' (by rw [← q']; exact hocd)
theorem store_ok {M : Model} {A : Around} {E : Value → Shared → Prop} {i : Nat} {x : Str} {v : V} {u : Value} {Q : Unit → Shared → Prop} (I : Inv X pins σ H s) (hN : X.N.Nodup) (hi : X.N[i]? = some x) (hx : Loc X.env.scope x) (r : RelV v u)
    (h : ∀ s', Inv X pins (σ.set i (some v)) H s' → Q () s') (hf : X.fn x = true ∨ X.env.scope.names.lookup x = some .local := by first | exact .inl rfl | exact .inr rfl | assumption) : wpAny M A (storeName X.env x u) Q E s :=
  store_ok2 I hN hi hx r (fun s' I' _ => h s' I') hf

theorem Inv.call' {s' : Shared} {ch : List Addr} (I : Inv X pins σ H s) (ho : s'.os = s.os) (u : Un (frs X.stack) ch H H' s.heap s'.heap) (hok : HOk X.prog X.w H' s'.heap) (hg : AllBare s'.gens)
    (hch : ∀ b ∈ ch, (b ∈ X.ex ∨ X.s₀.heap.objs.size ≤ b) ∧ b ≠ X.env.locals ∧ (∀ x c, X.env.cells.lookup x = some c → c ≠ b) ∧ ∀ p ∈ X.pn ++ pins, p.1 ≠ b) : Inv X pins σ H' s' := by
  obtain ⟨h', g', d', t', o'⟩ := s'
  have e : o' = s.os := ho
  subst e
  exact I.call (g' := g') (t' := t') (d' := d') u hok hg hch
end



noncomputable abbrev XK := Value → Option Addr → Hp → Prop
noncomputable abbrev St := List (Option V)
noncomputable abbrev VK := V → Hp → Prop

noncomputable abbrev TE := St → Hp → VK → Prop
noncomputable abbrev TT := St → Hp → (Bool → Hp → Prop) → Prop
noncomputable abbrev TA := St → Hp → (List V → Hp → Prop) → Prop

structure Ends where
  nx : St → Hp → Prop
  rt : VK
  bk : St → Hp → Prop := fun _ _ => False
  ct : St → Hp → Prop := fun _ _ => False
noncomputable abbrev TS := Ends → St → Hp → Prop

noncomputable def EP (X : Cx) (pins : List (Addr × Obj)) (σ : St) (Q : VK) (u : Value) (s' : Shared) : Prop := ∃ v H', Inv X pins σ H' s' ∧ RelV v u ∧ Q v H'
noncomputable def TP (X : Cx) (pins : List (Addr × Obj)) (σ : St) (Q : Bool → Hp → Prop) (b : Bool) (s' : Shared) : Prop := ∃ H', Inv X pins σ H' s' ∧ Q b H'
noncomputable def AP (X : Cx) (pins : List (Addr × Obj)) (σ : St) (Q : List V → Hp → Prop) (us : List Value) (s' : Shared) : Prop := ∃ vs H', Inv X pins σ H' s' ∧ Vals vs us ∧ Q vs H'
noncomputable def SP (X : Cx) (pins : List (Addr × Obj)) (D : Ends) (f : Flow) (s' : Shared) : Prop :=
  match f with
  | .next => ∃ σ' H', Inv X pins σ' H' s' ∧ D.nx σ' H'
  | .brk => ∃ σ' H', Inv X pins σ' H' s' ∧ D.bk σ' H'
  | .cont => ∃ σ' H', Inv X pins σ' H' s' ∧ D.ct σ' H'
  | .ret u => ∃ v σ' H', Inv X pins σ' H' s' ∧ RelV v u ∧ D.rt v H'

noncomputable def PE (X : Cx) (e : Expr) (t : TE) : Prop :=
  ∀ (pins : List (Addr × Obj)) (s : Shared) (σ : St) (H : Hp) (Q : VK), Inv X pins σ H s → t σ H Q → wpAny (model X.prog X.w) X.A (eval e X.env) (EP X pins σ Q) X.xe s
noncomputable def PT (X : Cx) (e : Expr) (t : TT) : Prop :=
  ∀ (pins : List (Addr × Obj)) (s : Shared) (σ : St) (H : Hp) (Q : Bool → Hp → Prop), Inv X pins σ H s → t σ H Q → wpAny (model X.prog X.w) X.A (isTrue e X.env (eval e X.env)) (TP X pins σ Q) X.xe s

noncomputable def PW (X : Cx) (e : Expr) (t : TT) : Prop :=
  ∀ (whole : Sem Value) (pins : List (Addr × Obj)) (s : Shared) (σ : St) (H : Hp) (Q : Bool → Hp → Prop), Inv X pins σ H s → t σ H Q → wpAny (model X.prog X.w) X.A (isTrue e X.env whole) (TP X pins σ Q) X.xe s
theorem PW.pt {X : Cx} {e : Expr} {t : TT} (h : PW X e t) : PT X e t := h _

noncomputable def PA (X : Cx) (es : List Expr) (t : TA) : Prop :=
  ∀ (pos : Pos) (pins : List (Addr × Obj)) (s : Shared) (σ : St) (H : Hp) (Q : List V → Hp → Prop), Inv X pins σ H s → t σ H Q → wpAny (model X.prog X.w) X.A (spliced (backTo pos (starEach es X.env))) (AP X pins σ Q) X.xe s
noncomputable def PS (X : Cx) (st : Stmt) (t : TS) : Prop :=
  ∀ (pins : List (Addr × Obj)) (s : Shared) (σ : St) (H : Hp) (D : Ends), Inv X pins σ H s → t D σ H → wpAny (model X.prog X.w) X.A (exec st X.env) (SP X pins D) X.xe s
noncomputable def PSs (X : Cx) (st : List Stmt) (t : TS) : Prop :=
  ∀ (pins : List (Addr × Obj)) (s : Shared) (σ : St) (H : Hp) (D : Ends), Inv X pins σ H s → t D σ H → wpAny (model X.prog X.w) X.A (execs st X.env) (SP X pins D) X.xe s

theorem thn {α : Type} {t : Sem α} {Q Q' : α → Shared → Prop} {M : Model} {A : Around} {E : Value → Shared → Prop} {s : Shared} (h : wpAny M A t Q E s) (hQ : ∀ a s, Q a s → Q' a s) : wpAny M A t Q' E s := wpAny_mono h hQ fun _ _ x => x
end L2

namespace L2
open PySem PySem.Spec PyProof.Rows
section
variable {X : Cx}


noncomputable def tVar (i : Nat) : TE := fun σ H Q => ∃ v, σ[i]? = some (some v) ∧ Q v H
noncomputable def tC (v : V) : TE := fun _ H Q => Q v H
theorem pe_var {i : Nat} {x : Str} {pos : Pos} (hN : X.N[i]? = some x) (hv : Vis X.env.scope x) (hd : (x == ("__debug__" : Str)) = false := by decide) (hcd : (x == ("__classdict__" : Str)) = false := by decide) : PE X (.Name x pos) (tVar i) := by
  intro pins s σ H Q I h
  obtain ⟨v, e, h⟩ := h
  obtain ⟨m, hn, hl⟩ := I.loc
  obtain ⟨u, r, l⟩ := hl i x v hN e hv
  have fin : EP X pins σ Q u s := ⟨v, H, I, r, h⟩
  rcases l with ⟨hk, hm⟩ | ⟨hk, c, hc, hcell⟩
  · exact wpAny_Name (wpAny_loadName_local I.ok.kind hk hn hm fin) hd
  · rcases hk with hk | hk
    · exact wpAny_Name (wpAny_loadName_cell I.ok.kind hk hc hcell fin) hd
    · exact wpAny_Name (wpAny_loadName_free I.ok.kind hk hc hcell fin hcd) hd
theorem pe_int {i j pos} : PE X (.Constant (.int i) j pos) (tC (.int i)) := fun _ _ _ H _ I h => wpAny_Constant_int ⟨.int i, H, I.tok _, ⟨_, rfl⟩, h⟩
theorem pe_bl {b j pos} : PE X (.Constant (.bool b) j pos) (tC (.bl b)) := fun _ _ _ H _ I h => Constant_bool ⟨.bl b, H, I, rfl, h⟩
theorem pe_non {j pos} : PE X (.Constant .none j pos) (tC .non) := fun _ _ _ H _ I h => Constant_none ⟨.non, H, I, rfl, h⟩
theorem pe_str {x j pos} : PE X (.Constant (.str x) j pos) (tC (.str x)) := fun _ _ _ H _ I h => Calls.Constant_str ⟨.str x, H, I.tok _, ⟨_, rfl⟩, h⟩


noncomputable def Gl (X : Cx) (x : Str) : Prop := X.env.kindOf x = some .globalImplicit
theorem ld_glob {E : Value → Shared → Prop} {pins : List (Addr × Obj)} {s : Shared} {σ : St} {H : Hp} {x : Str} {u : Value} {pos : Pos} {Q : Value → Shared → Prop} (I : Inv X pins σ H s) (hg : Gl X x) (hm : X.mg x = some u) (h : Q u s)
    (hd : (x == ("__debug__" : Str)) = false := by decide) : wpAny (model X.prog X.w) X.A (eval (.Name x pos) X.env) Q E s :=
  Calls.Name_function_global I.ok.kind hg (Calls.loadGlobal_global (by rw [I.ok.glob]; exact I.mod.glob.keeps I.bk) hm h) hd
theorem ld_blt {E : Value → Shared → Prop} {pins : List (Addr × Obj)} {s : Shared} {σ : St} {H : Hp} {x : Str} {u : Value} {pos : Pos} {Q : Value → Shared → Prop} (I : Inv X pins σ H s) (hg : Gl X x) (hm : X.mg x = none) (hv : bootBuiltins x = some u) (h : Q u s)
    (hn : x ≠ "__name__" := by decide) (hd : (x == ("__debug__" : Str)) = false := by decide) : wpAny (model X.prog X.w) X.A (eval (.Name x pos) X.env) Q E s := by
  obtain ⟨mb, h1, h2⟩ := I.mod.blt
  exact Calls.Name_function_global I.ok.kind hg (Calls.loadGlobal_builtin (by rw [I.ok.glob]; exact I.mod.glob.keeps I.bk) hm (by rw [I.ok.blt]; exact h1.keeps I.bk) ((h2 x hn).trans hv) h) hd

theorem pe_glob {x : Str} {v : V} {u : Value} {pos : Pos} (hg : Gl X x) (hm : X.mg x = some u) (r : RelV v u) (hd : (x == ("__debug__" : Str)) = false := by decide) : PE X (.Name x pos) (tC v) :=
  fun _ _ _ H _ I h => ld_glob I hg hm ⟨v, H, I, r, h⟩ hd
theorem pe_bltn {x : Str} {v : V} {u : Value} {pos : Pos} (hg : Gl X x) (hm : X.mg x = none) (hv : bootBuiltins x = some u) (r : RelV v u) (hn : x ≠ "__name__" := by decide) (hd : (x == ("__debug__" : Str)) = false := by decide) : PE X (.Name x pos) (tC v) :=
  fun _ _ _ H _ I h => ld_blt I hg hm hv ⟨v, H, I, r, h⟩ hn hd



variable {a b : Expr} {ta tb : TE} {pos : Pos}
noncomputable def PC (X : Cx) (op : CmpOp) (a b : Expr) (t : TE) : Prop :=
  ∀ (pins : List (Addr × Obj)) (s : Shared) (σ : St) (H : Hp) (Q : VK), Inv X pins σ H s → t σ H Q →
    wpAny (model X.prog X.w) X.A (eval a X.env) (fun v s₁ => wpAny (model X.prog X.w) X.A (eval b X.env) (fun u s₂ => wpAny (model X.prog X.w) X.A (compareOp op v u) (EP X pins σ Q) X.xe s₂) X.xe s₁) X.xe s
noncomputable def tB (t : TE) : TT := fun σ H Q => t σ H fun x H1 => ∃ c, x = .bl c ∧ Q c H1
theorem pt_cmp {op : CmpOp} {t : TE} (h : PC X op a b t) (h1 : behindInMarks op b = false := by first | exact nobehind _ (by decide) (by decide) | rfl) : PT X (.Compare a [op] [b] pos) (tB t) := by
  intro pins s σ H Q I hw
  refine wpAny_isTrue_Compare1 (thn (h pins s σ H _ I hw) fun v s1 h1 => thn h1 fun u s2 h2 => thn h2 fun c s3 hh9 => ?_) h1
  obtain ⟨x, H1, I1, r1, q1⟩ := hh9
  obtain ⟨d, rfl, q⟩ := q1
  cases r1
  exact wpAny_truthy_bool ⟨H1, I1, q⟩

theorem pt_val {e : Expr} {t : TE} (h : PE X e t) (he : ∀ whole, isTrue e X.env whole = (do let v ← whole; standAt e.pos; holding [v] (truthy v)) := by intro _; rfl) : PT X e (tB t) := by
  intro pins s σ H Q I hw
  refine isTrue_plain (thn (h pins s σ H _ I hw) fun v s1 hh9 => ?_) (he _)
  obtain ⟨x, H1, I1, r1, q1⟩ := hh9
  obtain ⟨d, rfl, q⟩ := q1
  cases r1
  exact wpAny_truthy_bool ⟨H1, I1, q⟩


variable {tA tB' : TT} {rest : List Expr}
noncomputable def tAnd (t u : TT) : TT := fun σ H Q => t σ H fun c H1 => if c = true then u σ H1 Q else Q false H1
noncomputable def tOr (t u : TT) : TT := fun σ H Q => t σ H fun c H1 => if c = true then Q true H1 else u σ H1 Q
noncomputable def tNot (t : TT) : TT := fun σ H Q => t σ H fun c H1 => Q (!c) H1
theorem pw_and1 (ha : PT X a tA) : PW X (.BoolOp .And [a] pos) tA := by
  intro wh pins s σ H Q I h
  refine isTrue_and (thn (ha pins s σ H Q I h) fun c s1 e => ?_)
  cases c with
  | true => exact isTrue_and_nil e
  | false => exact e
theorem pw_or1 (ha : PT X a tA) : PW X (.BoolOp .Or [a] pos) tA := by
  intro wh pins s σ H Q I h
  refine isTrue_or (thn (ha pins s σ H Q I h) fun c s1 e => ?_)
  cases c with
  | false => exact isTrue_or_nil e
  | true => exact e
theorem pw_and (ha : PT X a tA) (hb : PW X (.BoolOp .And (b :: rest) pos) tB') : PW X (.BoolOp .And (a :: b :: rest) pos) (tAnd tA tB') := by
  intro wh pins s σ H Q I h
  refine isTrue_and (thn (ha pins s σ H _ I h) fun c s1 hh9 => ?_)
  obtain ⟨H1, I1, q1⟩ := hh9
  cases c with
  | true => exact hb wh pins s1 σ H1 Q I1 q1
  | false => exact ⟨H1, I1, q1⟩
theorem pw_or (ha : PT X a tA) (hb : PW X (.BoolOp .Or (b :: rest) pos) tB') : PW X (.BoolOp .Or (a :: b :: rest) pos) (tOr tA tB') := by
  intro wh pins s σ H Q I h
  refine isTrue_or (thn (ha pins s σ H _ I h) fun c s1 hh9 => ?_)
  obtain ⟨H1, I1, q1⟩ := hh9
  cases c with
  | true => exact ⟨H1, I1, q1⟩
  | false => exact hb wh pins s1 σ H1 Q I1 q1
theorem pt_not (ha : PT X a tA) : PT X (.UnaryOp .Not a pos) (tNot tA) := by
  intro pins s σ H Q I h
  exact isTrue_not (ha pins s σ H (fun c H1 => Q (!c) H1) I h)

noncomputable def tAndV (ta tb : TE) : TE := fun σ H Q => ta σ H fun x H1 => ∃ c, x = .bl c ∧ if c = true then tb σ H1 Q else Q (.bl false) H1
noncomputable def tOrV (ta tb : TE) : TE := fun σ H Q => ta σ H fun x H1 => ∃ c, x = .bl c ∧ if c = true then Q (.bl true) H1 else tb σ H1 Q
noncomputable def tNotV (ta : TE) : TE := fun σ H Q => ta σ H fun x H1 => ∃ c, x = .bl c ∧ Q (.bl (!c)) H1
theorem pe_one {op} {t : TE} (h : PE X a t) : PE X (.BoolOp op [a] pos) t := fun pins s σ H Q I hw => BoolOp_one (h pins s σ H Q I hw)
theorem pe_and (ha : PE X a ta) (hb : PE X (.BoolOp .And (b :: rest) pos) tb) : PE X (.BoolOp .And (a :: b :: rest) pos) (tAndV ta tb) := by
  intro pins s σ H Q I h
  refine BoolOp_and (thn (ha pins s σ H _ I h) fun v s1 hh9 => ?_)
  obtain ⟨x, H1, I1, r1, q1⟩ := hh9
  obtain ⟨c, rfl, q1⟩ := q1
  cases r1
  refine wpAny_truthy_bool ?_
  cases c with
  | true => exact hb pins s1 σ H1 Q I1 q1
  | false => exact ⟨.bl false, H1, I1, rfl, q1⟩
theorem pe_not (ha : PE X a ta) : PE X (.UnaryOp .Not a pos) (tNotV ta) := by
  intro pins s σ H Q I h
  refine UnaryOp_ (thn (ha pins s σ H _ I h) fun v s1 hh9 => ?_)
  obtain ⟨x, H1, I1, r1, q1⟩ := hh9
  obtain ⟨c, rfl, q1⟩ := q1
  cases r1
  exact not_of (wpAny_truthy_bool ⟨.bl (!c), H1, I1, rfl, q1⟩)

noncomputable def tIf (t : TT) (ta tb : TE) : TE := fun σ H Q => t σ H fun c H1 => if c = true then ta σ H1 Q else tb σ H1 Q
end
end L2

namespace L2
open PySem PySem.Spec PyProof.Rows


noncomputable def SqL (K : PySem.W.Frag) (H : Hp) (a : Addr) (xs : List V) : Prop :=
  Rd H a (.lst xs) ∨
    ∃ (o : Obj) (its : Array Value) (n : Nat), K.lookup a = some o ∧ o.cls = .type "list" ∧ o.dict = none ∧ o.data = .seq its n ∧ its.size ≤ sizeLine ∧ Vals xs its.toList
noncomputable def SqT (K : PySem.W.Frag) (H : Hp) (a : Addr) (xs : List V) : Prop :=
  Rd H a (.tup xs) ∨
    ∃ (o : Obj) (its : Array Value) (n : Nat), K.lookup a = some o ∧ o.cls = .type "tuple" ∧ o.data = .seq its n ∧ its.size ≤ sizeLine ∧ Vals xs its.toList
noncomputable def absV : Value → Option V
  | .none => some .non
  | .bool b => some (.bl b)
  | .int i _ => some (.int i)
  | .str x _ => some (.str x)
  | .bytes b _ => some (.byt b)
  | .float b _ => some (.flt b)
  | .ref a => some (.ref a)
  | .type n => some (.ty n)
  | _ => none
theorem RelV.abs {x : V} {u : Value} (r : RelV x u) : absV u = some x := by
  cases x with
  | non => cases r; rfl
  | bl _ => cases r; rfl
  | int _ => obtain ⟨t, rfl⟩ := r; rfl
  | str _ => obtain ⟨t, rfl⟩ := r; rfl
  | byt _ => obtain ⟨t, rfl⟩ := r; rfl
  | flt _ => obtain ⟨t, rfl⟩ := r; rfl
  | ref _ => cases r; rfl
  | ty _ => cases r; rfl
theorem RelV.inj {x y : V} {u : Value} (r : RelV x u) (q : RelV y u) : x = y := Option.some.inj (r.abs.symm.trans q.abs)
theorem Vals.inj {xs ys : List V} {us : List Value} (h : Vals xs us) (h' : Vals ys us) : xs = ys := by
  induction h generalizing ys with
  | nil => cases h'; rfl
  | cons r t ih =>
    cases h' with
    | cons r' t' => rw [r.inj r', ih t']
section
variable {X : Cx} {pins : List (Addr × Obj)} {σ : St} {H : Hp} {s : Shared} {a : Addr} {xs ys : List V}
theorem SqL.of {K : PySem.W.Frag} (h : H a = some (.lst xs)) : SqL K H a xs := .inl (.inl h)
theorem SqT.of {K : PySem.W.Frag} (h : H a = some (.tup xs)) : SqT K H a xs := .inl (.inl h)
theorem Inv.list (I : Inv X pins σ H s) (h : SqL X.K H a xs) : ∃ its : List Value, Vals xs its ∧ PlainL s.heap a its.toArray ∧ xs.length ≤ sizeLine := by
  rcases h with h | ⟨o, its, n, hk, hc, hd, hs, hz, r⟩
  · obtain ⟨z, its, n, r, e⟩ := h.ok I.hok
    exact ⟨its, r, ⟨_, n, e, rfl, rfl, rfl⟩, z⟩
  · refine ⟨its.toList, r, ⟨o, n, I.kIn a o hk, hc, hd, by simpa using hs⟩, ?_⟩
    have e := r.length
    simp only [Array.length_toList] at e
    lia
theorem Inv.tuple (I : Inv X pins σ H s) (h : SqT X.K H a xs) : ∃ its : List Value, Vals xs its ∧ IsTup s.heap a its.toArray ∧ xs.length ≤ sizeLine := by
  rcases h with h | ⟨o, its, n, hk, hc, hs, hz, r⟩
  · obtain ⟨z, its, r, p⟩ := h.ok I.hok
    exact ⟨its, r, p, z⟩
  · refine ⟨its.toList, r, ⟨o, I.kIn a o hk, hc, n, by simpa using hs⟩, ?_⟩
    have e := r.length
    simp only [Array.length_toList] at e
    lia
theorem Inv.list_inj (I : Inv X pins σ H s) (h : SqL X.K H a xs) (h' : SqL X.K H a ys) : xs = ys := by
  obtain ⟨its, r, ⟨o, n, e, _, _, d⟩, _⟩ := I.list h
  obtain ⟨its', r', ⟨o', n', e', _, _, d'⟩, _⟩ := I.list h'
  rw [e] at e'; cases e'
  rw [d] at d'
  injection d' with d1 _
  have : its = its' := by simpa using congrArg Array.toList d1
  subst this
  exact r.inj r'
end


noncomputable abbrev Cx.wish (X : Cx) (E : Value → Shared → Prop) : Cx := { X with xe := E }

noncomputable abbrev Cx.nox (X : Cx) : Cx := X.wish fun _ _ => False
theorem Cx.Ok.wish {X : Cx} (ok : X.Ok) (E : Value → Shared → Prop) : (X.wish E).Ok :=
  ⟨ok.mod, ok.kind, ok.glob, ok.blt, ok.above, ok.inj, ok.has, ok.cab, ok.hd, ok.frames, ok.stk, ok.exf, ok.bs, ok.bsz, ok.noex, ok.exfs, ok.funs, ok.frf⟩
theorem Cx.Ok.unwish {X : Cx} {E : Value → Shared → Prop} (ok : (X.wish E).Ok) : X.Ok :=
  ⟨ok.mod, ok.kind, ok.glob, ok.blt, ok.above, ok.inj, ok.has, ok.cab, ok.hd, ok.frames, ok.stk, ok.exf, ok.bs, ok.bsz, ok.noex, ok.exfs, ok.funs, ok.frf⟩
section
variable {X : Cx} {pins : List (Addr × Obj)} {σ : St} {H : Hp} {s : Shared} {E : Value → Shared → Prop}
theorem Inv.wish (I : Inv X pins σ H s) (E : Value → Shared → Prop) : Inv (X.wish E) pins σ H s := ⟨I.ok.wish E, I.os, I.bare, I.base, I.loc, I.cell, I.free, I.freeC, I.pin, I.hok, I.len⟩
theorem Inv.unwish (I : Inv (X.wish E) pins σ H s) : Inv X pins σ H s := ⟨I.ok.unwish, I.os, I.bare, I.base, I.loc, I.cell, I.free, I.freeC, I.pin, I.hok, I.len⟩
theorem SP.unwish {D : Ends} {f : Flow} {s' : Shared} (h : SP (X.wish E) pins D f s') : SP X pins D f s' := by
  cases f with
  | next => obtain ⟨σ', H', I, q⟩ := h; exact ⟨σ', H', I.unwish, q⟩
  | brk => obtain ⟨σ', H', I, q⟩ := h; exact ⟨σ', H', I.unwish, q⟩
  | cont => obtain ⟨σ', H', I, q⟩ := h; exact ⟨σ', H', I.unwish, q⟩
  | ret u => obtain ⟨v, σ', H', I, r, q⟩ := h; exact ⟨v, σ', H', I.unwish, r, q⟩
theorem PSs.nox {st : List Stmt} {t : TS} (h : PSs X.nox st t) : PSs X st t := fun pins s σ H D I hw =>
  wpAny_mono (h pins s σ H D (I.wish _) hw) (fun _ _ q => q.unwish) fun _ _ z => False.elim z
end


section
variable {X : Cx} {st : Stmt} {rest : List Stmt} {t u : TS} {e : Expr} {te : TE} {pos : Pos}
noncomputable def tNext : TS := fun D σ H => D.nx σ H
noncomputable def tSeq (t u : TS) : TS := fun D σ H => t { D with nx := u D } σ H
theorem pss_nil : PSs X [] tNext := fun _ _ σ H _ I h => wpAny_execs_nil ⟨σ, H, I, h⟩
theorem pss_cons (h1 : PS X st t) (h2 : PSs X rest u) : PSs X (st :: rest) (tSeq t u) := by
  intro pins s σ H D I h
  refine wpAny_execs_cons (thn (h1 pins s σ H { D with nx := u D } I h) fun f s1 q => ?_)
  cases f with
  | next =>
    obtain ⟨σ', H', I', q⟩ := q
    exact h2 pins s1 σ' H' D I' q
  | ret v => exact q
  | brk => exact q
  | cont => exact q
theorem pss_one (h1 : PS X st t) : PSs X [st] t := by
  intro pins s σ H D I h
  refine wpAny_execs_cons (thn (h1 pins s σ H D I h) fun f s1 q => ?_)
  cases f with
  | next => exact wpAny_execs_nil q
  | ret v => exact q
  | brk => exact q
  | cont => exact q
theorem Inv.quiet {pins : List (Addr × Obj)} {σ : St} {H : Hp} {s : Shared} (I : Inv X pins σ H s) : interactive X.env = false := by simp [interactive, I.ok.kind]

noncomputable def tDrop (te : TE) : TS := fun D σ H => te σ H fun _ H1 => D.nx σ H1
theorem ps_expr (he : PE X e te) (hs : swapsWith e none pos.line X.env = pure false := by rfl) : PS X (.Expr e pos) (tDrop te) := by
  intro pins s σ H D I h
  exact wpAny_Expr_any (thn (he pins s σ H _ I h) fun v s1 hh9 => by obtain ⟨x, H1, I1, r1, q1⟩ := hh9; exact ⟨σ, H1, I1, q1⟩) I.quiet hs
noncomputable def tRet (te : TE) : TS := fun D σ H => te σ H D.rt
theorem ps_ret (he : PE X e te) : PS X (.Return (some e) pos) (tRet te) := by
  intro pins s σ H D I h
  exact wpAny_Return_some (thn (he pins s σ H _ I h) fun v s1 hh9 => by obtain ⟨x, H1, I1, r1, q1⟩ := hh9; exact ⟨x, σ, H1, I1, r1, q1⟩)
noncomputable def tRetN : TS := fun D _ H => D.rt .non H
theorem ps_retN : PS X (.Return none pos) tRetN := fun _ _ σ H _ I h => wpAny_Return_none ⟨.non, σ, H, I, rfl, h⟩
noncomputable def tIfS (c : TT) (t u : TS) : TS := fun D σ H => c σ H fun b H1 => if b = true then t D σ H1 else u D σ H1
theorem ps_if {c : Expr} {a b : List Stmt} {tc : TT} (hc : PT X c tc) (ha : PSs X a t) (hb : PSs X b u) : PS X (.If c a b pos) (tIfS tc t u) := by
  intro pins s σ H D I h
  refine wpAny_If (thn (hc pins s σ H _ I h) fun d s1 hh9 => ?_)
  obtain ⟨H1, I1, q1⟩ := hh9
  cases d with
  | true => exact ha pins s1 σ H1 D I1 q1
  | false => exact hb pins s1 σ H1 D I1 q1

noncomputable def tNever : TS := fun _ _ _ => False
theorem ps_never : PS X st tNever := fun _ _ _ _ _ _ h => h.elim
end


noncomputable abbrev TG := V → St → Hp → (St → Hp → Prop) → Prop
noncomputable abbrev TGs := List V → St → Hp → (St → Hp → Prop) → Prop
noncomputable def PG (X : Cx) (target : Expr) (t : TG) : Prop :=
  ∀ (pins : List (Addr × Obj)) (s : Shared) (σ : St) (H : Hp) (v : V) (u : Value) (Q : St → Hp → Prop), Inv X pins σ H s → RelV v u → t v σ H Q →
    wpAny (model X.prog X.w) X.A (assign target X.env u) (fun _ s' => ∃ σ' H', Inv X pins σ' H' s' ∧ Q σ' H') X.xe s

noncomputable def PGs (X : Cx) (ts : List Expr) (t : TGs) : Prop :=
  ∀ (pins : List (Addr × Obj)) (s : Shared) (σ : St) (H : Hp) (vs : List V) (us : List Value) (Q : St → Hp → Prop), Inv X pins σ H s → Vals vs us → t vs σ H Q →
    wpAny (model X.prog X.w) X.A (assignInOrder ((assignEach ts X.env).map (·.2)) us) (fun _ s' => ∃ σ' H', Inv X pins σ' H' s' ∧ Q σ' H') X.xe s

noncomputable abbrev TSet := V → V → V → Hp → (Hp → Prop) → Prop
noncomputable def PSet (X : Cx) (t : TSet) : Prop :=
  ∀ (pins : List (Addr × Obj)) (s : Shared) (σ : St) (H : Hp) (o i v : V) (ov iv u : Value) (Q : Hp → Prop), Inv X pins σ H s → RelV o ov → RelV i iv → RelV v u → t o i v H Q →
    wpAny (model X.prog X.w) X.A (setItem ov iv u) (fun _ s' => ∃ H', Inv X pins σ H' s' ∧ Q H') X.xe s

section
variable {X : Cx} {pos : Pos}
noncomputable def gName (i : Nat) : TG := fun v σ H Q => Q (σ.set i (some v)) H
theorem pg_name {i : Nat} {x : Str} (hN : X.N.Nodup) (hi : X.N[i]? = some x) (hx : Loc X.env.scope x) (hf : X.fn x = true ∨ X.env.scope.names.lookup x = some .local := by first | exact .inl rfl | exact .inr rfl | assumption) : PG X (.Name x pos) (gName i) := by
  intro pins s σ H v u Q I r h
  exact wpAny_assign_Name (store_ok I hN hi hx r (fun s' I' => ⟨_, H, I', h⟩) hf)
noncomputable def gNil : TGs := fun vs σ H Q => vs = [] ∧ Q σ H
noncomputable def gCons (t : TG) (u : TGs) : TGs := fun vs σ H Q => ∃ v r, vs = v :: r ∧ t v σ H fun σ' H' => u r σ' H' Q
theorem pgs_nil : PGs X [] gNil := by
  intro pins s σ H vs us Q I r h
  obtain ⟨e, h⟩ := h
  subst e
  cases r
  exact assignInOrder_nil ⟨σ, H, I, h⟩
theorem pgs_cons {e : Expr} {es : List Expr} {t : TG} {u : TGs} (h1 : PG X e t) (h2 : PGs X es u)
    (hs : (assignEach (e :: es) X.env).map (·.2) = assign e X.env :: (assignEach es X.env).map (·.2) := by rfl) : PGs X (e :: es) (gCons t u) := by
  intro pins s σ H vs us Q I r h
  obtain ⟨v, vr, e1, h⟩ := h
  subst e1
  cases r with
  | cons r rr =>
    rw [hs]
    refine assignInOrder_cons (thn (h1 pins s σ H _ _ _ I r h) fun _ s1 hh9 => ?_)
    obtain ⟨σ1, H1, I1, q1⟩ := hh9
    exact h2 pins s1 σ1 H1 _ _ Q I1 rr q1

noncomputable def gTup (K : PySem.W.Frag) (n : Nat) (t : TGs) : TG := fun v σ H Q => ∃ a xs, v = .ref a ∧ SqT K H a xs ∧ xs.length = n ∧ t xs σ H Q
theorem pg_tup {es : List Expr} {k : Nat} {t : TGs} {n : Nat} (hc : X.calm = true) (h : PGs X es t)
    (hn : (assignEach es X.env).length = n := by rfl) (hst : (assignEach es X.env).findIdx? (·.1) = none := by rfl) : PG X (.Tuple es k pos) (gTup X.K n t) := by
  intro pins s σ H v u Q I r hw
  obtain ⟨a, xs, e1, hq, hl, hw⟩ := hw
  subst e1
  cases r
  obtain ⟨its, rv, ht, hz⟩ := I.tuple hq
  refine assign_Tuple_tuple (I.ok.hd hc) ht (by simp [hn, ← hl, rv.length]) hst fun h' hx => ?_
  have I1 : Inv X pins σ H { s with heap := h' } := I.kept (t' := s.toks) fun b o e => hx b o (Nat.ne_of_lt (Heap.lt_size e)) e
  exact h pins _ σ H xs _ Q I1 (by simpa using rv) hw

noncomputable def gSub (to ti : TE) (t : TSet) : TG := fun v σ H Q => to σ H fun o H1 => ti σ H1 fun i H2 => t o i v H2 fun H3 => Q σ H3
theorem pg_sub {o i : Expr} {to ti : TE} {t : TSet} (ho : PE X o to) (hi : PE X i ti) (hs : PSet X t)
    (ha : ∀ v, assign (.Subscript o i pos) X.env v = (do
      let ov ← holding [v] (eval o X.env)
      let iv ← holding [v, ov] (eval i X.env)
      standAt pos
      holding [v, ov, iv] (setItem ov iv v)
      release [v, ov, iv] []) := by intro _; rfl) : PG X (.Subscript o i pos) (gSub to ti t) := by
  intro pins s σ H v u Q I r h
  rw [ha]
  refine wpAny_bind (wpAny_holding (thn (ho pins s σ H _ I h) fun ov s1 hh9 => ?_))
  obtain ⟨x, H1, I1, r1, q1⟩ := hh9
  refine wpAny_bind (wpAny_holding (thn (hi pins s1 σ H1 _ I1 q1) fun iv s2 hh9 => ?_))
  obtain ⟨y, H2, I2, r2, q2⟩ := hh9
  refine wpAny_bind (wpAny_standAt (wpAny_bind (wpAny_holding (thn (hs pins s2 σ H2 x y v ov iv u _ I2 r1 r2 r q2) fun _ s3 hh9 => ?_))))
  obtain ⟨H3, I3, q3⟩ := hh9
  exact wpAny_release ⟨σ, H3, I3, q3⟩

noncomputable def tAsg (te : TE) (g : TG) : TS := fun D σ H => te σ H fun x H1 => g x σ H1 D.nx
theorem ps_asg {tg e : Expr} {te : TE} {g : TG} (he : PE X e te) (hg : PG X tg g) (hs : swapsWithSole [tg] e pos.line X.env = pure false := by rfl) (hw : swappedStores [tg] e X.env = pure none := by rfl)
    (h1 : (assignEach [tg] X.env).map (·.2) = [assign tg X.env] := by rfl) : PS X (.Assign [tg] e pos) (tAsg te g) := by
  intro pins s σ H D I h
  refine wpAny_Assign_stores (thn (he pins s σ H _ I h) fun v s1 hh9 => ?_) hs hw
  obtain ⟨x, H1, I1, r1, q1⟩ := hh9
  rw [h1]
  exact thn (hg pins s1 σ H1 x v _ I1 r1 q1) fun _ s2 q => q

theorem ps_set {i : Nat} {x : Str} {e : Expr} {te : TE} {pos' : Pos} (hN : X.N.Nodup) (hi : X.N[i]? = some x) (hx : Loc X.env.scope x) (he : PE X e te) (hs : swapsWith e (some (.Name x pos')) pos.line X.env = pure false := by rfl) (hf : X.fn x = true ∨ X.env.scope.names.lookup x = some .local := by first | exact .inl rfl | exact .inr rfl | assumption) :
    PS X (.Assign [.Name x pos'] e pos) (tAsg te (gName i)) := by
  intro pins s σ H D I h
  refine wpAny_Assign_Name (thn (he pins s σ H _ I h) fun v s1 hh9 => ?_) hs
  obtain ⟨y, H1, I1, r1, q1⟩ := hh9
  exact store_ok I1 hN hi hx r1 (fun s2 I2 => ⟨_, H1, I2, q1⟩) hf

end


section
variable {X : Cx} {pos : Pos}

noncomputable def tWhile (c : TT) (tb : TS) : TS := fun D σ H => ∃ W : Nat → St → Hp → Prop, (∃ m, W m σ H) ∧ ∀ m σ H, W m σ H →
  c σ H fun b H1 => if b = true then ∃ N : St → Hp → Prop, (∀ σ' H', N σ' H' → ∃ m', m' < m ∧ W m' σ' H') ∧ tb { D with nx := N, ct := N, bk := D.nx } σ H1 else D.nx σ H1
theorem ps_while {c : Expr} {body : List Stmt} {tc : TT} {tb : TS} (hp : PassesOwn (model X.prog X.w) X.A X.env X.xe) (hc : PT X c tc) (hb : PSs X body tb) : PS X (.While c body [] pos) (tWhile tc tb) := by
  intro pins s σ H D I h
  obtain ⟨W, ⟨m0, w0⟩, turn⟩ := h
  refine wpAny_While (codeAny_whileLoop (fun n s' => ∃ σ' H', Inv X pins σ' H' s' ∧ W n σ' H') ?_ m0 ⟨σ, H, I, w0⟩)
  rintro n s1 ⟨σ1, H1, I1, w1⟩
  refine wpAny_passesOwn hp (thn (hc pins s1 σ1 H1 _ I1 (turn n σ1 H1 w1)) fun b s2 hh9 => ?_)
  obtain ⟨H2, I2, q2⟩ := hh9
  cases b with
  | true =>
    obtain ⟨N, hN, q2⟩ := q2
    rw [if_pos rfl]
    refine wpAny_passesOwn hp (thn (hb pins s2 σ1 H2 _ I2 q2) fun f s3 q3 => ?_)
    cases f with
    | next =>
      obtain ⟨σ3, H3, I3, n3⟩ := q3
      obtain ⟨m', hm, w3⟩ := hN σ3 H3 n3
      exact ⟨m', hm, σ3, H3, I3, w3⟩
    | cont =>
      obtain ⟨σ3, H3, I3, n3⟩ := q3
      obtain ⟨m', hm, w3⟩ := hN σ3 H3 n3
      exact ⟨m', hm, σ3, H3, I3, w3⟩
    | brk => exact q3
    | ret v => exact q3
  | false =>
    rw [if_neg Bool.false_ne_true]
    exact wpAny_execs_nil ⟨σ1, H2, I2, q2⟩
end



structure It where
  go : Nat → Hp → Prop
  yld : Nat → Hp → V → Hp → Prop
  stop : Nat → Hp → Prop

noncomputable def FpOk (X : Cx) (pins : List (Addr × Obj)) (H : Hp) (b : Addr) : Prop :=
  H b = none ∧ b ≠ X.env.locals ∧ b ∉ X.fs ∧ (b ∈ X.ex ∨ X.s₀.heap.objs.size ≤ b) ∧ (∀ x c, X.env.cells.lookup x = some c → c ≠ b) ∧ ∀ p ∈ X.pn ++ pins, p.1 ≠ b
theorem Inv.fpOk {X : Cx} {pins : List (Addr × Obj)} {σ : St} {H H' : Hp} {s : Shared} {b : Addr} (I : Inv X pins σ H s) (hb : s.heap.objs.size ≤ b) (hn : H' b = none) : FpOk X pins H' b := by
  refine ⟨hn, Nat.ne_of_gt (Nat.lt_of_lt_of_le I.lt hb), I.nofs hb, .inr (Nat.le_trans I.sz hb), fun x c e z => ?_, fun p hp z => ?_⟩
  · obtain ⟨v, q⟩ := I.cell x c e
    exact absurd (Nat.lt_of_lt_of_le q.lt (by rw [z]; exact hb)) (Nat.lt_irrefl _)
  · exact absurd (Nat.lt_of_lt_of_le (Heap.lt_size (I.pin p hp).1) (by rw [z]; exact hb)) (Nat.lt_irrefl _)
structure Turn (P : Program) (w : World) (K : PySem.W.Frag) (tg : Expr) (J : It) (fp : List Addr) (it : Addr) (tn : Nat → Heap → Prop) : Prop where
  mem : it ∈ fp
  obj : ∀ i h, tn i h → ∀ b ∈ fp, ∃ o, h.get? b = some o ∧ ∀ v, o.data ≠ .cell v
  keep : ∀ i h h', tn i h → (∀ b ∈ fp, ∀ o, h.get? b = some o → h'.get? b = some o) → tn i h'
  item : ∀ (X : Cx), X.prog = P → X.w = w → X.K = K → X.calm = true → ∀ (i : Nat) (pins : List (Addr × Obj)) (s : Shared) (σ : St) (H : Hp) (E : Value → Shared → Prop), Inv X pins σ H s → (∀ b ∈ fp, FpOk X pins H b) → tn i s.heap → J.go i H →
    wpAny (model P w) X.A (pyNext (.ref it)) (fun r s1 => ∃ u, r = some u ∧
      wpAny (model P w) X.A (letOwnedTupleGo tg (.ref it) u) (fun _ s2 => ∃ x H', Inv X pins σ H' s2 ∧ RelV x u ∧ J.yld i H x H' ∧ tn (i + 1) s2.heap ∧ ∀ b ∈ fp, H' b = none) E s1) E s
  done : ∀ (X : Cx), X.prog = P → X.w = w → X.K = K → X.calm = true → ∀ (i : Nat) (pins : List (Addr × Obj)) (s : Shared) (σ : St) (H : Hp) (E : Value → Shared → Prop), Inv X pins σ H s → (∀ b ∈ fp, FpOk X pins H b) → tn i s.heap → J.stop i H →
    wpAny (model P w) X.A (pyNext (.ref it)) (fun r s1 => r = none ∧ Inv X pins σ H s1) E s
  self : ∀ (A : Around) (i : Nat) (s : Shared) (Q : Value → Shared → Prop) (E : Value → Shared → Prop), tn i s.heap → Q (.ref it) s → wpAny (model P w) A (pyIter (.ref it)) Q E s
noncomputable abbrev TI := St → Hp → (It → Hp → Prop) → Prop

noncomputable def PIE (X : Cx) (pins : List (Addr × Obj)) (σ : St) (tg : Expr) (R : It → Hp → Prop) (itv : Value) (s2 : Shared) : Prop :=
  ∃ (it : Addr) (fp : List Addr) (tn : Nat → Heap → Prop) (J : It) (H' : Hp), itv = .ref it ∧ Inv X pins σ H' s2 ∧ Turn X.prog X.w X.K tg J fp it tn ∧ tn 0 s2.heap ∧ (∀ b ∈ fp, FpOk X pins H' b) ∧ R J H'
noncomputable def PI (X : Cx) (tg iter : Expr) (wi : TI) : Prop :=
  ∀ (pins : List (Addr × Obj)) (s : Shared) (σ : St) (H : Hp) (R : It → Hp → Prop), Inv X pins σ H s → wi σ H R →
    wpAny (model X.prog X.w) X.A (eval iter X.env) (fun v s1 => wpAny (model X.prog X.w) X.A (pyIter v) (PIE X pins σ tg R) X.xe s1) X.xe s


theorem go_of {M : Model} {A : Around} {E : Value → Shared → Prop} {s : Shared} {tg : Expr} {it : Addr} {u : Value} {o : Obj} {n : String} {vs : Array Value} {Q : Unit → Shared → Prop} (ho : s.heap.get? it = some o) (hc : o.cls = .type n) (hd : o.data = .fields vs)
    (hn : ["enumerate", "zip", "dict_itemiterator", "dict_reverseitemiterator", "odict_iterator", "itertools.zip_longest", "itertools.pairwise"].contains n = false) (hQ : Q () s) : wpAny M A (letOwnedTupleGo tg (.ref it) u) Q E s := by
  unfold letOwnedTupleGo
  cases tg <;> first
    | exact wpAny_pure hQ
    | (cases u <;> first
        | exact wpAny_pure hQ
        | (refine wpAny_bind (wpAny_load ho ?_)
           rw [hc, hd]
           show wpAny M A (if (["enumerate", "zip", "dict_itemiterator", "dict_reverseitemiterator", "odict_iterator", "itertools.zip_longest", "itertools.pairwise"].contains n && vs[0]? == some (rawInt _)) = true then _ else _) Q E s
           rw [if_neg (by intro h; rw [hn, Bool.false_and] at h; cases h)]
           exact wpAny_pure hQ))


noncomputable def Itl (K : PySem.W.Frag) (a : Addr) : It :=
  ⟨fun i H => ∃ xs x, SqL K H a xs ∧ xs[i]? = some x, fun i H x H' => H' = H ∧ ∀ xs, SqL K H a xs → xs[i]? = some x, fun i H => ∃ xs, SqL K H a xs ∧ xs.length ≤ i⟩
noncomputable def Itr (lo : Int) (n : Nat) : It := ⟨fun i _ => i < n, fun i H x H' => H' = H ∧ x = .int (lo + i), fun i _ => n ≤ i⟩
theorem turn_list {P : Program} {w : World} {K : PySem.W.Frag} {tg : Expr} (a it : Addr) : Turn P w K tg (Itl K a) [it] it (fun i h => h.IsListIter it a i) where
  mem := by simp
  obj := fun i h st b hb => by
    have e : b = it := by simpa using hb
    subst e
    obtain ⟨o, e, c, d⟩ := st
    exact ⟨o, e, fun v z => by rw [d] at z; cases z⟩
  keep := fun i h h' st k => st.at fun o e => k it (by simp) o e
  item := by
    intro X hP hw hK hc i pins s σ H E I hf st hg
    subst hP hw hK
    obtain ⟨xs, x, hq, hx⟩ := hg
    obtain ⟨its, rv, p, hz⟩ := I.list hq
    obtain ⟨u, hu, ru⟩ := rv.get hx
    obtain ⟨f0, f1, f2, f3, f4, f5⟩ := hf it (by simp)
    refine wpAny_pyNext_list_item st p.isList (x := u) (by simpa using hu) fun h' st' sb => ?_
    have I1 : Inv X pins σ H { s with heap := h' } := I.turned (t' := s.toks) (fun b o hb e => (sb.2 b hb).trans e) f0 f1 f3 f4 f5
    obtain ⟨o, e, c, d⟩ := id st'
    exact ⟨u, rfl, go_of (s := { s with heap := h' }) e c d (by decide) ⟨x, H, I1, ru, ⟨rfl, fun ys hy => by rw [I.list_inj hy hq]; exact hx⟩, st', fun b hb => (hf b hb).1⟩⟩
  done := by
    intro X hP hw hK hc i pins s σ H E I hf st hg
    subst hP hw hK
    obtain ⟨xs, hq, hx⟩ := hg
    obtain ⟨its, rv, p, hz⟩ := I.list hq
    obtain ⟨f0, f1, f2, f3, f4, f5⟩ := hf it (by simp)
    have hl := rv.length
    exact wpAny_pyNext_list_end (I.ok.hd hc) st p.isList (by simp; lia) fun h' eb => ⟨rfl, I.turned (t' := s.toks) (fun b o hb e => eb b o hb e) f0 f1 f3 f4 f5⟩
  self := fun _ _ _ _ _ st h => wpAny_pyIter_listiter st h
theorem turn_range {P : Program} {w : World} {K : PySem.W.Frag} {tg : Expr} (it : Addr) (lo : Int) (n : Nat) : Turn P w K tg (Itr lo n) [it] it (fun i h => IsRangeIter h it (lo + (i : Nat) * 1) ((n : Int) - (i : Nat)) 1) where
  mem := by simp
  obj := fun i h st b hb => by
    have e : b = it := by simpa using hb
    subst e
    exact ⟨_, st, fun v z => by
      have z' : Data.fields _ = Data.cell v := z
      cases z'⟩
  keep := fun i h h' st k => k it (by simp) _ st
  item := by
    intro X hP hw hK hc i pins s σ H E I hf st hg
    subst hP hw hK
    obtain ⟨f0, f1, f2, f3, f4, f5⟩ := hf it (by simp)
    have W := Walks.range (prog := X.prog) (w := X.w) (I.ok.hd hc) it lo 1 n
    refine W.item i s _ _ hg st fun v h' tk hv st' kk => ?_
    obtain ⟨t, rfl⟩ := hv
    have I1 : Inv X pins σ H { s with heap := h', toks := tk } := I.turned (fun b o hb e => kk b o (by simpa using hb) e) f0 f1 f3 f4 f5
    refine ⟨_, rfl, go_of (s := { s with heap := h', toks := tk }) (n := "range_iterator") st' rfl rfl (by decide) ⟨.int (lo + i), H, I1, ⟨t, ?_⟩, ⟨rfl, rfl⟩, st', fun b hb => (hf b hb).1⟩⟩
    rw [Int.mul_one]
  done := by
    intro X hP hw hK hc i pins s σ H E I hf st hg
    subst hP hw hK
    obtain ⟨f0, f1, f2, f3, f4, f5⟩ := hf it (by simp)
    exact wpAny_pyNext_range_end (I.ok.hd hc) st (by have : n ≤ i := hg; lia) fun h' eb => ⟨rfl, I.turned (t' := s.toks) (fun b o hb e => eb b o hb e) f0 f1 f3 f4 f5⟩
  self := fun _ _ _ _ _ st h => wpAny_pyIter_rangeiter st h
end L2

namespace L2
open PySem PySem.Spec PyProof.Rows
section
variable {X : Cx} {tg : Expr}
noncomputable def iList (K : PySem.W.Frag) (tl : TE) : TI := fun σ H R => tl σ H fun x H1 => ∃ a, x = .ref a ∧ (∃ xs, SqL K H1 a xs) ∧ R (Itl K a) H1
theorem pi_list {l : Expr} {tl : TE} (hl : PE X l tl) : PI X tg l (iList X.K tl) := by
  intro pins s σ H R I h
  refine thn (hl pins s σ H _ I h) fun v s1 hh9 => ?_
  obtain ⟨x, H1, I1, r1, q1⟩ := hh9
  obtain ⟨a, e, ⟨xs, hq⟩, q⟩ := q1
  subst e
  cases r1
  obtain ⟨its, rv, p, hz⟩ := I1.list hq
  refine wpAny_pyIter_list p.isList ?_
  refine ⟨s1.heap.objs.size, [s1.heap.objs.size], _, _, H1, rfl, I1.kept (t' := s1.toks) fun b o e => Heap.get?_push_of_some _ e, turn_list a _, ⟨_, Heap.get?_push_size _ rfl, rfl, rfl⟩, fun b hb => ?_, q⟩
  have e : b = s1.heap.objs.size := by simpa using hb
  subst e
  exact I1.fpOk (Nat.le_refl _) (I1.hok.fresh (Nat.le_refl _))
theorem range_it {pins : List (Addr × Obj)} {σ : St} {H : Hp} {s : Shared} {R : It → Hp → Prop} {E : Value → Shared → Prop} {lo hi : Int} {t u v : Tok} {tk : Nat} (I : Inv X pins σ H s) (h1 : -(2 ^ 62) ≤ lo) (h2 : lo < 2 ^ 62) (h3 : -(2 ^ 62) ≤ hi) (h4 : hi < 2 ^ 62)
    (q : R (Itr lo (hi - lo).toNat) H) : wpAny (model X.prog X.w) X.A (pyIter (.ref s.heap.objs.size)) (PIE X pins σ tg R) E { s with heap := s.heap.push { cls := .type "range", data := .fields #[.int lo t, .int hi u, .int 1 v] }, toks := tk } := by
  refine wpAny_pyIter_range (IsRange.new ..) (small_one h1 h2 h3 h4) ?_
  have I1 : Inv X pins σ H { s with heap := s.heap.push { cls := .type "range", data := .fields #[.int lo t, .int hi u, .int 1 v] }, toks := tk } := I.kept fun b o e => Heap.get?_push_of_some _ e
  refine ⟨(s.heap.push { cls := .type "range", data := .fields #[.int lo t, .int hi u, .int 1 v] }).objs.size, [(s.heap.push { cls := .type "range", data := .fields #[.int lo t, .int hi u, .int 1 v] }).objs.size], _, _, H, rfl,
    I1.kept (t' := tk) fun b o e => Heap.get?_push_of_some _ e, turn_range _ lo (hi - lo).toNat, ?_, fun b hb => ?_, q⟩
  · have e1 : lo + ((0 : Nat) : Int) * 1 = lo := by simp
    have e2 : (((hi - lo).toNat : Nat) : Int) - ((0 : Nat) : Int) = Builtin.Range.rangeSize lo hi 1 := by rw [rangeSize_one]; split <;> lia
    show IsRangeIter _ _ (lo + ((0 : Nat) : Int) * 1) ((((hi - lo).toNat : Nat) : Int) - ((0 : Nat) : Int)) 1
    rw [e1, e2]
    exact Heap.get?_push_size _ rfl
  · have e : b = (s.heap.push { cls := .type "range", data := .fields #[.int lo t, .int hi u, .int 1 v] }).objs.size := by simpa using hb
    subst e
    exact I1.fpOk (Nat.le_refl _) (I1.hok.fresh (Nat.le_refl _))
noncomputable def iRng1 (ta : TA) : TI := fun σ H R => ta σ H fun vs H1 => ∃ j : Int, vs = [.int j] ∧ -(2 ^ 62) ≤ j ∧ j < 2 ^ 62 ∧ R (Itr 0 j.toNat) H1
noncomputable def iRng2 (ta : TA) : TI := fun σ H R => ta σ H fun vs H1 => ∃ i j : Int, vs = [.int i, .int j] ∧ (-(2 ^ 62) ≤ i ∧ i < 2 ^ 62 ∧ -(2 ^ 62) ≤ j ∧ j < 2 ^ 62) ∧ R (Itr i (j - i).toNat) H1
theorem pi_range1 {a : Expr} {ta : TA} {p pos : Pos} (hg : Gl X "range") (hm : X.mg "range" = none) (ha : PA X [a] ta) (hs : starEach [a] X.env = [(false, eval a X.env)] := by rfl) : PI X tg (.Call (.Name "range" p) [a] [] pos) (iRng1 ta) := by
  intro pins s σ H R I h
  refine Call_ (ld_blt I hg hm boot_range (PyProof.Rows.callWith_type1 (thn (ha pos pins s σ H _ I h) fun us s1 hh9 => ?_) hs rfl))
  obtain ⟨vs, H1, I1, r1, q1⟩ := hh9
  obtain ⟨j, e, q1, q2, q⟩ := q1
  subst e
  cases r1 with
  | cons r rr =>
    cases rr
    obtain ⟨t, rfl⟩ := r
    exact call_range_1 (range_it I1 (by lia) (by lia) q1 q2 (by simpa using q))
theorem pi_range2 {a b : Expr} {ta : TA} {p pos : Pos} (hg : Gl X "range") (hm : X.mg "range" = none) (ha : PA X [a, b] ta) (hs : starEach [a, b] X.env = [(false, eval a X.env), (false, eval b X.env)] := by rfl) (hs2 : starEach [b] X.env = [(false, eval b X.env)] := by rfl) :
    PI X tg (.Call (.Name "range" p) [a, b] [] pos) (iRng2 ta) := by
  intro pins s σ H R I h
  refine Call_ (ld_blt I hg hm boot_range (PyProof.Rows.callWith_type1 (thn (ha pos pins s σ H _ I h) fun us s1 hh9 => ?_) (by rw [hs, hs2]) (by rw [hs2]; rfl)))
  obtain ⟨vs, H1, I1, r1, q1⟩ := hh9
  obtain ⟨i, j, e, ⟨q1, q2, q3, q4⟩, q⟩ := q1
  subst e
  cases r1 with
  | cons r rr =>
    cases rr with
    | cons r' rr =>
      cases rr
      obtain ⟨t, rfl⟩ := r
      obtain ⟨t', rfl⟩ := r'
      exact call_range_2 (range_it I1 q1 q2 q3 q4 q)



noncomputable def tFor (wi : TI) (g : TG) (tb : TS) : TS := fun D σ H => wi σ H fun J H1 => ∃ W : Nat → Nat → St → Hp → Prop, (∃ m, W 0 m σ H1) ∧ ∀ i m σ H, W i m σ H →
  (J.stop i H ∧ D.nx σ H) ∨ (J.go i H ∧ ∃ N : St → Hp → Prop, (∀ σ' H', N σ' H' → ∃ m', m' < m ∧ W (i + 1) m' σ' H') ∧ ∀ x H', J.yld i H x H' → g x σ H' fun σ2 H2 => tb { D with nx := N, ct := N, bk := D.nx } σ2 H2)

noncomputable def pinsAt (fp : List Addr) (h : Heap) : List (Addr × Obj) := fp.filterMap fun b => (h.get? b).map fun o => (b, o)
theorem mem_pinsAt {fp : List Addr} {h : Heap} {b : Addr} {o : Obj} (hb : b ∈ fp) (e : h.get? b = some o) : (b, o) ∈ pinsAt fp h := List.mem_filterMap.mpr ⟨b, hb, by rw [e]; rfl⟩
theorem of_pinsAt {fp : List Addr} {h : Heap} {p : Addr × Obj} (hp : p ∈ pinsAt fp h) : p.1 ∈ fp ∧ h.get? p.1 = some p.2 := by
  obtain ⟨b, hb, e⟩ := List.mem_filterMap.mp hp
  cases q : h.get? b with
  | none => rw [q] at e; cases e
  | some o =>
    rw [q] at e
    have e' : (b, o) = p := Option.some.inj e
    subst e'
    exact ⟨hb, q⟩
theorem Inv.pinned {pins : List (Addr × Obj)} {σ : St} {H : Hp} {s : Shared} {fp : List Addr} (I : Inv X pins σ H s) (hf : ∀ b ∈ fp, FpOk X pins H b) (ho : ∀ b ∈ fp, ∃ o, s.heap.get? b = some o ∧ ∀ v, o.data ≠ .cell v) : Inv X (pins ++ pinsAt fp s.heap) σ H s :=
  I.pins_of fun p hp => (List.mem_append.mp hp).elim (fun z => I.pin p (List.mem_append_right _ z)) fun z => by
    obtain ⟨hb, e⟩ := of_pinsAt z
    obtain ⟨f0, f1, f2, _⟩ := hf p.1 hb
    obtain ⟨o, e', d⟩ := ho p.1 hb
    rw [e] at e'; cases e'
    exact ⟨e, f0, f1, f2, d⟩
theorem Inv.unpinned {pins pl : List (Addr × Obj)} {σ : St} {H : Hp} {s : Shared} (I : Inv X (pins ++ pl) σ H s) : Inv X pins σ H s := I.pins_of fun p hp => I.pin p (List.mem_append_right _ (List.mem_append_left _ hp))
theorem ps_for {iter : Expr} {body : List Stmt} {wi : TI} {g : TG} {tb : TS} {pos : Pos} (hp : PassesOwn (model X.prog X.w) X.A X.env X.xe) (hc : X.calm = true) (hi : PI X tg iter wi) (hg : PG X tg g) (hb : PSs X body tb)
    (hs : ∀ x, foldedSetIterable iter X.env x = pure x := by intro _; rfl) : PS X (.For tg iter body [] pos) (tFor wi g tb) := by
  intro pins s σ H D I h
  refine wpAny_For (thn (hi pins s σ H _ I h) fun v s1 h1 => thn h1 fun itv s2 h2 => ?_) hs
  obtain ⟨it, fp, tn, J, H2, e, I2, T, st2, f2, W, ⟨m0, w0⟩, turn⟩ := h2
  subst e
  -- what stays true of the iterator's objects through the loop
  have stat : ∀ {H' : Hp}, (∀ b ∈ fp, H' b = none) → ∀ b ∈ fp, FpOk X pins H' b := fun hn b hb => ⟨hn b hb, (f2 b hb).2⟩
  refine codeAny_forLoop_any (fun n s' => ∃ i σ' H', Inv X pins σ' H' s' ∧ tn i s'.heap ∧ (∀ b ∈ fp, H' b = none) ∧ W i n σ' H') ?_ m0 ⟨0, σ, H2, I2, st2, fun b hb => (f2 b hb).1, w0⟩
  rintro n s3 ⟨i, σ3, H3, I3, st3, fr3, w3⟩
  rcases turn i n σ3 H3 w3 with ⟨stop, qn⟩ | ⟨go, N, hN, step⟩
  · refine wpAny_passesOwn hp (thn (T.done X rfl rfl rfl hc i pins s3 σ3 H3 X.xe I3 (stat fr3) st3 stop) fun r s4 ⟨hr, I4⟩ => ?_)
    subst hr
    exact wpAny_execs_nil ⟨σ3, H3, I4, qn⟩
  · refine wpAny_passesOwn hp (thn (T.item X rfl rfl rfl hc i pins s3 σ3 H3 X.xe I3 (stat fr3) st3 go) fun r s4 ⟨u, hr, h4⟩ => ?_)
    subst hr
    refine wpAny_passesOwn hp (thn h4 fun _ s5 hh9 => ?_)
    obtain ⟨x, H5, I5, r5, y5, st5, fr5⟩ := hh9
    have I5' := I5.pinned (stat fr5) (T.obj _ _ st5)
    refine wpAny_passesOwn hp (thn (hg _ s5 σ3 H5 x u _ I5' r5 (step x H5 y5)) fun _ s6 hh9 => ?_)
    obtain ⟨σ6, H6, I6, q6⟩ := hh9
    refine wpAny_passesOwn hp (thn (hb _ s6 σ6 H6 _ I6 q6) fun f s7 q7 => ?_)
    have again : ∀ {σ7 : St} {H7 : Hp}, Inv X (pins ++ pinsAt fp s5.heap) σ7 H7 s7 → N σ7 H7 → ∃ m, m < n ∧ ∃ i σ' H', Inv X pins σ' H' s7 ∧ tn i s7.heap ∧ (∀ b ∈ fp, H' b = none) ∧ W i m σ' H' := fun {σ7 H7} I7 n7 => by
      obtain ⟨m', hm, w7⟩ := hN σ7 H7 n7
      refine ⟨m', hm, i + 1, σ7, H7, I7.unpinned, T.keep _ _ _ st5 fun b hb o e => (I7.pin (b, o) (List.mem_append_right _ (List.mem_append_right _ (mem_pinsAt hb e)))).1, fun b hb => ?_, w7⟩
      obtain ⟨o, e, d⟩ := T.obj _ _ st5 b hb
      exact (I7.pin (b, o) (List.mem_append_right _ (List.mem_append_right _ (mem_pinsAt hb e)))).2.1
    cases f with
    | next => obtain ⟨σ7, H7, I7, n7⟩ := q7; exact again I7 n7
    | cont => obtain ⟨σ7, H7, I7, n7⟩ := q7; exact again I7 n7
    | brk => obtain ⟨σ7, H7, I7, q7⟩ := q7; exact ⟨σ7, H7, I7.unpinned, q7⟩
    | ret v => obtain ⟨x7, σ7, H7, I7, r7, q7⟩ := q7; exact ⟨x7, σ7, H7, I7.unpinned, r7, q7⟩
end



theorem for_list {K : PySem.W.Frag} {a : Addr} {xs : List V} {g : TG} {tb : TS} {D : Ends} {σ : St} {H : Hp} (Pv : Nat → St → Hp → Prop) (h0 : Pv 0 σ H) (hl : ∀ i σ H, i ≤ xs.length → Pv i σ H → SqL K H a xs)
    (hs : ∀ i x σ H, xs[i]? = some x → Pv i σ H → g x σ H fun σ2 H2 => tb { D with nx := Pv (i + 1), ct := Pv (i + 1), bk := D.nx } σ2 H2) (hd : ∀ σ H, Pv xs.length σ H → D.nx σ H) :
    ∃ W : Nat → Nat → St → Hp → Prop, (∃ m, W 0 m σ H) ∧ ∀ i m σ H, W i m σ H →
      ((Itl K a).stop i H ∧ D.nx σ H) ∨ ((Itl K a).go i H ∧ ∃ N : St → Hp → Prop, (∀ σ' H', N σ' H' → ∃ m', m' < m ∧ W (i + 1) m' σ' H') ∧ ∀ x H', (Itl K a).yld i H x H' → g x σ H' fun σ2 H2 => tb { D with nx := N, ct := N, bk := D.nx } σ2 H2) := by
  refine ⟨fun i m σ H => m = xs.length - i ∧ i ≤ xs.length ∧ Pv i σ H, ⟨xs.length, by simp, Nat.zero_le _, h0⟩, ?_⟩
  rintro i m σ H ⟨rfl, hi, p⟩
  have q := hl i σ H hi p
  by_cases hlt : i < xs.length
  · refine .inr ⟨⟨xs, xs[i], q, by simp [hlt]⟩, Pv (i + 1), fun σ' H' p' => ⟨xs.length - (i + 1), by lia, rfl, hlt, p'⟩, fun x H' y => ?_⟩
    obtain ⟨e, y⟩ := y
    subst e
    exact hs i x σ _ (y xs q) p
  · have e : i = xs.length := by lia
    subst e
    exact .inl ⟨⟨xs, q, Nat.le_refl _⟩, hd σ H p⟩
theorem for_range {lo : Int} {n : Nat} {g : TG} {tb : TS} {D : Ends} {σ : St} {H : Hp} (Pv : Nat → St → Hp → Prop) (h0 : Pv 0 σ H)
    (hs : ∀ i σ H, i < n → Pv i σ H → g (.int (lo + i)) σ H fun σ2 H2 => tb { D with nx := Pv (i + 1), ct := Pv (i + 1), bk := D.nx } σ2 H2) (hd : ∀ σ H, Pv n σ H → D.nx σ H) :
    ∃ W : Nat → Nat → St → Hp → Prop, (∃ m, W 0 m σ H) ∧ ∀ i m σ H, W i m σ H →
      ((Itr lo n).stop i H ∧ D.nx σ H) ∨ ((Itr lo n).go i H ∧ ∃ N : St → Hp → Prop, (∀ σ' H', N σ' H' → ∃ m', m' < m ∧ W (i + 1) m' σ' H') ∧ ∀ x H', (Itr lo n).yld i H x H' → g x σ H' fun σ2 H2 => tb { D with nx := N, ct := N, bk := D.nx } σ2 H2) := by
  refine ⟨fun i m σ H => m = n - i ∧ i ≤ n ∧ Pv i σ H, ⟨n, by simp, Nat.zero_le _, h0⟩, ?_⟩
  rintro i m σ H ⟨rfl, hi, p⟩
  by_cases hlt : i < n
  · refine .inr ⟨hlt, Pv (i + 1), fun σ' H' p' => ⟨n - (i + 1), by lia, rfl, hlt, p'⟩, fun x H' y => ?_⟩
    obtain ⟨e, y⟩ := y
    subst e y
    exact hs i σ _ hlt p
  · have e : i = n := by lia
    subst e
    exact .inl ⟨Nat.le_refl _, hd σ H p⟩

end L2

namespace L2
open PySem PySem.Spec PyProof.Rows

noncomputable abbrev R2 := V → V → Hp → VK → Prop

noncomputable def OpR (X : Cx) (f : Value → Value → Sem Value) (r : R2) : Prop :=
  ∀ (pins : List (Addr × Obj)) (s : Shared) (σ : St) (H : Hp) (x y : V) (v u : Value) (Q : VK), Inv X pins σ H s → RelV x v → RelV y u → r x y H Q →
    wpAny (model X.prog X.w) X.A (f v u) (EP X pins σ Q) X.xe s

noncomputable def CallR (X : Cx) (f : Value) (r : List V → Hp → VK → Prop) : Prop :=
  ∀ (pins : List (Addr × Obj)) (s : Shared) (σ : St) (H : Hp) (xs : List V) (us : List Value) (Q : VK), Inv X pins σ H s → Vals xs us → r xs H Q →
    wpAny (model X.prog X.w) X.A (call f us) (EP X pins σ Q) X.xe s

noncomputable def tOp (r : R2) (ta tb : TE) : TE := fun σ H Q => ta σ H fun x H1 => tb σ H1 fun y H2 => r x y H2 Q
noncomputable def tUn (r : V → Hp → VK → Prop) (ta : TE) : TE := fun σ H Q => ta σ H fun x H1 => r x H1 Q

noncomputable def rI (C : Int → Int → Prop) (g : Int → Int → V) : R2 := fun x y H Q => ∃ i j, x = .int i ∧ y = .int j ∧ C i j ∧ Q (g i j) H
noncomputable def rI0 (g : Int → Int → V) : R2 := fun x y H Q => ∃ i j, x = .int i ∧ y = .int j ∧ Q (g i j) H
noncomputable def rU (g : Int → V) : V → Hp → VK → Prop := fun x H Q => ∃ i, x = .int i ∧ Q (g i) H

section
variable {X : Cx} {a b c : Expr} {ta tb tc : TE} {pos : Pos}

theorem binT (ha : PE X a ta) (hb : PE X b tb) {pins : List (Addr × Obj)} {s : Shared} {σ : St} {H : Hp} {R : V → V → Hp → Prop} (I : Inv X pins σ H s)
    (h : ta σ H fun x H1 => tb σ H1 fun y H2 => R x y H2) {Q : Value → Shared → Prop} {f : Value → Value → Sem Value}
    (hf : ∀ v u s2 x y H2, Inv X pins σ H2 s2 → RelV x v → RelV y u → R x y H2 → wpAny (model X.prog X.w) X.A (f v u) Q X.xe s2) :
    wpAny (model X.prog X.w) X.A (eval a X.env) (fun v s₁ => wpAny (model X.prog X.w) X.A (eval b X.env) (fun u s₂ => wpAny (model X.prog X.w) X.A (f v u) Q X.xe s₂) X.xe s₁) X.xe s := by
  refine thn (ha pins s σ H _ I h) fun v s1 hh9 => ?_
  obtain ⟨x, H1, I1, r1, q1⟩ := hh9
  refine thn (hb pins s1 σ H1 _ I1 q1) fun u s2 hh9 => ?_
  obtain ⟨y, H2, I2, r2, q2⟩ := hh9
  exact hf v u s2 x y H2 I2 r1 r2 q2

theorem pe_op {op : Operator} {r : R2} (ho : OpR X (binaryOp op) r) (ha : PE X a ta) (hb : PE X b tb) : PE X (.BinOp a op b pos) (tOp r ta tb) := by
  intro pins s σ H Q I h
  exact wpAny_BinOp (binT ha hb I h fun v u s2 x y H2 I2 rx ry q => ho pins s2 σ H2 x y v u Q I2 rx ry q)
theorem opI {f : Value → Value → Sem Value} {C : Int → Int → Prop} {g : Int → Int → Int}
    (rule : ∀ (i j : Int) (t u : Tok) (s : Shared) (Q : Value → Shared → Prop) (E : Value → Shared → Prop), C i j → Q (.int (g i j) s.toks) { s with toks := s.toks + 1 } → wpAny (model X.prog X.w) X.A (f (.int i t) (.int j u)) Q E s) :
    OpR X f (rI C fun i j => .int (g i j)) := by
  intro pins s σ H x y v u Q I rx ry h
  obtain ⟨i, j, rfl, rfl, hc, q⟩ := h
  obtain ⟨t, rfl⟩ := rx
  obtain ⟨t', rfl⟩ := ry
  exact rule i j t t' s _ _ hc ⟨.int (g i j), H, I.tok _, ⟨_, rfl⟩, q⟩
theorem opI0 {f : Value → Value → Sem Value} {g : Int → Int → Int}
    (rule : ∀ (i j : Int) (t u : Tok) (s : Shared) (Q : Value → Shared → Prop) (E : Value → Shared → Prop), Q (.int (g i j) s.toks) { s with toks := s.toks + 1 } → wpAny (model X.prog X.w) X.A (f (.int i t) (.int j u)) Q E s) :
    OpR X f (rI0 fun i j => .int (g i j)) := by
  intro pins s σ H x y v u Q I rx ry h
  obtain ⟨i, j, rfl, rfl, q⟩ := h
  obtain ⟨t, rfl⟩ := rx
  obtain ⟨t', rfl⟩ := ry
  exact rule i j t t' s _ _ ⟨.int (g i j), H, I.tok _, ⟨_, rfl⟩, q⟩
theorem opB0 {f : Value → Value → Sem Value} {g : Int → Int → Bool}
    (rule : ∀ (i j : Int) (t u : Tok) (s : Shared) (Q : Value → Shared → Prop) (E : Value → Shared → Prop), Q (.bool (g i j)) s → wpAny (model X.prog X.w) X.A (f (.int i t) (.int j u)) Q E s) :
    OpR X f (rI0 fun i j => .bl (g i j)) := by
  intro pins s σ H x y v u Q I rx ry h
  obtain ⟨i, j, rfl, rfl, q⟩ := h
  obtain ⟨t, rfl⟩ := rx
  obtain ⟨t', rfl⟩ := ry
  exact rule i j t t' s _ _ ⟨.bl (g i j), H, I, rfl, q⟩

noncomputable def CDiv (i j : Int) : Prop := 0 < j ∧ j < 1073741824
noncomputable def CMul (i j : Int) : Prop := (-(2 ^ 64) < i ∧ i < 2 ^ 64) ∨ (-(2 ^ 64) < j ∧ j < 2 ^ 64)
theorem CMul.ok {i j : Int} (h : CMul i j) : IntMulOk i j := by
  rcases h with ⟨h1, h2⟩ | ⟨h1, h2⟩
  · exact .of_left (intBits_le_64 h1 h2)
  · exact .of_right (intBits_le_64 h1 h2)
theorem op_add : OpR X (binaryOp .Add) (rI0 fun i j => .int (i + j)) := opI0 fun _ _ _ _ _ _ _ q => add_int q
theorem op_sub : OpR X (binaryOp .Sub) (rI0 fun i j => .int (i - j)) := opI0 fun _ _ _ _ _ _ _ q => sub_int q
theorem op_mul : OpR X (binaryOp .Mult) (rI CMul fun i j => .int (i * j)) := opI fun _ _ _ _ _ _ _ hc q => mul_int q hc.ok

theorem op_fdiv : OpR X (binaryOp .FloorDiv) (rI CDiv fun i j => .int (i / j)) := opI fun i j _ _ _ _ _ hc q => by
  have h1 : (0 : Int) < j := hc.1
  have h2 : j < 1073741824 := hc.2
  exact floordiv_int (by lia) (by rw [Int.fdiv_eq_ediv_of_nonneg i (by lia)]; exact q) (.inl (PyProof.noPylong_small (by lia)))
theorem op_mod : OpR X (binaryOp .Mod) (rI (fun _ j => 0 < j) fun i j => .int (i % j)) := opI fun i j _ _ _ _ _ hc q => by
  have h1 : (0 : Int) < j := hc
  exact mod_int' (by lia) (by rw [Int.fmod_eq_emod_of_nonneg i (by lia)]; exact q)
end



noncomputable def scal : V → V → Bool
  | .non, .non => true | .non, .int _ => true | .int _, .non => true | .non, .bl _ => true | .bl _, .non => true | .non, .str _ => true | .str _, .non => true
  | .int _, .int _ => true | .bl _, .bl _ => true | .str _, .str _ => true | .byt _, .byt _ => true
  | .int _, .str _ => true | .str _, .int _ => true | .bl _, .str _ => true | .str _, .bl _ => true
  | _, _ => false
noncomputable def rEq : R2 := fun x y H Q => scal x y = true ∧ Q (.bl (decide (x = y))) H
noncomputable def rNe : R2 := fun x y H Q => scal x y = true ∧ Q (.bl (!decide (x = y))) H

theorem dec_int {i j : Int} : decide (V.int i = V.int j) = (i == j) := by
  rw [Bool.eq_iff_iff]
  simp
theorem dec_bl {i j : Bool} : decide (V.bl i = V.bl j) = (i == j) := by
  rw [Bool.eq_iff_iff]
  simp
theorem dec_str {i j : Str} : decide (V.str i = V.str j) = (i == j) := by
  rw [Bool.eq_iff_iff]
  simp
theorem dec_byt {i j : Array UInt8} : decide (V.byt i = V.byt j) = (i.toList == j.toList) := by
  rw [Bool.eq_iff_iff]
  cases i
  cases j
  simp

section
variable {X : Cx} {a b c : Expr} {ta tb tc : TE} {pos : Pos}
theorem fin_bl {pins : List (Addr × Obj)} {σ : St} {H : Hp} {s : Shared} {Q : VK} {k k' : Bool} (I : Inv X pins σ H s) (q : Q (.bl k) H) (e : k = k') : EP X pins σ Q (.bool k') s := by
  subst e
  exact ⟨.bl k, H, I, rfl, q⟩
theorem op_eq : OpR X (compareOp .Eq) rEq := by
  intro pins s σ H x y v u Q I rx ry h
  obtain ⟨hs, q⟩ := h
  cases x with
  | non =>
    cases rx
    cases y with
    | non => cases ry; exact PySem.EqNone.eq_none_none (fin_bl I q (by simp))
    | bl j => cases ry; exact PySem.EqNone.eq_none_bool (fin_bl I q (by simp))
    | int j => obtain ⟨t', rfl⟩ := ry; exact PySem.EqNone.eq_none_int (fin_bl I q (by simp))
    | str j => obtain ⟨t', rfl⟩ := ry; exact PySem.EqNone.eq_none_str (fin_bl I q (by simp))
    | _ => exact absurd (show false = true from hs) Bool.false_ne_true
  | bl i =>
    cases rx
    cases y with
    | non => cases ry; exact PySem.EqNone.eq_bool_none (fin_bl I q (by simp))
    | bl j => cases ry; exact eq_bool (fin_bl I q dec_bl)
    | str j => obtain ⟨t', rfl⟩ := ry; exact PySem.EqMixed.eq_bool_str (fin_bl I q (by simp))
    | _ => exact absurd (show false = true from hs) Bool.false_ne_true
  | int i =>
    obtain ⟨t, rfl⟩ := rx
    cases y with
    | non => cases ry; exact PySem.EqNone.eq_int_none (fin_bl I q (by simp))
    | int j => obtain ⟨t', rfl⟩ := ry; exact eq_int (fin_bl I q dec_int)
    | str j => obtain ⟨t', rfl⟩ := ry; exact PySem.EqMixed.eq_int_str (fin_bl I q (by simp))
    | _ => exact absurd (show false = true from hs) Bool.false_ne_true
  | str i =>
    obtain ⟨t, rfl⟩ := rx
    cases y with
    | non => cases ry; exact PySem.EqNone.eq_str_none (fin_bl I q (by simp))
    | bl j => cases ry; exact PySem.EqMixed.eq_str_bool (fin_bl I q (by simp))
    | int j => obtain ⟨t', rfl⟩ := ry; exact PySem.EqMixed.eq_str_int (fin_bl I q (by simp))
    | str j => obtain ⟨t', rfl⟩ := ry; exact eq_str (fin_bl I q dec_str)
    | _ => exact absurd (show false = true from hs) Bool.false_ne_true
  | byt i =>
    obtain ⟨t, rfl⟩ := rx
    cases y with
    | byt j => obtain ⟨t', rfl⟩ := ry; exact PySem.W.eq_bytes (fin_bl I q dec_byt)
    | _ => exact absurd (show false = true from hs) Bool.false_ne_true
  | _ => cases y <;> exact absurd (show false = true from hs) Bool.false_ne_true
theorem op_ne : OpR X (compareOp .NotEq) rNe := by
  intro pins s σ H x y v u Q I rx ry h
  obtain ⟨hs, q⟩ := h
  cases x with
  | non =>
    cases rx
    cases y with
    | non => cases ry; exact PySem.EqNone.ne_none_none (fin_bl I q (by simp))
    | bl j => cases ry; exact PySem.EqNone.ne_none_bool (fin_bl I q (by simp))
    | int j => obtain ⟨t', rfl⟩ := ry; exact PySem.EqNone.ne_none_int (fin_bl I q (by simp))
    | str j => obtain ⟨t', rfl⟩ := ry; exact PySem.EqNone.ne_none_str (fin_bl I q (by simp))
    | _ => exact absurd (show false = true from hs) Bool.false_ne_true
  | bl i =>
    cases rx
    cases y with
    | non => cases ry; exact PySem.EqNone.ne_bool_none (fin_bl I q (by simp))
    | bl j => cases ry; exact ne_bool (fin_bl I q (congrArg not dec_bl))
    | str j => obtain ⟨t', rfl⟩ := ry; exact PySem.EqMixed.ne_bool_str (fin_bl I q (by simp))
    | _ => exact absurd (show false = true from hs) Bool.false_ne_true
  | int i =>
    obtain ⟨t, rfl⟩ := rx
    cases y with
    | non => cases ry; exact PySem.EqNone.ne_int_none (fin_bl I q (by simp))
    | int j => obtain ⟨t', rfl⟩ := ry; exact ne_int (fin_bl I q (congrArg not dec_int))
    | str j => obtain ⟨t', rfl⟩ := ry; exact PySem.EqMixed.ne_int_str (fin_bl I q (by simp))
    | _ => exact absurd (show false = true from hs) Bool.false_ne_true
  | str i =>
    obtain ⟨t, rfl⟩ := rx
    cases y with
    | non => cases ry; exact PySem.EqNone.ne_str_none (fin_bl I q (by simp))
    | bl j => cases ry; exact PySem.EqMixed.ne_str_bool (fin_bl I q (by simp))
    | int j => obtain ⟨t', rfl⟩ := ry; exact PySem.EqMixed.ne_str_int (fin_bl I q (by simp))
    | str j => obtain ⟨t', rfl⟩ := ry; exact ne_str (fin_bl I q (congrArg not dec_str))
    | _ => exact absurd (show false = true from hs) Bool.false_ne_true
  | byt i =>
    obtain ⟨t, rfl⟩ := rx
    cases y with
    | byt j => obtain ⟨t', rfl⟩ := ry; exact PySem.W.ne_bytes (fin_bl I q (congrArg not dec_byt))
    | _ => exact absurd (show false = true from hs) Bool.false_ne_true
  | _ => cases y <;> exact absurd (show false = true from hs) Bool.false_ne_true

theorem op_lt : OpR X (compareOp .Lt) (rI0 fun i j => .bl (decide (i < j))) := opB0 fun _ _ _ _ _ _ _ q => lt_int q
theorem op_le : OpR X (compareOp .LtE) (rI0 fun i j => .bl (decide (i ≤ j))) := opB0 fun _ _ _ _ _ _ _ q => le_int q
theorem op_gt : OpR X (compareOp .Gt) (rI0 fun i j => .bl (decide (j < i))) := opB0 fun _ _ _ _ _ _ _ q => gt_int q
theorem op_isN : OpR X (compareOp .Is) (fun x y H Q => y = .non ∧ Q (.bl (decide (x = .non))) H) := by
  intro pins s σ H x y v u Q I rx ry h
  obtain ⟨rfl, q⟩ := h
  cases ry
  refine is_none_gen (fin_bl I q ?_)
  cases x <;> first
    | (cases rx; rfl)
    | (obtain ⟨t, rfl⟩ := rx; rfl)
theorem op_notN : OpR X (compareOp .IsNot) (fun x y H Q => y = .non ∧ Q (.bl (!decide (x = .non))) H) := by
  intro pins s σ H x y v u Q I rx ry h
  obtain ⟨rfl, q⟩ := h
  cases ry
  refine isnot_none_gen (fin_bl I q ?_)
  cases x <;> first
    | (cases rx; rfl)
    | (obtain ⟨t, rfl⟩ := rx; rfl)

theorem nomark (b : Expr) {op : CmpOp} (h : op ≠ .In := by decide) (h2 : op ≠ .NotIn := by decide) : behindInMarks op b = false := by
  have e1 : (op == CmpOp.In) = false := by cases op <;> first | rfl | exact absurd rfl h
  have e2 : (op == CmpOp.NotIn) = false := by cases op <;> first | rfl | exact absurd rfl h2
  cases b <;> simp [behindInMarks, e1, e2]

theorem pe_cmpR {op : CmpOp} {r : R2} (ho : OpR X (compareOp op) r) (ha : PE X a ta) (hb : PE X b tb) (hm : behindInMarks op b = false) : PE X (.Compare a [op] [b] pos) (tOp r ta tb) := by
  intro pins s σ H Q I h
  exact wpAny_Compare1 (binT ha hb I h fun v u s2 x y H2 I2 rx ry q => ho pins s2 σ H2 x y v u Q I2 rx ry q) hm

noncomputable def tTest (t : TE) : TT := fun σ H Q => t σ H fun x H' => ∃ k, x = .bl k ∧ Q k H'
theorem pt_cmpR {op : CmpOp} {r : R2} (ho : OpR X (compareOp op) r) (ha : PE X a ta) (hb : PE X b tb) (hm : behindInMarks op b = false) : PT X (.Compare a [op] [b] pos) (tTest (tOp r ta tb)) := by
  intro pins s σ H Q I h
  refine wpAny_isTrue_Compare1 (thn (ha pins s σ H _ I h) fun v s1 ⟨x, H1, I1, r1, q1⟩ => thn (hb pins s1 σ H1 _ I1 q1) fun u s2 ⟨y, H2, I2, r2, q2⟩ =>
    thn (ho pins s2 σ H2 x y v u _ I2 r1 r2 q2) fun c s3 ⟨z, H3, I3, r3, k, e, q3⟩ => ?_) hm
  subst e
  cases r3
  exact wpAny_truthy_bool ⟨H3, I3, q3⟩

noncomputable def tChain (r r' : R2) (ta tb tc : TE) : TE := fun σ H Q => ta σ H fun x H1 => tb σ H1 fun y H2 => r x y H2 fun z H3 => ∃ k, z = .bl k ∧
  (if k = true then tc σ H3 fun w' H4 => r' y w' H4 Q else Q (.bl false) H3)
theorem pt_chain {op op' : CmpOp} {r r' : R2} (ho : OpR X (compareOp op) r) (ho' : OpR X (compareOp op') r') (ha : PE X a ta) (hb : PE X b tb) (hc : PE X c tc)
    (hm : lastMarks [op, op'] [b, c] = false := by with_unfolding_all rfl) : PT X (.Compare a [op, op'] [b, c] pos) (tTest (tChain r r' ta tb tc)) := by
  intro pins s σ H Q I h
  refine isTrue_chain (thn (ha pins s σ H _ I h) fun v s1 ⟨x, H1, I1, r1, q1⟩ => test_link (thn (hb pins s1 σ H1 _ I1 q1) fun u s2 ⟨y, H2, I2, r2, q2⟩ =>
    thn (ho pins s2 σ H2 x y v u _ I2 r1 r2 q2) fun d s3 ⟨z, H3, I3, r3, k, e, q3⟩ => ?_)) hm
  subst e
  cases r3
  refine wpAny_truthy_bool ?_
  cases k with
  | false =>
    obtain ⟨k', e', q'⟩ := q3
    cases e'
    exact ite_ff ⟨H3, I3, q'⟩
  | true =>
    refine ite_tt (test_last (thn (hc pins s3 σ H3 _ I3 q3) fun w' s4 ⟨z', H4, I4, r4, q4⟩ => thn (ho' pins s4 σ H4 y z' u w' _ I4 r2 r4 q4) fun d' s5 hh9 => ?_))
    obtain ⟨z2, H5, I5, r5, k2, e2, q5⟩ := hh9
    subst e2
    cases r5
    exact wpAny_truthy_bool ⟨H5, I5, q5⟩



theorem line63 : (sizeLine : Nat) < 2 ^ 63 := by rw [sizeLine_eq]; decide
theorem vals1 {x : V} {us : List Value} (r : Vals [x] us) : ∃ u, us = [u] ∧ RelV x u := by
  cases r with
  | cons r1 r2 => cases r2; exact ⟨_, rfl, r1⟩
theorem vals2 {x y : V} {us : List Value} (r : Vals [x, y] us) : ∃ u w', us = [u, w'] ∧ RelV x u ∧ RelV y w' := by
  cases r with
  | cons r1 r2 =>
    cases r2 with
    | cons r3 r4 => cases r4; exact ⟨_, _, rfl, r1, r3⟩
end
end L2

namespace L2
open PySem PySem.Spec PyProof.Rows


structure ObjM (h : Heap) (x dx C : Addr) (mA : Str → Option Value) : Prop where
  obj : h.get? x = some (PySem.W.instObj C dx)
  ns : h.Ns1 dx mA
  ne : dx ≠ x

theorem lookIn_ns {h : Heap} {dx : Addr} {mA : Str → Option Value} (n : h.Ns1 dx mA) : ∃ od, h.get? dx = some od ∧ ∀ name, PySem.W.lookIn name od = some (mA name) := by
  obtain ⟨o, es, ep, ho, hd, hk, _, hm⟩ := n
  refine ⟨o, ho, fun name => ?_⟩
  have e := hm name
  unfold nsFind findBy at e
  rw [← Array.find?_toList] at e
  unfold PySem.W.lookIn
  rw [hd]
  dsimp only
  split
  · rename_i y q
    rw [q] at e
    exact congrArg some e
  · rename_i q
    rw [q] at e
    have a : es.toList.any (·.refKey) = false := by
      rw [List.any_eq_false]
      intro y hy
      obtain ⟨z, t, hkey⟩ := hk y (Array.mem_toList_iff.mp hy)
      simp [DictEntry.refKey, hkey]
    have a' : ¬ es.toList.any (·.refKey) = true := by rw [a]; exact Bool.false_ne_true
    rw [if_neg a']
    exact congrArg some e

theorem ObjM.look {h : Heap} {x dx C : Addr} {mA : Str → Option Value} (I : ObjM h x dx C mA) : ∃ od, PySem.W.InstAt h x (PySem.W.instObj C dx) C (some od) ∧ ∀ name, PySem.W.lookIn name od = some (mA name) :=
  let ⟨od, ho, hl⟩ := lookIn_ns I.ns
  ⟨od, ⟨I.obj, rfl, rfl, ho⟩, hl⟩

section
variable {prog : Program} {w : World} {A : Around} {E : Value → Shared → Prop} {s : Shared} {K : PySem.W.Frag} {x dx C f : Addr} {mA : Str → Option Value} {name : Str} {v : Value}

theorem get_map {expr : Bool} {Q : Value → Shared → Prop} (X : K.In s.heap) (I : ObjM s.heap x dx C mA) (hg : PySem.W.plainGet K C name = true) (hh : PySem.W.hasDictIn K C = true)
    (ha : PySem.W.findIn K (.ref C) name = some none) (hv : mA name = some v) (hv' : PySem.W.handedIn v = true) (h : Q v { s with toks := s.toks + 1 }) :
    wpAny (model prog w) A (getAttr (.ref x) name expr) Q E s := by
  obtain ⟨od, J, hl⟩ := I.look
  exact PySem.W.get_value X J (PySem.W.plainGet_of hg).1 (PySem.W.findObj_own hh ha rfl (by rw [hl, hv])) hv' h

theorem get_meth {pl : Sem Bool} {Q : Value × List Value → Shared → Prop} (X : K.In s.heap) (I : ObjM s.heap x dx C mA) (hg : PySem.W.plainGet K C name = true)
    (hf : PySem.W.findIn K (.ref C) name = some (some (.ref f))) (ht : PySem.W.isFn K (.ref f) = true) (hv : mA name = none) (h : Q (.ref f, [.ref x]) s) :
    wpAny (model prog w) A (getMethod (.ref x) name pl) Q E s := by
  obtain ⟨od, J, hl⟩ := I.look
  exact PySem.W.method_fn X J (PySem.W.plainGet_of hg).1 (PySem.W.plainGet_of hg).2 hf (beq_iff_eq.mp ht) (by show (PySem.W.lookIn name od).map (·.isSome) = some false; rw [hl, hv]; rfl) h

theorem set_map {ns : List Str} {Q : Unit → Shared → Prop} (X : K.In s.heap) (I : ObjM s.heap x dx C mA)
    (hs : PySem.W.findIn K (.ref C) "__setattr__" = some (some (.builtin "object.__setattr__"))) (hp : PySem.W.plainOver K C = true) (ht : PySem.W.takerIn K C name = some none) (hh : PySem.W.hasDictIn K C = true)
    (hw : PySem.Within mA ns) (hsz : ns.length ≤ sizeLine)
    (h : ∀ h', ObjM h' x dx C (fun y => if y = name then some v else mA y) → Heap.SameBut dx s.heap h' → Q () { s with heap := h', toks := s.toks + 2 }) :
    wpAny (model prog w) A (setAttr (.ref x) name v) Q E s := by
  obtain ⟨od, J, hl⟩ := I.look
  refine PySem.W.set_plain X J hs (PySem.W.osa_open (s := { s with toks := s.toks + 1 }) (r := none) X J hp ht fun b => ?_)
  obtain ⟨cd, hc, hd'⟩ := PySem.W.any_some hh
  have hx : s.heap.get? x = some ⟨.ref C, some dx, .plain, #[]⟩ := I.obj
  refine wpAny_bind (wpAny_pure (wpAny_bind (wpAny_bind (wpAny_loadPart hx (wpAny_bind (PySem.W.Looks.here (s := { s with toks := s.toks + 1 }) (PySem.W.looks_clsIn X hc) ?_))))))
  rw [hd']
  refine wpAny_pure (a := some dx) (wpAny_bind (wpAny_pure (wpAny_bind ?_)))
  refine wpAny_nsSet1 (s := { s with toks := s.toks + 1 }) I.ns fun h' hn2 hs2 => ?_
  obtain ⟨oD, esD, epD, hoD, hdD, hcD⟩ := hn2.count (PySem.Within.cons name v hw)
  refine wpAny_bind (wpAny_lookBehind hoD (by rw [hdD]; exact pastItsLine_dict (Nat.le_trans hcD (by rw [List.length_cons]; lia))) ?_)
  exact wpAny_pure (h _ ⟨(hs2.2 _ (Ne.symm I.ne)).trans I.obj, hn2, I.ne⟩ hs2)


theorem make_map {R : Result → Shared → Prop} {vs : List Value} {kw : List (Str × Value)} (X : K.In s.heap) (hm : PySem.W.makesIn K C = true)
    (hi : PySem.W.findIn K (.ref C) "__init__" = some (some (.ref f))) (hf : PySem.W.typeIn K (.ref f) = some (.type "function"))
    (h : codeAny (model prog w) (A.under (.builtin "type.__call__" ⟨.ref C :: vs, kw⟩)) (.call (.ref f) ⟨.ref (s.heap.objs.size + 1) :: vs, kw⟩) (PySem.W.InitBack (s.heap.objs.size + 1) R)
      { s with heap := (s.heap.push PySem.W.emptyDict).push (PySem.W.instObj C s.heap.objs.size) }) :
    codeAny (model prog w) A (.call (.ref C) ⟨vs, kw⟩) R s := by
  obtain ⟨hh, g, d, t, os⟩ := s
  exact PySem.W.make_core (PySem.W.makes_of X hm) (PySem.W.looks_findIn X hi) (fun self => PySem.W.bind_fn X self hf) (.inl rfl) h

end


noncomputable def putF (f : Str) (v : V) : List (Str × V) → List (Str × V)
  | [] => [(f, v)]
  | (g, x) :: r => if g = f then (g, v) :: r else (g, x) :: putF f v r
theorem lookup_putF (f g : Str) (v : V) : ∀ fs : List (Str × V), (putF f v fs).lookup g = if g = f then some v else fs.lookup g
  | [] => by
    show List.lookup g [(f, v)] = _
    by_cases h : g = f
    · have hb : (g == f) = true := beq_iff_eq.mpr h
      simp only [List.lookup, hb, if_pos h]
    · have hb : (g == f) = false := beq_eq_false_iff_ne.mpr h
      simp only [List.lookup, hb, if_neg h]
  | (k, x) :: r => by
    have ih := lookup_putF f g v r
    rw [show putF f v ((k, x) :: r) = (if k = f then (k, v) :: r else (k, x) :: putF f v r) from rfl]
    by_cases hk : k = f
    · rw [if_pos hk]
      by_cases h : g = k
      · have hb : (g == k) = true := beq_iff_eq.mpr h
        simp only [List.lookup, hb, if_pos (h.trans hk)]
      · have hb : (g == k) = false := beq_eq_false_iff_ne.mpr h
        simp only [List.lookup, hb, if_neg (fun e : g = f => h (e.trans hk.symm))]
    · rw [if_neg hk]
      by_cases h : g = k
      · have hb : (g == k) = true := beq_iff_eq.mpr h
        simp only [List.lookup, hb, if_neg (fun e : g = f => hk (h.symm.trans e))]
      · have hb : (g == k) = false := beq_eq_false_iff_ne.mpr h
        simp only [List.lookup, hb]
        exact ih
theorem keys_putF (f : Str) (v : V) : ∀ fs : List (Str × V), f ∈ (putF f v fs).map (·.1) ∧ ∀ g, g ∈ fs.map (·.1) → g ∈ (putF f v fs).map (·.1)
  | [] => ⟨by simp [putF], fun g h => by simp at h⟩
  | (k, x) :: r => by
    obtain ⟨i1, i2⟩ := keys_putF f v r
    rw [show putF f v ((k, x) :: r) = (if k = f then (k, v) :: r else (k, x) :: putF f v r) from rfl]
    by_cases hk : k = f
    · rw [if_pos hk]
      subst hk
      exact ⟨by simp, fun g h => by simpa using h⟩
    · rw [if_neg hk]
      refine ⟨?_, fun g h => ?_⟩
      · rw [List.map_cons]
        exact List.mem_cons_of_mem _ i1
      · rw [List.map_cons] at h ⊢
        rcases List.mem_cons.mp h with e | e
        · exact List.mem_cons.mpr (.inl e)
        · exact List.mem_cons_of_mem _ (i2 g e)
theorem length_putF (f : Str) (v : V) : ∀ fs : List (Str × V), (putF f v fs).length ≤ fs.length + 1
  | [] => by simp [putF]
  | (k, x) :: r => by
    have ih := length_putF f v r
    rw [show putF f v ((k, x) :: r) = (if k = f then (k, v) :: r else (k, x) :: putF f v r) from rfl]
    by_cases hk : k = f
    · rw [if_pos hk, List.length_cons, List.length_cons]; lia
    · rw [if_neg hk, List.length_cons, List.length_cons]; lia

theorem RelO.some_of {v : V} {o : Option Value} (r : RelO (some v) o) : ∃ u, o = some u ∧ RelV v u := by
  cases o with
  | none => exact (show False from r).elim
  | some u => exact ⟨u, rfl, r⟩
theorem RelO.none_of {o : Option Value} (r : RelO none o) : o = none := by
  cases o with
  | none => rfl
  | some u => exact (show False from r).elim
theorem handed_of {v : V} {u : Value} (r : RelV v u) : PySem.W.handedIn u = true := by
  cases v with
  | non => cases (show u = Value.none from r); rfl
  | bl b => cases (show u = Value.bool b from r); rfl
  | int i => obtain ⟨t, e⟩ := (show ∃ t, u = Value.int i t from r); cases e; rfl
  | str x => obtain ⟨t, e⟩ := (show ∃ t, u = Value.str x t from r); cases e; rfl
  | byt b => obtain ⟨t, e⟩ := (show ∃ t, u = Value.bytes b t from r); cases e; rfl
  | flt b => obtain ⟨t, e⟩ := (show ∃ t, u = Value.float b t from r); cases e; rfl
  | ref a => cases (show u = Value.ref a from r); rfl
  | ty n => cases (show u = Value.type n from r); rfl

section
variable {P : Program} {w : World} {H H' : Hp} {h h' : Heap} {a C dx : Addr} {fs fs' : List (Str × V)}
theorem ins_get (hok : HOk P w H h) (e : H a = some (.ins C dx fs)) : ∃ mA, ObjM h a dx C mA ∧ (∀ f, RelO (fs.lookup f) (mA f)) ∧ PySem.Within mA (fs.map (·.1)) ∧ fs.length ≤ 1000 ∧ H dx = some (.own a) := by
  obtain ⟨d, z, ne, ob, mA, n, r, q⟩ := (show ObjOk P w H h a (.ins C dx fs) from hok a _ e)
  exact ⟨mA, ⟨ob, n, ne⟩, r, q, z, d⟩
end


structure Cls (K : PySem.W.Frag) (C : Addr) : Prop where
  pg : PySem.W.plainGet K C Str.empty = true
  hd : PySem.W.hasDictIn K C = true
  po : PySem.W.plainOver K C = true
  sa : PySem.W.findIn K (.ref C) "__setattr__" = some (some (.builtin "object.__setattr__"))
theorem Cls.get {K : PySem.W.Frag} {C : Addr} (c : Cls K C) (f : Str) : PySem.W.plainGet K C f = true := c.pg

noncomputable def NoAttr (K : PySem.W.Frag) (C : Addr) (f : Str) : Prop := PySem.W.findIn K (.ref C) f = some none
theorem NoAttr.taker {K : PySem.W.Frag} {C : Addr} {f : Str} (n : NoAttr K C f) : PySem.W.takerIn K C f = some none := by
  unfold PySem.W.takerIn
  rw [show PySem.W.findIn K (.ref C) f = some none from n]
  rfl

structure Meth (K : PySem.W.Frag) (C : Addr) (m : Str) (f : Addr) : Prop where
  at_ : PySem.W.findIn K (.ref C) m = some (some (.ref f))
  fn : PySem.W.isFn K (.ref f) = true
  kp : PySem.W.keepIn K (.ref f) = true

section
variable {X : Cx} {pins : List (Addr × Obj)} {σ : St} {H : Hp} {s : Shared} {a C dx : Addr} {fs : List (Str × V)} {f : Str} {v : V} {A : Around} {E : Value → Shared → Prop}

theorem getattr_ok {b : Bool} {Q : Value → Shared → Prop} (I : Inv X pins σ H s) (e : H a = some (.ins C dx fs)) (c : Cls X.K C) (n : NoAttr X.K C f) (l : fs.lookup f = some v)
    (h : ∀ u s', Inv X pins σ H s' → RelV v u → Q u s') : wpAny (model X.prog X.w) A (getAttr (.ref a) f b) Q E s := by
  obtain ⟨mA, O, r, _, _, _⟩ := ins_get I.hok e
  obtain ⟨u, hu, ru⟩ := RelO.some_of (v := v) (o := mA f) (by rw [← l]; exact r f)
  exact get_map I.kIn O (c.get f) c.hd n hu (handed_of ru) (h u _ (I.tok _) ru)

theorem getmeth_ok {m : Str} {g : Addr} {pl : Sem Bool} {Q : Value × List Value → Shared → Prop} (I : Inv X pins σ H s) (e : H a = some (.ins C dx fs)) (c : Cls X.K C) (k : Meth X.K C m g) (l : fs.lookup m = none)
    (h : Q (.ref g, [.ref a]) s) : wpAny (model X.prog X.w) A (getMethod (.ref a) m pl) Q E s := by
  obtain ⟨mA, O, r, _, _, _⟩ := ins_get I.hok e
  have hn : mA m = none := RelO.none_of (by rw [← l]; exact r m)
  exact get_meth I.kIn O (c.get m) k.at_ k.fn hn h

theorem setattr_ok {y : V} {u : Value} {Q : Unit → Shared → Prop} (I : Inv X pins σ H s) (e : H a = some (.ins C dx fs)) (c : Cls X.K C) (n : NoAttr X.K C f) (hl : fs.length < 1000) (ry : RelV y u)
    (h : ∀ s', Inv X pins σ (upd H a (.ins C dx (putF f y fs))) s' → Q () s') : wpAny (model X.prog X.w) A (setAttr (.ref a) f u) Q E s := by
  obtain ⟨mA, O, r, wi, _, ho⟩ := ins_get I.hok e
  have hz : (fs.map (·.1)).length ≤ sizeLine := by rw [List.length_map, sizeLine_eq]; lia
  refine set_map I.kIn O c.sa c.po n.taker c.hd wi hz fun h' O' sb => h _ ?_
  have hd : ∃ o, h'.get? dx = some o := let ⟨o, _, _, e', _⟩ := O'.ns; ⟨o, e'⟩
  refine I.write (x := a) (e := dx) (by rw [e]; exact True.intro) (.inr ho) (fun b q hb z => (sb.2 b hb).trans z) hd ?_
  refine ⟨by rw [upd_ne O.ne]; exact ho, ?_, O.ne, O'.obj, _, O'.ns, fun g => ?_, fun g hg => ?_⟩
  · have := length_putF f y fs; lia
  · show RelO ((putF f y fs).lookup g) (if g = f then some u else mA g)
    rw [lookup_putF]
    by_cases q : g = f
    · rw [if_pos q, if_pos q]; exact ry
    · rw [if_neg q, if_neg q]; exact r g
  · by_cases q : g = f
    · rw [q]; exact (keys_putF f y fs).1
    · refine (keys_putF f y fs).2 g (wi g fun z => hg ?_)
      show (if g = f then some u else mA g) = none
      rw [if_neg q]; exact z


theorem Inv.made (I : Inv X pins σ H s) : Inv X pins σ (upd (upd H s.heap.objs.size (.own (s.heap.objs.size + 1))) (s.heap.objs.size + 1) (.ins C s.heap.objs.size []))
    { s with heap := (s.heap.push PySem.W.emptyDict).push (PySem.W.instObj C s.heap.objs.size) } := by
  have e1 : (s.heap.push PySem.W.emptyDict).get? s.heap.objs.size = some PySem.W.emptyDict := Heap.get?_push_size s.heap rfl
  have e2 : ((s.heap.push PySem.W.emptyDict).push (PySem.W.instObj C s.heap.objs.size)).get? (s.heap.objs.size + 1) = some (PySem.W.instObj C s.heap.objs.size) := by
    have := Heap.get?_push_size (s.heap.push PySem.W.emptyDict) (o := PySem.W.instObj C s.heap.objs.size) rfl
    rwa [Heap.size_push] at this
  have e3 : (s.heap.push PySem.W.emptyDict).Ns s.heap.objs.size (fun _ => none) := ⟨PySem.W.emptyDict, #[], _, e1, rfl, (fun e he => absurd he (by simp)), fun _ => rfl⟩
  have I1 := I.laid (a := s.heap.objs.size) (o := .own (s.heap.objs.size + 1)) (h' := s.heap.push PySem.W.emptyDict) (t' := s.toks) (fun b u q => Heap.get?_push_of_some _ q) (Nat.le_refl _) ⟨_, e1⟩
  refine I1.laid (a := s.heap.objs.size + 1) (o := .ins C s.heap.objs.size []) (t' := s.toks) (fun b u q => Heap.get?_push_of_some _ q) (Nat.le_of_eq (Heap.size_push _ _)) ?_
  have ne : s.heap.objs.size ≠ s.heap.objs.size + 1 := Nat.ne_of_lt (Nat.lt_succ_self _)
  refine ⟨by rw [upd_ne ne, upd_same], Nat.zero_le _, ne, e2, fun _ => none, (Heap.Ns1.of_empty e3).at fun o q => Heap.get?_push_of_some _ q, fun _ => True.intro, fun y hy => absurd rfl hy⟩


theorem attr_of {prog : Program} {w : World} {env : Env} {e : Expr} {f : Str} {pos : Pos} {s : Shared} {Q : Value → Shared → Prop} (hb : attributeBase e f env (eval e env) = eval e env)
    (h : wpAny (model prog w) A (eval e env) (fun o s₁ => wpAny (model prog w) A (getAttr o f true) Q E s₁) E s) : wpAny (model prog w) A (eval (.Attribute e f pos) env) Q E s :=
  Attribute_any_ h (by rw [arm_eval_Attribute, hb])
end



noncomputable def tFld (K : PySem.W.Frag) (ta : TE) (f : Str) : TE := fun σ H Q => ta σ H fun x H1 => ∃ a C dx fs v, x = .ref a ∧ H1 a = some (.ins C dx fs) ∧ Cls K C ∧ NoAttr K C f ∧ fs.lookup f = some v ∧ Q v H1

noncomputable def sFld (K : PySem.W.Frag) (ta tv : TE) (f : Str) : TS := fun D σ H => tv σ H fun y H1 => ta σ H1 fun x H2 => ∃ a C dx fs, x = .ref a ∧ H2 a = some (.ins C dx fs) ∧ Cls K C ∧ NoAttr K C f ∧ fs.length < 1000 ∧
  D.nx σ (upd H2 a (.ins C dx (putF f y fs)))

section
variable {X : Cx} {o e value : Expr} {f : Str} {pos pos' tpos : Pos} {ta tv : TE}
theorem pe_fld (he : PE X e ta) (hb : attributeBase e f X.env (eval e X.env) = eval e X.env) : PE X (.Attribute e f pos) (tFld X.K ta f) := by
  intro pins s σ H Q I h
  refine attr_of hb (thn (he pins s σ H _ I h) fun u s1 hh9 => ?_)
  obtain ⟨x, H1, I1, rx, a, C, dx, fs, v, ex, ea, c, n, l, q⟩ := hh9
  subst ex
  obtain rfl : u = Value.ref a := rx
  exact getattr_ok I1 ea c n l fun u' s2 I2 ru => ⟨v, H1, I2, ru, q⟩
theorem ps_fld (ha : PE X o ta) (hv : PE X value tv) (hs : swapsWith value (some (.Attribute o f pos')) pos.line X.env = pure false) : PS X (.Assign [.Attribute o f pos'] value pos) (sFld X.K ta tv f) := by
  intro pins s σ H D I h
  refine plainObj_wpAny_Assign_Attribute (thn (hv pins s σ H _ I h) fun u s1 ⟨y, H1, I1, ry, q⟩ => thn (ha pins s1 σ H1 _ I1 q) fun ov s2 hh9 => ?_) hs
  obtain ⟨x, H2, I2, rx, a, C, dx, fs, ex, ea, c, n, l, q2⟩ := hh9
  subst ex
  obtain rfl : ov = Value.ref a := rx
  exact setattr_ok I2 ea c n l ry fun s3 I3 => ⟨σ, _, I3, q2⟩
end


section
variable {X : Cx} {pins : List (Addr × Obj)} {σ : St} {H : Hp} {s : Shared} {A : Around} {E : Value → Shared → Prop} {Q : Value → Shared → Prop} {c : Value} {b : Bool}

inductive TyOf (K : PySem.W.Frag) (H : Hp) : V → Value → Prop where
  | non : TyOf K H .non (.type "NoneType")
  | bl (x : Bool) : TyOf K H (.bl x) (.type "bool")
  | int (i : Int) : TyOf K H (.int i) (.type "int")
  | str (x : Str) : TyOf K H (.str x) (.type "str")
  | flt (x : UInt64) : TyOf K H (.flt x) (.type "float")
  | lst {a : Addr} {xs : List V} (e : H a = some (.lst xs)) : TyOf K H (.ref a) (.type "list")
  | frz {a : Addr} {o : Obj} {xs : List V} (e : H a = some (.frz o (.lst xs))) : TyOf K H (.ref a) (.type "list")
  | tup {a : Addr} {xs : List V} (e : H a = some (.tup xs)) : TyOf K H (.ref a) (.type "tuple")
  | dK {a : Addr} {kvs : List (Key × V)} (e : H a = some (.dK kvs)) : TyOf K H (.ref a) (.type "dict")
  | dT {a : Addr} {kvs : List (List Key × V)} (e : H a = some (.dT kvs)) : TyOf K H (.ref a) (.type "dict")
  | ins {a C dx : Addr} {fs : List (Str × V)} (e : H a = some (.ins C dx fs)) (cl : Cls K C) (ha : PySem.W.findIn K (.ref C) "__class__" = some (some (.builtin "object.__class__")))
      (hn : PySem.W.specialIn K (.builtin "object.__class__") "__get__" = some (some (.builtin "getset_descriptor.__get__"))) (htk : PySem.W.takesIn K (.builtin "object.__class__") = some true)
      (hm : PySem.W.mroIn K C (.type "object") = some true) : TyOf K H (.ref a) (.ref C)

theorem isinst_ok {x : V} {u t : Value} (I : Inv X pins σ H s) (rx : RelV x u) (ty : TyOf X.K H x t) (e : PySem.W.kitOne X.K t c = some b) (h : ∀ tk, Q (.bool b) { s with toks := tk }) :
    wpAny (model X.prog X.w) A (call (.builtin "isinstance") [u, c]) Q E s := by
  cases ty with
  | non => cases (show u = Value.none from rx); exact PySem.W.kia_one PySem.W.kitx_none I.kIn True.intro e (fun z => nomatch z) h
  | bl y => cases (show u = Value.bool y from rx); exact PySem.W.kia_one PySem.W.kitx_bool I.kIn True.intro e (fun z => nomatch z) h
  | int i => obtain ⟨t, q⟩ := (show ∃ t, u = Value.int i t from rx); cases q; exact PySem.W.kia_one PySem.W.kitx_int I.kIn True.intro e (fun z => nomatch z) h
  | str y => obtain ⟨t, q⟩ := (show ∃ t, u = Value.str y t from rx); cases q; exact PySem.W.kia_one PySem.W.kitx_str I.kIn True.intro e (fun z => nomatch z) h
  | flt y => obtain ⟨t, q⟩ := (show ∃ t, u = Value.float y t from rx); cases q; exact PySem.W.kia_one PySem.W.kitx_float I.kIn True.intro e (fun z => nomatch z) h
  | @lst a xs ea =>
    cases (show u = Value.ref a from rx)
    obtain ⟨_, _, n, _, h1⟩ := (show ObjOk X.prog X.w H s.heap a (.lst xs) from I.hok a _ ea)
    exact PySem.W.kia_one PySem.W.kitx_list I.kIn ⟨_, h1, rfl⟩ e (fun z => nomatch z) h
  | @frz a ob xs ea =>
    cases (show u = Value.ref a from rx)
    obtain ⟨_, _, _, n, _, h1⟩ := (show ObjOk X.prog X.w H s.heap a (.frz ob (.lst xs)) from I.hok a _ ea)
    exact PySem.W.kia_one PySem.W.kitx_list I.kIn ⟨_, h1, rfl⟩ e (fun z => nomatch z) h
  | @tup a xs ea =>
    cases (show u = Value.ref a from rx)
    obtain ⟨_, _, _, p⟩ := (show ObjOk X.prog X.w H s.heap a (.tup xs) from I.hok a _ ea)
    obtain ⟨o, h1, h2, _⟩ := p
    exact PySem.W.kia_one PySem.W.kitx_tuple I.kIn ⟨o, h1, h2⟩ e (fun z => nomatch z) h
  | @dK a kvs ea =>
    cases (show u = Value.ref a from rx)
    obtain ⟨_, _, vs, _, p⟩ := (show ObjOk X.prog X.w H s.heap a (.dK kvs) from I.hok a _ ea)
    obtain ⟨o, es, ep, h1, h2, _⟩ := p
    exact PySem.W.kia_one PySem.W.kitx_dict I.kIn ⟨o, h1, h2.1⟩ e (fun z => nomatch z) h
  | @dT a kvs ea =>
    cases (show u = Value.ref a from rx)
    obtain ⟨_, _, xs, _, o, es, ep, h1, h2, _⟩ := (show ObjOk X.prog X.w H s.heap a (.dT kvs) from I.hok a _ ea)
    exact PySem.W.kia_one PySem.W.kitx_dict I.kIn ⟨o, h1, h2.1⟩ e (fun z => nomatch z) h
  | @ins a C dx fs ea cl ha hn htk hm =>
    cases (show u = Value.ref a from rx)
    obtain ⟨mA, O, _⟩ := ins_get I.hok ea
    obtain ⟨od, J, _⟩ := O.look
    exact PySem.W.kia_one (PySem.W.kitx_own (cl.get _) cl.hd ha hn htk hm) I.kIn J e (fun z => nomatch z) h
end
end L2

namespace L2
open PySem PySem.Spec PyProof.Rows


structure Room (k : Nat) (A : Around) : Prop where
  hd : A.handled = none
  dp : A.depth + 3 * k + 5 < recursionLimit
  un : A.units + 16 * k + 200 < cLine
theorem Room.mono {j k : Nat} {A : Around} (r : Room k A) (h : j ≤ k) : Room j A := ⟨r.hd, by have := r.dp; lia, by have := r.un; lia⟩
theorem Room.deeper {k : Nat} {A : Around} (r : Room (k + 1) A) (env : Env) : Room k (A.deeper env) :=
  ⟨r.hd, by have := r.dp; show A.depth + 1 + 3 * k + 5 < _; lia, by have := r.un; show A.units + 3 + 16 * k + 200 < _; lia⟩
theorem Room.in1 {k : Nat} {A : Around} (r : Room (k + 1) A) : Room k A.in1 :=
  ⟨r.hd, by have := r.dp; show A.depth + 3 * k + 5 < _; lia, by have := r.un; show A.units + 1 + 16 * k + 200 < _; lia⟩
theorem make_depth {A : Around} {C : Addr} {us : List Value} {kw : List (Str × Value)} : (A.under (.builtin "type.__call__" ⟨.ref C :: us, kw⟩)).depth = A.depth + 1 := by
  first | rfl | simp [Around.under, Code.weight, Code.isCreation, Code.isGuard, Code.isCaller, Code.frames, Code.isFrame, guardIds]
theorem make_units {A : Around} {C : Addr} {us : List Value} {kw : List (Str × Value)} : (A.under (.builtin "type.__call__" ⟨.ref C :: us, kw⟩)).units = A.units + 1 := by
  first | rfl | simp [Around.under, Code.cUnits, Code.frames, Code.isFrame]
theorem Room.make {k : Nat} {A : Around} (r : Room (k + 1) A) (C : Addr) (us : List Value) (kw : List (Str × Value)) : Room k (A.under (.builtin "type.__call__" ⟨.ref C :: us, kw⟩)) :=
  ⟨r.hd, by have := r.dp; rw [make_depth]; lia, by have := r.un; rw [make_units]; lia⟩
theorem Room.depth {k : Nat} {A : Around} (r : Room k A) : A.depth < recursionLimit := by have := r.dp; lia
theorem Room.units {k : Nat} {A : Around} (r : Room k A) : A.units + 64 < cLine := by have := r.un; lia
theorem Room.units0 {k : Nat} {A : Around} (r : Room k A) : A.units < cLine := by have := r.un; lia


noncomputable def tNil : TA := fun _ H Q => Q [] H
noncomputable def tCons (ta : TE) (tr : TA) : TA := fun σ H Q => ta σ H fun x H1 => tr σ H1 fun xs H2 => Q (x :: xs) H2
section
variable {X : Cx} {e : Expr} {es : List Expr} {te : TE} {t : TA} {pos : Pos}
theorem pa_nil : PA X [] tNil := fun _ _ _ _ H Q I h => Calls.spliced_nil ⟨[], H, I, .nil, h⟩
theorem pa_cons (ha : PE X e te) (hr : PA X es t) (hs : starEach (e :: es) X.env = (false, eval e X.env) :: starEach es X.env := by rfl) : PA X (e :: es) (tCons te t) := by
  intro pos pins s σ H Q I h
  rw [hs]
  show wpAny _ _ (spliced ((false, eval e X.env) :: backTo pos (starEach es X.env))) _ _ s
  refine Calls.spliced_cons (thn (ha pins s σ H _ I h) fun u s1 hh9 => ?_)
  obtain ⟨x, H1, I1, r1, q1⟩ := hh9
  exact thn (hr pos pins s1 σ H1 _ I1 q1) fun us s2 hh9 => by obtain ⟨xs, H2, I2, r2, q2⟩ := hh9; exact ⟨x :: xs, H2, I2, .cons r1 r2, q2⟩


noncomputable def tTup (t : TA) : TE := fun σ H Q => t σ H fun xs H1 => xs.length ≤ sizeLine ∧ ∀ p, H1 p = none → Q (.ref p) (upd H1 p (.tup xs))
noncomputable def tLst (t : TA) : TE := fun σ H Q => t σ H fun xs H1 => xs.length ≤ sizeLine ∧ ∀ p, H1 p = none → Q (.ref p) (upd H1 p (.lst xs))
theorem pe_tup {x1} (h : PA X es t) : PE X (.Tuple es x1 pos) (tTup t) := by
  intro pins s σ H Q I hq
  refine wpAny_Tuple_spliced (thn (h pos pins s σ H _ I hq) fun us s1 ⟨xs, H1, I1, r, z, q⟩ => ⟨by rw [← r.length]; exact z, ?_⟩)
  have hf : H1 s1.heap.objs.size = none := I1.hok.fresh (Nat.le_refl _)
  refine ⟨.ref s1.heap.objs.size, upd H1 s1.heap.objs.size (.tup xs), I1.laid (t' := s1.toks) (fun b u e => Heap.get?_push_of_some _ e) (Nat.le_refl _) ?_, rfl, q _ hf⟩
  exact ⟨z, us, r, ⟨_, Heap.get?_push_size _ rfl, rfl, _, rfl⟩⟩
theorem pe_lst (h : PA X es t) : PE X (.List es pos) (tLst t) := by
  intro pins s σ H Q I hq
  refine wpAny_List_spliced (thn (h pos pins s σ H _ I hq) fun us s1 ⟨xs, H1, I1, r, z, q⟩ => ⟨by rw [← r.length]; exact z, ?_⟩)
  have hf : H1 s1.heap.objs.size = none := I1.hok.fresh (Nat.le_refl _)
  refine ⟨.ref s1.heap.objs.size, upd H1 s1.heap.objs.size (.lst xs), I1.laid (t' := s1.toks) (fun b u e => Heap.get?_push_of_some _ e) (Nat.le_refl _) ?_, rfl, q _ hf⟩
  exact ⟨z, us, 0, r, Heap.get?_push_size _ rfl⟩
end



noncomputable abbrev Sp := List V → Hp → VK → XK → Prop

noncomputable abbrev CXT := List Env → Hp → Shared → XK → Value → Shared → Prop


structure Env0 (P : Program) (w : World) (K : PySem.W.Frag) (mg : Str → Option Value) (base : Heap) (A : Around) (outer : List Env) (s : Shared) (H : Hp) : Prop where
  frames : A.frames = some outer
  mod : Mod K mg base
  bs : ∀ b o, base.get? b = some o → s.heap.get? b = some o ∧ H b = none
  bsz : base.objs.size ≤ s.heap.objs.size
  funs : s.heap.FunFrames base outer
  frf : ∀ b ∈ frs outer, H b = none
  hok : HOk P w H s.heap
  bare : AllBare s.gens

noncomputable def CE (outer : List Env) (P : Program) (w : World) (H : Hp) (s : Shared) (Q : VK) (u : Value) (s' : Shared) : Prop :=
  ∃ v H', s'.os = s.os ∧ AllBare s'.gens ∧ Un (frs outer) [] H H' s.heap s'.heap ∧ HOk P w H' s'.heap ∧ RelV v u ∧ Q v H'
noncomputable def CR (CX : CXT) (outer : List Env) (P : Program) (w : World) (H : Hp) (s : Shared) (Q : VK) (E : XK) (r : Result) (s' : Shared) : Prop :=
  match r with
  | .ok (.ret u) => CE outer P w H s Q u s'
  | .ok _ => False
  | .error e => CX outer H s E e s'
structure FnOk (P : Program) (w : World) (K : PySem.W.Frag) (mg : Str → Option Value) (base : Heap) (CX : CXT) (k : Nat) (f : Addr) (fd : FuncData) (ps : List Str) (sp : Sp) : Prop where
  len : ∀ vs H Q E, sp vs H Q E → vs.length = ps.length
  run : ∀ (A : Around) (outer : List Env) (s : Shared) (H : Hp) (args : Args) (us : List Value) (vs : List V) (Q : VK) (E : XK), Room k A → Env0 P w K mg base A outer s H → BindsTo s fd args (ps.zip us) → Vals vs us → sp vs H Q E →
    codeAny (model P w) A (.call (.ref f) args) (CR CX outer P w H s Q E) s
theorem FnOk.imp {P : Program} {w : World} {K : PySem.W.Frag} {mg : Str → Option Value} {base : Heap} {CX : CXT} {k : Nat} {f : Addr} {fd : FuncData} {ps : List Str} {sp sp' : Sp} (F : FnOk P w K mg base CX k f fd ps sp)
    (h : ∀ vs H Q E, sp' vs H Q E → sp vs H Q E) : FnOk P w K mg base CX k f fd ps sp' :=
  ⟨fun vs H Q E q => F.len vs H Q E (h _ _ _ _ q), fun A outer s H args us vs Q E hr he hb hv hs => F.run A outer s H args us vs Q E hr he hb hv (h _ _ _ _ hs)⟩

theorem Env0.make {P : Program} {w : World} {K : PySem.W.Frag} {mg : Str → Option Value} {base : Heap} {A : Around} {outer : List Env} {s : Shared} {H : Hp} (e : Env0 P w K mg base A outer s H) (C : Addr) (us : List Value) (kw : List (Str × Value)) :
    Env0 P w K mg base (A.under (.builtin "type.__call__" ⟨.ref C :: us, kw⟩)) outer s H := ⟨by first | exact e.frames | (simpa [Around.under, Code.envs, Code.isFrame, pushEnvs] using e.frames), e.mod, e.bs, e.bsz, e.funs, e.frf, e.hok, e.bare⟩
section
variable {X : Cx} {pins : List (Addr × Obj)} {σ : St} {H : Hp} {s s' : Shared}

theorem Inv.env0 (I : Inv X pins σ H s) : Env0 X.prog X.w X.K X.mg X.base X.A X.stack s H :=
  ⟨I.ok.frames, I.ok.mod, I.bs, Nat.le_trans I.ok.bsz I.sz, I.stack, I.stkFree, I.hok, I.bare⟩

theorem Inv.after {Q : VK} {u : Value} (I : Inv X pins σ H s) (h : CE X.stack X.prog X.w H s Q u s') : EP X pins σ Q u s' := by
  obtain ⟨v, H', os, bare, un, hok, r, q⟩ := h
  obtain ⟨hh, g, d, t, os'⟩ := s'
  obtain rfl : os' = s.os := os
  exact ⟨v, H', I.call (h' := hh) (g' := g) (d' := d) (t' := t) (ch := []) un hok bare (fun b z => absurd z (by simp)), r, q⟩
end



noncomputable def tCall (sp : Sp) (dvs : List V) (E : XK) (t : TA) : TE := fun σ H Q => t σ H fun vs H1 => sp (vs ++ dvs) H1 Q E

noncomputable def tMeth (C : Addr) (m : Str) (sp : Sp) (dvs : List V) (E : XK) (ta : TE) (t : TA) : TE := fun σ H Q => ta σ H fun x H1 => ∃ a dx fs, x = .ref a ∧ H1 a = some (.ins C dx fs) ∧ fs.lookup m = none ∧
  t σ H1 fun vs H2 => sp (x :: (vs ++ dvs)) H2 Q E

noncomputable def tMake (C : Addr) (sp : Sp) (dvs : List V) (E : XK) (t : TA) : TE := fun σ H Q => t σ H fun vs H1 => ∀ x dx, H1 x = none → H1 dx = none → dx ≠ x →
  sp (.ref x :: (vs ++ dvs)) (upd (upd H1 dx (.own x)) x (.ins C dx [])) (fun v H2 => v = .non ∧ Q (.ref x) H2) E


noncomputable def Binds (K : PySem.W.Frag) (fd : FuncData) (ps : List Str) (ds : List Value) : Prop :=
  ∀ (s : Shared) (us : List Value), K.In s.heap → (us ++ ds).length = ps.length → BindsTo s fd ⟨us, []⟩ (ps.zip (us ++ ds))

theorem Binds.all {K : PySem.W.Frag} {fd : FuncData} {ps : List Str} (h : ∀ us : List Value, us.length = ps.length → bindArgs fd ⟨us, []⟩ = pure (ps.zip us)) : Binds K fd ps [] := fun s us _ hl => by
  rw [List.append_nil] at hl ⊢
  exact .of_eq (h us hl)


noncomputable def Passes (CX : CXT) (X : Cx) (E : XK) : Prop := ∀ (pins : List (Addr × Obj)) (σ : St) (H : Hp) (s : Shared) (e : Value) (s' : Shared), Inv X pins σ H s → CX X.stack H s E e s' → X.xe e s'

section
variable {X : Cx} {CX : CXT} {k : Nat} {f C : Addr} {fd : FuncData} {ps : List Str} {sp : Sp} {dvs : List V} {ds : List Value} {E : XK} {x m : Str} {p pos apos : Pos} {e o : Expr} {es : List Expr} {ta : TE} {t : TA}


theorem run_fn {pins : List (Addr × Obj)} {σ : St} {H : Hp} {s : Shared} {Q : VK} {us : List Value} {vs : List V} (F : FnOk X.prog X.w X.K X.mg X.base CX k f fd ps sp) (hr : Room k X.A) (hb : Binds X.K fd ps ds) (hd : Vals dvs ds) (hx : Passes CX X E)
    (I : Inv X pins σ H s) (r : Vals vs us) (h : sp (vs ++ dvs) H Q E) : wpAny (model X.prog X.w) X.A (call (.ref f) us) (EP X pins σ Q) X.xe s := by
  have r2 : Vals (vs ++ dvs) (us ++ ds) := r.append hd
  have hl : (us ++ ds).length = ps.length := by rw [← r2.length]; exact F.len _ _ _ _ h
  refine wpAny_call (codeAny_mono (F.run X.A X.stack s H ⟨us, []⟩ (us ++ ds) (vs ++ dvs) Q E hr I.env0 (hb s us I.kIn hl) r2 h) fun r s' hq => ?_)
  cases r with
  | error e => exact hx pins σ H s e s' I hq
  | ok fl =>
    cases fl with
    | ret u => exact I.after hq
    | next => exact False.elim hq
    | brk => exact False.elim hq
    | cont => exact False.elim hq

theorem pe_call (F : FnOk X.prog X.w X.K X.mg X.base CX k f fd ps sp) (hr : Room k X.A) (hg : Gl X x) (hm : X.mg x = some (.ref f)) (hk : PySem.W.keepIn X.K (.ref f) = true) (hb : Binds X.K fd ps ds) (hd : Vals dvs ds) (hx : Passes CX X E)
    (ha : PA X (e :: es) t) (hdb : (x == ("__debug__" : Str)) = false := by decide) (he : starEach (e :: es) X.env = (false, eval e X.env) :: starEach es X.env := by rfl) (hpl : (backTo pos (starEach es X.env)).any (·.1) = false := by rfl) :
    PE X (.Call (.Name x p) (e :: es) [] pos) (tCall sp dvs E t) := by
  intro pins s σ H Q I h
  refine wpAny_Call_Name_kw (ld_glob I hg hm ?_ hdb)
  refine PySem.W.callWith_K (h₀ := X.base) I.ok.mod.kin hk (thn (ha pos pins s σ H _ I h) fun us s1 ⟨vs, H1, I1, r, q⟩ => ⟨I1.kIn, ?_⟩) he hpl
  exact run_fn F hr hb hd hx I1 r q
theorem pe_meth {pl : Sem Bool} (he : PE X o ta) (c : Cls X.K C) (hm : Meth X.K C m f) (F : FnOk X.prog X.w X.K X.mg X.base CX k f fd ps sp) (hr : Room k X.A) (hb : Binds X.K fd ps ds) (hd : Vals dvs ds) (hx : Passes CX X E) (ha : PA X (e :: es) t)
    (hst : starEach (e :: es) X.env = (false, eval e X.env) :: starEach es X.env := by rfl) (hpl : (backTo pos (starEach es X.env)).any (·.1) = false := by rfl)
    (ht : eval (.Call (.Attribute o m apos) (e :: es) [] pos) X.env = (do
      let ov ← eval o X.env
      standAt apos.atName
      let (f, first) ← holding [ov] (getMethod ov m pl)
      callWith pos f first (backTo pos (starEach (e :: es) X.env)) (backToKw pos (keywordEach [] X.env))) := by rfl) :
    PE X (.Call (.Attribute o m apos) (e :: es) [] pos) (tMeth C m sp dvs E ta t) := by
  intro pins s σ H Q I h
  refine PySem.W.methodCall_KW (pl := pl) (thn (he pins s σ H _ I h) fun u s1 hh9 => ?_) ht
  obtain ⟨x, H1, I1, rx, a, dx, fs, ex, ea, l, q⟩ := hh9
  subst ex
  obtain rfl : u = Value.ref a := rx
  refine getmeth_ok I1 ea c hm l ?_
  refine PySem.W.callWith_K (first := [.ref a]) (h₀ := X.base) I.ok.mod.kin hm.kp (thn (ha pos pins s1 σ H1 _ I1 q) fun us s2 ⟨vs, H2, I2, r, q2⟩ => ⟨I2.kIn, ?_⟩) hst hpl
  exact run_fn (us := .ref a :: us) (vs := .ref a :: vs) F hr hb hd hx I2 (.cons rfl r) q2

theorem pe_meth0 {pl : Sem Bool} (he : PE X o ta) (c : Cls X.K C) (hm : Meth X.K C m f) (F : FnOk X.prog X.w X.K X.mg X.base CX k f fd ps sp) (hr : Room k X.A) (hb : Binds X.K fd ps ds) (hd : Vals dvs ds) (hx : Passes CX X E)
    (ht : eval (.Call (.Attribute o m apos) [] [] pos) X.env = (do
      let ov ← eval o X.env
      standAt apos.atName
      let (f, first) ← holding [ov] (getMethod ov m pl)
      callWith pos f first (backTo pos (starEach [] X.env)) (backToKw pos (keywordEach [] X.env))) := by rfl) :
    PE X (.Call (.Attribute o m apos) [] [] pos) (tMeth C m sp dvs E ta tNil) := by
  intro pins s σ H Q I h
  refine PySem.W.methodCall_KW (pl := pl) (thn (he pins s σ H _ I h) fun u s1 hh9 => ?_) ht
  obtain ⟨x, H1, I1, rx, a, dx, fs, ex, ea, l, q⟩ := hh9
  subst ex
  obtain rfl : u = Value.ref a := rx
  refine getmeth_ok I1 ea c hm l ?_
  exact PySem.W.callWith_K0 (first := [.ref a]) I1.kIn hm.kp (run_fn (us := [.ref a]) (vs := [.ref a]) F hr hb hd hx I1 (.cons rfl .nil) q)


structure Mk (K : PySem.W.Frag) (C f : Addr) : Prop where
  makes : PySem.W.makesIn K C = true
  init : PySem.W.findIn K (.ref C) "__init__" = some (some (.ref f))
  fn : PySem.W.isFn K (.ref f) = true
  kp : PySem.W.keepIn K (.ref C) = true

theorem run_make {pins : List (Addr × Obj)} {σ : St} {H : Hp} {s : Shared} {Q : VK} {us : List Value} {vs : List V} (M : Mk X.K C f) (F : FnOk X.prog X.w X.K X.mg X.base CX k f fd ps sp) (hr : Room (k + 1) X.A) (hb : Binds X.K fd ps ds) (hd : Vals dvs ds)
    (hx : Passes CX X E) (I : Inv X pins σ H s) (r : Vals vs us)
    (h : ∀ x dx, H x = none → H dx = none → dx ≠ x → sp (.ref x :: (vs ++ dvs)) (upd (upd H dx (.own x)) x (.ins C dx [])) (fun v H2 => v = .non ∧ Q (.ref x) H2) E) :
    wpAny (model X.prog X.w) X.A (call (.ref C) us) (EP X pins σ Q) X.xe s := by
  have hq := h (s.heap.objs.size + 1) s.heap.objs.size (I.hok.fresh (Nat.le_succ _)) (I.hok.fresh (Nat.le_refl _)) (Nat.ne_of_lt (Nat.lt_succ_self _))
  have I2 := Inv.made (C := C) I
  have r2 : Vals (V.ref (s.heap.objs.size + 1) :: (vs ++ dvs)) (Value.ref (s.heap.objs.size + 1) :: (us ++ ds)) := .cons rfl (r.append hd)
  have hl : (Value.ref (s.heap.objs.size + 1) :: us ++ ds).length = ps.length := by
    have e := r2.length
    rw [F.len _ _ _ _ hq] at e
    exact e.symm
  refine wpAny_call (make_map (f := f) I.kIn M.makes M.init (beq_iff_eq.mp M.fn) (codeAny_mono (F.run _ X.stack _ _ ⟨Value.ref (s.heap.objs.size + 1) :: us, []⟩ (Value.ref (s.heap.objs.size + 1) :: (us ++ ds)) _ _ E (hr.make C us [])
    (I2.env0.make C us []) (hb _ (Value.ref (s.heap.objs.size + 1) :: us) I2.kIn hl) r2 hq) fun r s' hq' => ?_))
  cases r with
  | error e => exact hx pins σ _ _ e s' I2 hq'
  | ok fl =>
    cases fl with
    | ret u =>
      obtain ⟨v, H', I3, rv, ev, q3⟩ := I2.after hq'
      subst ev
      exact ⟨rv, ⟨V.ref (s.heap.objs.size + 1), H', I3, rfl, q3⟩⟩
    | next => exact False.elim hq'
    | brk => exact False.elim hq'
    | cont => exact False.elim hq'
theorem pe_make (M : Mk X.K C f) (F : FnOk X.prog X.w X.K X.mg X.base CX k f fd ps sp) (hr : Room (k + 1) X.A) (hg : Gl X x) (hm : X.mg x = some (.ref C)) (hb : Binds X.K fd ps ds) (hd : Vals dvs ds) (hx : Passes CX X E)
    (ha : PA X (e :: es) t) (hdb : (x == ("__debug__" : Str)) = false := by decide) (he : starEach (e :: es) X.env = (false, eval e X.env) :: starEach es X.env := by rfl) (hpl : (backTo pos (starEach es X.env)).any (·.1) = false := by rfl) :
    PE X (.Call (.Name x p) (e :: es) [] pos) (tMake C sp dvs E t) := by
  intro pins s σ H Q I h
  refine wpAny_Call_Name_kw (ld_glob I hg hm ?_ hdb)
  refine PySem.W.callWith_K (h₀ := X.base) I.ok.mod.kin M.kp (thn (ha pos pins s σ H _ I h) fun us s1 ⟨vs, H1, I1, r, q⟩ => ⟨I1.kIn, ?_⟩) he hpl
  exact run_make M F hr hb hd hx I1 r q
end



section
variable {X : Cx} {CX : CXT} {k : Nat} {f C : Addr} {fd : FuncData} {ps ks : List Str} {sp : Sp} {E : XK} {x m : Str} {p pos apos kpos : Pos} {e o : Expr} {es : List Expr} {kws : List Keyword} {te ta : TE} {t tk : TA} {nm : Option Str}
variable {g : List Value → List Value → List Value} {gV : List V → List V → List V}
end



structure FnScope (N P : List Str) (sc : Scope) : Prop where
  kind : sc.kind = .function
  co : sc.isCoroutine = false
  gen : sc.isGenerator = false
  nd : N.Nodup
  pre : N.take P.length = P
  par : ∀ x ∈ P, sc.names.lookup x = some .local ∨ sc.names.lookup x = some .cell
  nofree : ∀ y ∈ sc.names, y.2 ≠ .free

theorem bindL_out {kindOf : Str → Option NameKind} {x : Str} : ∀ {binds : List (Str × Value)} {m : Str → Option Value}, (∀ v, (x, v) ∉ binds) → bindL kindOf binds m x = m x
  | [], _, _ => rfl
  | (n, v) :: r, m, h => by
    unfold bindL
    rw [bindL_out fun w hw => h w (List.mem_cons_of_mem _ hw)]
    split
    · have : x ≠ n := by rintro rfl; exact h v List.mem_cons_self
      simp [this]
    · rfl
theorem bindC_out {kindOf : Str → Option NameKind} {x : Str} : ∀ {binds : List (Str × Value)} {m : Str → Option Value}, (∀ v, (x, v) ∉ binds) → bindC kindOf binds m x = m x
  | [], _, _ => rfl
  | (n, v) :: r, m, h => by
    unfold bindC
    rw [bindC_out fun w hw => h w (List.mem_cons_of_mem _ hw)]
    split
    · rfl
    · have : x ≠ n := by rintro rfl; exact h v List.mem_cons_self
      simp [this]
theorem bindL_get {kindOf : Str → Option NameKind} {x : Str} {v : Value} : ∀ {P : List Str} {vs : List Value} {i : Nat} {m : Str → Option Value}, P.Nodup → P[i]? = some x → vs[i]? = some v → kindOf x = some .local →
    bindL kindOf (P.zip vs) m x = some v
  | [], _, _, _, _, h, _, _ => by simp at h
  | _ :: _, [], _, _, _, _, h, _ => by simp at h
  | p :: P, w :: vs, 0, m, nd, h1, h2, hk => by
    simp at h1 h2; subst h1; subst h2
    show bindL kindOf ((p, w) :: P.zip vs) m p = _
    unfold bindL
    rw [bindL_out fun v hv => (List.nodup_cons.mp nd).1 (List.of_mem_zip hv).1, if_pos hk]
    simp
  | p :: P, w :: vs, i + 1, m, nd, h1, h2, hk => by
    show bindL kindOf ((p, w) :: P.zip vs) m x = _
    unfold bindL
    exact bindL_get (i := i) (List.nodup_cons.mp nd).2 (by simpa using h1) (by simpa using h2) hk
theorem bindC_get {kindOf : Str → Option NameKind} {x : Str} {v : Value} : ∀ {P : List Str} {vs : List Value} {i : Nat} {m : Str → Option Value}, P.Nodup → P[i]? = some x → vs[i]? = some v → kindOf x ≠ some .local →
    bindC kindOf (P.zip vs) m x = some v
  | [], _, _, _, _, h, _, _ => by simp at h
  | _ :: _, [], _, _, _, _, h, _ => by simp at h
  | p :: P, w :: vs, 0, m, nd, h1, h2, hk => by
    simp at h1 h2; subst h1; subst h2
    show bindC kindOf ((p, w) :: P.zip vs) m p = _
    unfold bindC
    rw [bindC_out fun v hv => (List.nodup_cons.mp nd).1 (List.of_mem_zip hv).1, if_neg hk]
    simp
  | p :: P, w :: vs, i + 1, m, nd, h1, h2, hk => by
    show bindC kindOf ((p, w) :: P.zip vs) m x = _
    unfold bindC
    exact bindC_get (i := i) (List.nodup_cons.mp nd).2 (by simpa using h1) (by simpa using h2) hk


noncomputable def start (N : List Str) (vs : List V) : St := vs.map some ++ List.replicate (N.length - vs.length) none


noncomputable def cxOf (CX : CXT) (P : Program) (w : World) (K : PySem.W.Frag) (mg : Str → Option Value) (base : Heap) (N : List Str) (qual : Str) (scope : Scope) (f : Addr) (cd : Value) (A : Around) (outer : List Env) (s : Shared) (H : Hp) (E : XK) : Cx where
  prog := P
  w := w
  K := K
  mg := mg
  base := base
  A := A.deeper (envOfC qual scope s.heap.objs.size f cd)
  N := N
  s₀ := s
  H₀ := H
  env := envOfC qual scope s.heap.objs.size f cd
  outer := outer
  stack := envOfC qual scope s.heap.objs.size f cd :: outer
  ex := []
  calm := true
  fn := fun _ => true
  pn := []
  xe := fun e s' => wpAny (model P w) (A.deeper (envOfC qual scope s.heap.objs.size f cd)) (leaving (envOfC qual scope s.heap.objs.size f cd) e) (fun _ s'' => CX outer H s E e s'') (fun e' s'' => CX outer H s E e' s'') s'

theorem cell_has {sc : Scope} {n : Nat} {x : Str} (h : sc.names.lookup x = some .cell) : ∃ c, (cellsFrom n sc.names []).lookup x = some c := by
  have q := PySem.W.cellsFrom_some sc.names n [] (.inl h)
  exact Option.isSome_iff_exists.mp q

theorem inv_start {CX : CXT} {P : Program} {w : World} {K : PySem.W.Frag} {mg : Str → Option Value} {base : Heap} {N ps : List Str} {qual : Str} {scope : Scope} {f : Addr} {cd : Value} {A : Around} {outer : List Env} {s s1 : Shared} {H : Hp} {E : XK} {us : List Value} {vs : List V}
    (S : FnScope N ps scope) (hd : A.handled = none) (e0 : Env0 P w K mg base A outer s H) (hl : vs.length = ps.length) (r : Vals vs us)
    (x : InCallC s s.heap.objs.size (bindL (envOfC qual scope s.heap.objs.size f cd).kindOf (ps.zip us) fun _ => none) (cellsFrom (s.heap.objs.size + 1) scope.names []) (bindC (envOfC qual scope s.heap.objs.size f cd).kindOf (ps.zip us) fun _ => none) s1) :
    Inv (cxOf CX P w K mg base N qual scope f cd A outer s H E) [] (start N vs) H s1 := by
  have hpl : ps.length ≤ N.length := by have := congrArg List.length S.pre; rw [List.length_take] at this; lia
  obtain ⟨h1, tk, rfl, hk⟩ := x.done
  have noA : ∀ b : Addr, b ∉ (cxOf CX P w K mg base N qual scope f cd A outer s H E).ex := fun b z => absurd (show b ∈ ([] : List Addr) from z) (by simp)
  refine ⟨⟨e0.mod, S.kind, rfl, rfl, Nat.le_refl _, fun y z c h1 h2 => ?_, fun y hy => ?_, fun y c _ h => ?_, fun _ => hd, Around.frames_deeper e0.frames, .inr ⟨rfl, rfl⟩, fun b z => absurd z (noA b), e0.bs, e0.bsz, fun b _ _ => noA b, fun b z => absurd z (noA b), e0.funs, e0.frf⟩,
    rfl, e0.bare, Un.kept hk, ⟨_, x.toInCall.ns, fun i y v h1 h2 h3 => ?_⟩, fun y c h => ⟨_, x.cell y c h⟩, e0.hok.fresh (Nat.le_refl _), fun y c h => ?_, fun p hp => absurd (show p ∈ ([] : List (Addr × Obj)) from hp) (by simp), e0.hok.kept hk, ?_⟩
  · exact name_of_addr x.apart (PySem.mem_of_lookup h1) (PySem.mem_of_lookup h2)
  · have hy : scope.names.lookup y = some .cell ∨ scope.names.lookup y = some .free := hy
    rcases hy with hy | hy
    · exact cell_has hy
    · exact absurd rfl (S.nofree _ (PySem.mem_of_lookup hy))
  · exact Nat.le_of_lt (x.above y c (PySem.mem_of_lookup h))
  · have hi : i < vs.length := by
      unfold start at h2
      by_cases hi : i < vs.length
      · exact hi
      · rw [List.getElem?_append_right (by simpa using hi)] at h2
        rw [List.getElem?_replicate] at h2
        split at h2 <;> cases h2
    have ha : vs[i]? = some v := by
      unfold start at h2
      rw [List.getElem?_append_left (by simpa using hi), List.getElem?_map] at h2
      cases e : vs[i]? with
      | none => rw [e] at h2; cases h2
      | some a => rw [e] at h2; cases h2; rfl
    obtain ⟨u, hu, rv⟩ := r.get ha
    have hp : ps[i]? = some y := by
      rw [← S.pre, List.getElem?_take_of_lt (by lia)]; exact h1
    have ndP : ps.Nodup := by rw [← S.pre]; exact S.nd.sublist (List.take_sublist _ _)
    refine ⟨u, rv, ?_⟩
    rcases S.par y (List.mem_of_getElem? hp) with k | k
    · exact .inl ⟨k, bindL_get ndP hp hu k⟩
    · obtain ⟨c, e⟩ := cell_has (n := s.heap.objs.size + 1) k
      refine .inr ⟨.inl k, c, e, ?_⟩
      have q := x.cell y c e
      rw [bindC_get ndP hp hu (by show scope.names.lookup y ≠ _; rw [k]; decide)] at q
      exact q
  · exact e0.hok.fresh (Nat.le_of_lt (x.above y c (PySem.mem_of_lookup h)))
  · unfold start
    show _ = N.length
    rw [List.length_append, List.length_map, List.length_replicate]
    lia


theorem fn_of {CX : CXT} {P : Program} {w : World} {K : PySem.W.Frag} {mg : Str → Option Value} {base : Heap} {k : Nat} {f : Addr} {name qual : Str} {params : Arguments} {body : List Stmt} {scope : Scope} {dV kV doc pm cdv ct oc : Value} {an od : Option Addr}
    {osl : Array (Option Value)} {N ps : List Str} {sp : Sp} (lk : K.lookup f = some ⟨oc, od, .func (PySem.W.fnOf name qual params body scope dV kV doc pm an cdv ct), osl⟩) (hcd : PySem.W.codeIn K cdv qual = true) (S : FnScope N ps scope)
    (len : ∀ vs H Q E, sp vs H Q E → vs.length = ps.length)
    (hbody : ∀ (A : Around) (outer : List Env) (s : Shared) (H : Hp) (vs : List V) (Q : VK) (E : XK), Room k (A.deeper (envOfC qual scope s.heap.objs.size f cdv)) → sp vs H Q E →
      ∃ t, PSs (cxOf CX P w K mg base N qual scope f cdv A outer s H E) body t ∧ t { nx := fun _ H' => Q .non H', rt := Q } (start N vs) H) :
    FnOk P w K mg base CX (k + 1) f (PySem.W.fnOf name qual params body scope dV kV doc pm an cdv ct) ps sp := by
  refine ⟨len, fun A outer s H args us vs Q E hr e0 hb r hsp => ?_⟩
  have hl := len _ _ _ _ hsp
  have KX : K.In s.heap := e0.mod.kin.keeps fun b o e => (e0.bs b o e).1
  have lim : s.heap.NoLimit := e0.mod.nolimit.keeps fun b o e => (e0.bs b o e).1
  have hkind : ∀ y ∈ ps.zip us, scope.names.lookup y.1 = some .local ∨ (scope.names.lookup y.1 = some .cell ∧ ((cellsFrom (s.heap.objs.size + 1) scope.names []).lookup y.1).isSome = true) := fun ⟨n, v⟩ hy => by
    rcases S.par n (List.of_mem_zip hy).1 with q | q
    · exact .inl q
    · exact .inr ⟨q, PySem.W.cellsFrom_some _ _ _ (.inl q)⟩
  refine codeAny_call_function hr.depth (KX _ _ lk) rfl S.co S.gen rfl (PySem.W.codeRec_of KX hcd) (hb _ _ _ _ ?_)
  refine wpAny_newFunctionEnv_cells S.kind hkind fun env he s1 x => ?_
  subst he
  refine ⟨lim.keeps x.toInCall.keep, codeAny_func ?_⟩
  obtain ⟨t, ht, hq⟩ := hbody A outer s H vs Q E (hr.deeper _) hsp
  have I : Inv (cxOf CX P w K mg base N qual scope f cdv A outer s H E) [] (start N vs) H s1 := inv_start S hr.hd e0 hl r x
  refine wpAny_mono (ht [] s1 (start N vs) H _ I hq) (fun fl s' hs => ?_) fun e s' hs => hs
  have fin : ∀ {σ' : St} {H' : Hp} {v : V} {u : Value}, Inv (cxOf CX P w K mg base N qual scope f cdv A outer s H E) [] σ' H' s' → RelV v u → Q v H' → CE outer P w H s Q u s' :=
    fun {σ' H' v u} J rv q => ⟨v, H', J.os, J.bare, J.base, J.hok, rv, q⟩
  cases fl with
  | ret u =>
    obtain ⟨v, σ', H', J, rv, q⟩ := hs
    exact fin J rv q
  | next =>
    obtain ⟨σ', H', J, q⟩ := hs
    exact fin (v := V.non) (u := Value.none) J rfl q
  | brk =>
    obtain ⟨_, _, _, q⟩ := hs
    exact False.elim q
  | cont =>
    obtain ⟨_, _, _, q⟩ := hs
    exact False.elim q
end L2

namespace L2
open PySem PySem.Spec PyProof.Rows
section
variable {X : Cx} {x : Str} {p pos : Pos} {e : Expr} {es : List Expr} {t : TA} {id T : String} {r : List V → Hp → VK → Prop}

noncomputable def tCB (r : List V → Hp → VK → Prop) (t : TA) : TE := fun σ H Q => t σ H fun vs H1 => r vs H1 Q

theorem pe_callB (hc : CallR X (.builtin id) r) (hg : Gl X x) (hm : X.mg x = none) (hv : bootBuiltins x = some (.builtin id)) (ha : PA X (e :: es) t) (hn : x ≠ "__name__" := by decide) (hdb : (x == ("__debug__" : Str)) = false := by decide)
    (he : starEach (e :: es) X.env = (false, eval e X.env) :: starEach es X.env := by rfl) (hpl : (backTo pos (starEach es X.env)).any (·.1) = false := by rfl) : PE X (.Call (.Name x p) (e :: es) [] pos) (tCB r t) := by
  intro pins s σ H Q I h
  refine wpAny_Call_Name_kw (ld_blt I hg hm hv ?_ hn hdb)
  exact PyProof.Rows.callWith_builtin1 (thn (ha pos pins s σ H _ I h) fun us s1 hh9 => by obtain ⟨vs, H1, I1, r1, q1⟩ := hh9; exact hc pins s1 σ H1 vs us Q I1 r1 q1) he hpl

theorem pe_callTy (hc : CallR X (.type T) r) (hg : Gl X x) (hm : X.mg x = none) (hv : bootBuiltins x = some (.type T)) (ha : PA X (e :: es) t) (hn : x ≠ "__name__" := by decide) (hdb : (x == ("__debug__" : Str)) = false := by decide)
    (he : starEach (e :: es) X.env = (false, eval e X.env) :: starEach es X.env := by rfl) (hpl : (backTo pos (starEach es X.env)).any (·.1) = false := by rfl) : PE X (.Call (.Name x p) (e :: es) [] pos) (tCB r t) := by
  intro pins s σ H Q I h
  refine wpAny_Call_Name_kw (ld_blt I hg hm hv ?_ hn hdb)
  exact PyProof.Rows.callWith_type1 (thn (ha pos pins s σ H _ I h) fun us s1 hh9 => by obtain ⟨vs, H1, I1, r1, q1⟩ := hh9; exact hc pins s1 σ H1 vs us Q I1 r1 q1) he hpl

end
end L2

namespace HT
open PySem PyProof.Rows


noncomputable def lexLt : List Int → List Int → Bool
  | [], [] => false
  | [], _ :: _ => true
  | _ :: _, [] => false
  | x :: xs, y :: ys => if x = y then lexLt xs ys else decide (x < y)
theorem lexLt_cons (x y : Int) (xs ys : List Int) : lexLt (x :: xs) (y :: ys) = if x = y then lexLt xs ys else decide (x < y) := rfl
theorem lexLt_nil_nil : lexLt [] [] = false := rfl
theorem eqAt_int (A : Around) (s : Shared) (a : Int) (t : Tok) (c : Int) (u : Tok) : ∃ e, SeqAt.EqAt A s (.int a t) (.int c u) e ∧ (e = true ↔ a = c) :=
  ⟨(a == c), SeqAt.EqAt.int_int a t c u, by simp⟩
section
open PySem.SeqAt
open PySem.AutoSeq1 (wpAny_loadPart')
open PySem.MeetsSeq PySem.MeetsSeq2 PySem.MeetsSeq3

end

section
variable {prog : Program} {w : World} {A : Around} {E : Value → Shared → Prop} {s : Shared}

noncomputable def sIx (n d : Nat) : Option Int → Nat
  | none => d
  | some v => if v < 0 then (v + (n : Int)).toNat else min v.toNat n
theorem sIx_nat (n d k : Nat) : sIx n d (some (k : Int)) = min k n := by
  show (if (k : Int) < 0 then ((k : Int) + (n : Int)).toNat else min (k : Int).toNat n) = min k n
  rw [if_neg (by lia), Int.toNat_natCast]
end
end HT

namespace L2
open PySem PySem.Spec PyProof.Rows


noncomputable abbrev TO := St → Hp → (Option Int → Hp → Prop) → Prop

noncomputable def PO (X : Cx) (e : Option Expr) (t : TO) : Prop :=
  ∀ (pins : List (Addr × Obj)) (s : Shared) (σ : St) (H : Hp) (Q : Option Int → Hp → Prop), Inv X pins σ H s → t σ H Q →
    wpAny (model X.prog X.w) X.A (evalPart e X.env) (fun u s' => ∃ o H', Inv X pins σ H' s' ∧ IsPart u o ∧ Q o H') X.xe s
noncomputable def tNoPart : TO := fun _ H Q => Q none H
noncomputable def tPart (t : TE) : TO := fun σ H Q => t σ H fun x H1 => ∃ i, x = .int i ∧ Q (some i) H1

theorem intsAre_of {ns : List Int} : ∀ {us : List Value}, Vals (ns.map V.int) us → IntsAre us ns := by
  induction ns with
  | nil => intro us r; rw [List.map_nil] at r; cases r; exact .nil
  | cons n ns ih =>
    intro us r
    rw [List.map_cons] at r
    cases r with
    | cons r1 r2 =>
      obtain ⟨t, e⟩ := r1
      subst e
      exact .cons n t (ih r2)

section
variable {X : Cx} {e : Expr} {te : TE} {lo hi : Option Expr} {tl th : TO} {pos p2 : Pos}

theorem po_none : PO X none tNoPart := by
  intro pins s σ H Q I h
  rw [evalPart_none]
  exact wpAny_pure ⟨none, H, I, .none, h⟩
theorem po_some (h : PE X e te) : PO X (some e) (tPart te) := by
  intro pins s σ H Q I hw
  rw [evalPart_some]
  refine thn (h pins s σ H _ I hw) fun u s1 hh9 => ?_
  obtain ⟨x, H1, I1, r1, q1⟩ := hh9
  obtain ⟨i, rfl, q⟩ := q1
  obtain ⟨t, rfl⟩ := r1
  exact ⟨some i, H1, I1, .int i t, q⟩


noncomputable def SlR (X : Cx) (r : V → Option Int → Option Int → Hp → VK → Prop) : Prop :=
  ∀ (pins : List (Addr × Obj)) (s : Shared) (σ : St) (H : Hp) (x : V) (v vl vu : Value) (lo hi : Option Int) (sl : Addr) (Q : VK), Inv X pins σ H s → RelV x v → s.heap.IsSliceOf sl vl vu .none → IsPart vl lo → IsPart vu hi → r x lo hi H Q →
    ∃ T id, typeLookup (.type T) "__getitem__" = pure (some (.builtin id)) ∧ s.TypeIs v T ∧ wpAny (model X.prog X.w) X.A (getItem v (.ref sl)) (EP X pins σ Q) X.xe s
noncomputable def tSl (r : V → Option Int → Option Int → Hp → VK → Prop) (te : TE) (tl th : TO) : TE := fun σ H Q => te σ H fun x H1 => tl σ H1 fun l H2 => th σ H2 fun u H3 => r x l u H3 Q

theorem pe_slice {r : V → Option Int → Option Int → Hp → VK → Prop} (hr : SlR X r) (he : PE X e te) (hl : PO X lo tl) (hu : PO X hi th) : PE X (.Subscript e (.Slice lo hi none p2) pos) (tSl r te tl th) := by
  intro pins s σ H Q I h
  refine Subscript_ (thn (he pins s σ H _ I h) fun v s1 hh9 => ?_)
  obtain ⟨x, H1, I1, r1, q1⟩ := hh9
  refine wpAny_Slice (thn (hl pins s1 σ H1 _ I1 q1) fun vl s2 ⟨l, H2, I2, pl, q2⟩ => thn (hu pins s2 σ H2 _ I2 q2) fun vu s3 hh9 => ?_)
  obtain ⟨u, H3, I3, pu, q3⟩ := hh9
  rw [evalPart_none]
  refine wpAny_pure ?_
  have I4 : Inv X pins σ H3 { s3 with heap := s3.heap.push { cls := .type "slice", data := .fields #[vl, vu, .none] } } := I3.kept (t' := s3.toks) fun b ob q => Heap.get?_push_of_some _ q
  obtain ⟨T, id, hT, ht, hg⟩ := hr pins { s3 with heap := s3.heap.push { cls := .type "slice", data := .fields #[vl, vu, .none] } } σ H3 x v vl vu l u s3.heap.objs.size Q I4 r1 (Heap.IsSliceOf.new ..) pl pu q3
  show wpAny (model X.prog X.w) X.A (subscriptTail e (.Slice lo hi none p2) v (.ref s3.heap.objs.size)) (EP X pins σ Q) X.xe { s3 with heap := s3.heap.push { cls := .type "slice", data := .fields #[vl, vu, .none] } }
  exact tail_any (ops := [.ref s3.heap.objs.size, v]) ht hT hg (by with_unfolding_all rfl)


noncomputable def cutV (xs : List V) (lo hi : Option Int) : List V := (xs.drop (HT.sIx xs.length 0 lo)).take (HT.sIx xs.length xs.length hi - HT.sIx xs.length 0 lo)
theorem cutV_length (xs : List V) (lo hi : Option Int) : (cutV xs lo hi).length ≤ xs.length := by
  unfold cutV
  rw [List.length_take, List.length_drop]
  lia

end
end L2

namespace L2
open PySem PySem.Spec PyProof.Rows



noncomputable def ixN (n : Nat) (i : Int) : Option Nat := if 0 ≤ i then (if i < n then some i.toNat else none) else if -(n : Int) ≤ i then some (i + n).toNat else none
noncomputable def atI {α : Type} (xs : List α) (i : Int) : Option α := (ixN xs.length i).bind fun j => xs[j]?
theorem ixN_seq {n : Nat} {i : Int} {j : Nat} (h : ixN n i = some j) : seqIndex? i n = some j ∧ j < n ∧ -(n : Int) ≤ i ∧ i < n := by
  unfold ixN at h
  by_cases h0 : 0 ≤ i
  · rw [if_pos h0] at h
    by_cases h1 : i < n
    · rw [if_pos h1] at h
      have e : i.toNat = j := Option.some.inj h
      exact ⟨by rw [seqIndex_of h0 h1, e], by lia, by lia, h1⟩
    · rw [if_neg h1] at h; cases h
  · rw [if_neg h0] at h
    by_cases h1 : -(n : Int) ≤ i
    · rw [if_pos h1] at h
      have e : (i + n).toNat = j := Option.some.inj h
      exact ⟨by rw [seqIndex_neg (by lia) h1, e], by lia, h1, by lia⟩
    · rw [if_neg h1] at h; cases h
theorem atI_get {α : Type} {xs : List α} {i : Int} {v : α} (h : atI xs i = some v) : ∃ j, seqIndex? i xs.length = some j ∧ xs[j]? = some v ∧ j < xs.length ∧ -(xs.length : Int) ≤ i ∧ i < xs.length := by
  unfold atI at h
  cases e : ixN xs.length i with
  | none => rw [e] at h; cases h
  | some j =>
    rw [e] at h
    obtain ⟨h1, h2, h3, h4⟩ := ixN_seq e
    exact ⟨j, h1, h, h2, h3, h4⟩
theorem atI_nat {α : Type} {xs : List α} {j : Nat} {v : α} (h : xs[j]? = some v) : atI xs (j : Int) = some v := by
  have hj : j < xs.length := (List.getElem?_eq_some_iff.mp h).1
  have e : ixN xs.length (j : Int) = some j := by
    unfold ixN
    rw [if_pos (by lia), if_pos (by lia)]; simp
  unfold atI; rw [e]; exact h
noncomputable def PlainIx (b : Expr) : Prop := ∀ o i, subscripted b false o i = operate [o, i] (getItem o i)

noncomputable def IxR (X : Cx) (r : R2) : Prop :=
  ∀ (value slice : Expr) (pins : List (Addr × Obj)) (s : Shared) (σ : St) (H : Hp) (x y : V) (v u : Value) (Q : VK), Inv X pins σ H s → RelV x v → RelV y u → r x y H Q →
    subscripted slice false v u = operate [v, u] (getItem v u) → wpAny (model X.prog X.w) X.A (subscriptTail value slice v u) (EP X pins σ Q) X.xe s

noncomputable def MtR (X : Cx) (id : String) (r : V → List V → Hp → VK → Prop) : Prop :=
  ∀ (pins : List (Addr × Obj)) (s : Shared) (σ : St) (H : Hp) (x : V) (xs : List V) (v : Value) (us : List Value) (Q : VK), Inv X pins σ H s → RelV x v → Vals xs us → r x xs H Q →
    wpAny (model X.prog X.w) X.A (call (.builtin id) (v :: us)) (EP X pins σ Q) X.xe s
section
variable {X : Cx} {a b : Expr} {ta tb : TE} {pos : Pos}
theorem pe_ix {r : R2} (hr : IxR X r) (ha : PE X a ta) (hb : PE X b tb) (hs : PlainIx b) : PE X (.Subscript a b pos) (tOp r ta tb) := by
  intro pins s σ H Q I h
  exact Subscript_ (binT ha hb I h fun v u s2 x y H2 I2 rx ry q => hr a b pins s2 σ H2 x y v u Q I2 rx ry q (hs _ _))

noncomputable def rIxL (K : PySem.W.Frag) : R2 := fun x y H Q => ∃ p xs i v, x = .ref p ∧ y = .int i ∧ SqL K H p xs ∧ atI xs i = some v ∧ Q v H
noncomputable def rIxT (K : PySem.W.Frag) : R2 := fun x y H Q => ∃ p xs i v, x = .ref p ∧ y = .int i ∧ SqT K H p xs ∧ atI xs i = some v ∧ Q v H
theorem ix_list : IxR X (rIxL X.K) := by
  intro value slice pins s σ H x y v u Q I rx ry h hs
  obtain ⟨p, xs, i, z, rfl, rfl, hq, he, q⟩ := h
  cases rx
  obtain ⟨t, rfl⟩ := ry
  obtain ⟨its, r, pl, hz⟩ := I.list hq
  obtain ⟨j, h1, h2, h3, h4, h5⟩ := atI_get he
  obtain ⟨w, ew, rw'⟩ := r.get h2
  have hl := r.length
  have hn := line63
  have fin : EP X pins σ Q w s := ⟨z, H, I, rw', q⟩
  by_cases h0 : 0 ≤ i
  · have hj : i.toNat = j := by
      rw [seqIndex_of h0 h5] at h1
      exact Option.some.inj h1
    exact item_listR pl.isList h0 (by lia) (by rw [hj]; simpa using ew) fin hs
  · have hj : (i + (its.toArray.size : Int)).toNat = j := by
      rw [seqIndex_neg (by lia) h4] at h1
      rw [List.size_toArray, ← hl]
      exact Option.some.inj h1
    exact subscriptTail_builtinR (x := w) pl.isList.typeIs slot_list_getitem.lookup
      (wpAny_getItem_list_neg (Q := fun r s' => r = w ∧ EP X pins σ Q r s') pl.isList (by lia) (by rw [List.size_toArray] <;> lia) (by lia) (by rw [hj]; simpa using ew) ⟨rfl, fin⟩) hs
theorem ix_tup : IxR X (rIxT X.K) := by
  intro value slice pins s σ H x y v u Q I rx ry h hs
  obtain ⟨p, xs, i, z, rfl, rfl, hq, he, q⟩ := h
  cases rx
  obtain ⟨t, rfl⟩ := ry
  obtain ⟨its, r, pl, hz⟩ := I.tuple hq
  obtain ⟨j, h1, h2, h3, h4, h5⟩ := atI_get he
  obtain ⟨w, ew, rw'⟩ := r.get h2
  have hl := r.length
  have hn := line63
  have fin : EP X pins σ Q w s := ⟨z, H, I, rw', q⟩
  exact subscriptTail_builtinR (x := w) pl.typeIs slot_tuple_getitem.lookup
    (getItem_tuple (j := j) (Q := fun r s' => r = w ∧ EP X pins σ Q r s') pl (by lia) (by lia) (by rw [List.size_toArray, ← hl]; exact h1) (by simpa using ew) ⟨rfl, fin⟩) hs
theorem mapSeq_set (its : List Value) (n j : Nat) (u : Value) : Obj.mapSeq (·.setIfInBounds j u) { cls := .type "list", data := .seq its.toArray n } = { cls := .type "list", data := .seq (its.set j u).toArray n } := by
  simp [Obj.mapSeq]
theorem Inv.lst {pins : List (Addr × Obj)} {σ : St} {H : Hp} {s : Shared} {p : Addr} {xs : List V} (I : Inv X pins σ H s) (h : H p = some (.lst xs)) :
    ∃ (its : List Value) (n : Nat), Vals xs its ∧ s.heap.get? p = some { cls := .type "list", data := .seq its.toArray n } ∧ xs.length ≤ sizeLine := by
  obtain ⟨z, its, n, r, e⟩ := I.hok p _ h
  exact ⟨its, n, r, e, z⟩

theorem Inv.lstUpd {pins : List (Addr × Obj)} {σ : St} {H : Hp} {s : Shared} {p : Addr} {xs ys : List V} {its its' : List Value} {n n' : Nat} {f : Obj → Obj} (I : Inv X pins σ H s) (h : H p = some (.lst xs))
    (ho : s.heap.get? p = some { cls := .type "list", data := .seq its.toArray n }) (hf : f { cls := .type "list", data := .seq its.toArray n } = { cls := .type "list", data := .seq its'.toArray n' }) (r : Vals ys its') (hz : ys.length ≤ sizeLine) (t : Nat) :
    Inv X pins σ (upd H p (.lst ys)) { s with heap := s.heap.update p f, toks := t } := by
  have e : (s.heap.update p f).get? p = some { cls := .type "list", data := .seq its'.toArray n' } := by
    rw [Heap.get?_update_self f ho (by rw [hf] <;> rfl), hf]
  refine I.write (x := p) (e := p) (by rw [h]; trivial) (.inl rfl) (fun b u hb q => (Heap.get?_update_other _ _ (Ne.symm hb)).trans q) ⟨_, e⟩ ?_
  exact ⟨hz, its', n', r, e⟩
noncomputable def rSetL : V → V → V → Hp → (Hp → Prop) → Prop := fun o i v H Q => ∃ p xs k j, o = .ref p ∧ i = .int k ∧ H p = some (.lst xs) ∧ ixN xs.length k = some j ∧ Q (upd H p (.lst (xs.set j v)))
theorem set_list : PSet X rSetL := by
  intro pins s σ H o i v ov iv u Q I ro ri rv h
  obtain ⟨p, xs, k, j, rfl, rfl, hp, hj, q⟩ := h
  cases ro
  obtain ⟨t, rfl⟩ := ri
  obtain ⟨its, n, r, ho, hz⟩ := I.lst hp
  obtain ⟨h1, h2, h3, h4⟩ := ixN_seq hj
  have hl := r.length
  have hn := line63
  have I' : Inv X pins σ (upd H p (.lst (xs.set j v))) { s with heap := s.heap.update p (Obj.mapSeq (·.setIfInBounds j u)) } :=
    I.lstUpd hp ho (mapSeq_set its n j u) (r.set rv j) (by rw [List.length_set]; exact hz) s.toks
  by_cases h0 : 0 ≤ k
  · have hk : k.toNat = j := by
      rw [seqIndex_of h0 h4] at h1
      exact Option.some.inj h1
    exact PySem.W.ki_setAt ho h0 (by lia) (by rw [List.size_toArray, ← hl]; exact h4) (by rw [hk]; exact ⟨_, I', q⟩)
  · have hk : (k + (its.toArray.size : Int)).toNat = j := by
      rw [seqIndex_neg (by lia) h3] at h1
      rw [List.size_toArray, ← hl]
      exact Option.some.inj h1
    exact PySem.W.ki_setBack ho (by lia) (by rw [List.size_toArray, ← hl]; exact h3) (by lia) (by rw [hk]; exact ⟨_, I', q⟩)


theorem slice_bounds (lo hi : Option Int) (n : Nat) : (sliceBounds lo hi none n).1 = ((HT.sIx n 0 lo : Nat) : Int) ∧ (sliceBounds lo hi none n).2.1 = ((HT.sIx n n hi : Nat) : Int) ∧ (sliceBounds lo hi none n).2.2 = 1 := by
  refine ⟨?_, ?_, rfl⟩
  · cases lo with
    | none => simp [sliceBounds, HT.sIx]
    | some i =>
      simp only [sliceBounds, HT.sIx, Option.getD_none, show (1 : Int) > 0 by decide, if_true]
      by_cases h : i < 0
      · simp only [h, if_true] <;> lia
      · simp only [h, if_false] <;> lia
  · cases hi with
    | none => simp [sliceBounds, HT.sIx]
    | some i =>
      simp only [sliceBounds, HT.sIx, Option.getD_none, show (1 : Int) > 0 by decide, if_true]
      by_cases h : i < 0
      · simp only [h, if_true] <;> lia
      · simp only [h, if_false] <;> lia
theorem slicePick_cut (its : List Value) (lo hi : Option Int) : slicePick its.toArray lo hi none = ((its.drop (HT.sIx its.length 0 lo)).take (HT.sIx its.length its.length hi - HT.sIx its.length 0 lo)).toArray := by
  obtain ⟨h1, h2, h3⟩ := slice_bounds lo hi its.toArray.size
  unfold slicePick
  rw [h1, h2, h3]
  simp only [sliceRange_one, pick_run, List.size_toArray] <;> rfl

noncomputable def rSlL (K : PySem.W.Frag) : V → Option Int → Option Int → Hp → VK → Prop := fun x lo hi H Q => ∃ a xs, x = .ref a ∧ SqL K H a xs ∧ ∀ p, H p = none → Q (.ref p) (upd H p (.lst (cutV xs lo hi)))
theorem sl_list : SlR X (rSlL X.K) := by
  intro pins s σ H x v vl vu lo hi sl Q I rx hs pl pu h
  obtain ⟨a, xs, rfl, hx, q⟩ := h
  cases rx
  obtain ⟨its, r, ht, hz⟩ := I.list hx
  have hlen := r.length
  refine ⟨"list", _, slot_list_getitem.lookup, ht.isList.typeIs, ?_⟩
  refine wpAny_getItem_list_slice ht.isList hs pl pu .none (by simp) ?_ (by rw [List.size_toArray] <;> lia)
  rw [slicePick_cut, ← hlen]
  refine ⟨.ref s.heap.objs.size, _, I.laid (t' := s.toks) (o := .lst (cutV xs lo hi)) (fun b ob q => Heap.get?_push_of_some _ q) (Nat.le_refl _) ?_, rfl, q _ (I.hok.fresh (Nat.le_refl _))⟩
  exact ⟨Nat.le_trans (cutV_length xs lo hi) hz, _, 0, (r.drop (HT.sIx xs.length 0 lo)).take (HT.sIx xs.length xs.length hi - HT.sIx xs.length 0 lo), Heap.get?_push_size _ rfl⟩


noncomputable def flatV : V → Bool
  | .non => true
  | .bl _ => true
  | .int _ => true
  | .str _ => true
  | _ => false

noncomputable def eqV : V → V → Bool
  | .non, .non => true
  | .bl a, .bl b => a == b
  | .bl a, .int b => (if a then 1 else 0) == b
  | .int a, .bl b => a == (if b then 1 else 0)
  | .int a, .int b => a == b
  | .str a, .str b => a == b
  | _, _ => false
theorem eqAt_V {A : Around} {s : Shared} {y x : V} {u v : Value} (ry : RelV y u) (rx : RelV x v) (fy : flatV y = true) (fx : flatV x = true) : SeqAt.EqAt A s u v (eqV y x) := by
  cases y with
  | non =>
    cases ry
    cases x with
    | non => cases rx; exact SeqAt.EqAt.same _
    | bl b => cases rx; exact SeqAt.EqAt.none_bool b
    | int b => obtain ⟨t, rfl⟩ := rx; exact SeqAt.EqAt.none_int b t
    | str b => obtain ⟨t, rfl⟩ := rx; exact SeqAt.EqAt.none_str b t
    | _ => exact absurd (show false = true from fx) Bool.false_ne_true
  | bl a =>
    cases ry
    cases x with
    | non => cases rx; exact SeqAt.EqAt.bool_none a
    | bl b => cases rx; exact SeqAt.EqAt.bool_bool a b
    | int b => obtain ⟨t, rfl⟩ := rx; exact SeqAt.EqAt.bool_int a b t
    | str b => obtain ⟨t, rfl⟩ := rx; exact SeqAt.EqAt.bool_str a b t
    | _ => exact absurd (show false = true from fx) Bool.false_ne_true
  | int a =>
    obtain ⟨t', rfl⟩ := ry
    cases x with
    | non => cases rx; exact SeqAt.EqAt.int_none a t'
    | bl b => cases rx; exact SeqAt.EqAt.int_bool a t' b
    | int b => obtain ⟨t, rfl⟩ := rx; exact SeqAt.EqAt.int_int a t' b t
    | str b => obtain ⟨t, rfl⟩ := rx; exact SeqAt.EqAt.int_str a t' b t
    | _ => exact absurd (show false = true from fx) Bool.false_ne_true
  | str a =>
    obtain ⟨t', rfl⟩ := ry
    cases x with
    | non => cases rx; exact SeqAt.EqAt.str_none a t'
    | bl b => cases rx; exact SeqAt.EqAt.str_bool a t' b
    | int b => obtain ⟨t, rfl⟩ := rx; exact SeqAt.EqAt.str_int a t' b t
    | str b => obtain ⟨t, rfl⟩ := rx; exact SeqAt.EqAt.str_str a t' b t
    | _ => exact absurd (show false = true from fx) Bool.false_ne_true
  | _ => exact absurd (show false = true from fy) Bool.false_ne_true

noncomputable def eqU (x : V) (u : Value) : Bool := match u with
  | .none => eqV .non x
  | .bool b => eqV (.bl b) x
  | .int i _ => eqV (.int i) x
  | .str z _ => eqV (.str z) x
  | _ => false
theorem eqU_of {x y : V} {u : Value} (r : RelV y u) (f : flatV y = true) : eqU x u = eqV y x := by
  cases y with
  | non => cases r; rfl
  | bl b => cases r; rfl
  | int i => obtain ⟨t, rfl⟩ := r; rfl
  | str z => obtain ⟨t, rfl⟩ := r; rfl
  | _ => exact absurd (show false = true from f) Bool.false_ne_true
theorem any_eqU {x : V} {xs : List V} {us : List Value} (h : Vals xs us) (f : xs.all flatV = true) : us.any (eqU x) = xs.any fun y => eqV y x := by
  induction h with
  | nil => rfl
  | cons r t ih =>
    rw [List.all_cons, Bool.and_eq_true] at f
    rw [List.any_cons, List.any_cons, eqU_of r f.1, ih f.2]
theorem mem_eqAt {A : Around} {s : Shared} {x : V} {v : Value} (rx : RelV x v) (fx : flatV x = true) : ∀ {xs : List V} {us : List Value}, Vals xs us → xs.all flatV = true → ∀ u ∈ us, SeqAt.EqAt A s u v (eqU x u)
  | _, _, .nil, _ => fun u hu => by cases hu
  | y :: xs, u :: us, .cons r t, f => fun u' hu => by
    rw [List.all_cons, Bool.and_eq_true] at f
    rcases List.mem_cons.mp hu with rfl | hu
    · rw [eqU_of r f.1]; exact eqAt_V r rx f.1 fx
    · exact mem_eqAt rx fx t f.2 u' hu
noncomputable def inV (x : V) (xs : List V) : Bool := xs.any fun y => eqV y x

noncomputable def rIn (K : PySem.W.Frag) (neg : Bool) : R2 := fun x y H Q => ∃ p xs, y = .ref p ∧ (SqL K H p xs ∨ SqT K H p xs) ∧ flatV x = true ∧ xs.all flatV = true ∧ Q (.bl (if neg then !inV x xs else inV x xs)) H
theorem op_in_seq : OpR X (compareOp .In) (rIn X.K false) := by
  intro pins s σ H x y v u Q I rx ry h
  obtain ⟨p, xs, rfl, hq, fx, fs, q⟩ := h
  cases ry
  rcases hq with hq | hq
  · obtain ⟨its, r, pl, hz⟩ := I.list hq
    refine SeqAt.in_listAt (eqU x) pl.isList (fun w hw => mem_eqAt rx fx r fs w (by simpa using hw)) ⟨.bl _, H, I, rfl, ?_⟩
    rw [show its.toArray.any (eqU x) = its.any (eqU x) by simp, any_eqU r fs]
    exact q
  · obtain ⟨its, r, pl, hz⟩ := I.tuple hq
    refine SeqAt.in_tupleAt (eqU x) pl (fun w hw => mem_eqAt rx fx r fs w (by simpa using hw)) ⟨.bl _, H, I, rfl, ?_⟩
    rw [show its.toArray.any (eqU x) = its.any (eqU x) by simp, any_eqU r fs]
    exact q
theorem op_notIn_seq : OpR X (compareOp .NotIn) (rIn X.K true) := by
  intro pins s σ H x y v u Q I rx ry h
  obtain ⟨p, xs, rfl, hq, fx, fs, q⟩ := h
  cases ry
  rcases hq with hq | hq
  · obtain ⟨its, r, pl, hz⟩ := I.list hq
    refine SeqAt.notIn_listAt (eqU x) pl.isList (fun w hw => mem_eqAt rx fx r fs w (by simpa using hw)) ⟨.bl _, H, I, rfl, ?_⟩
    rw [show its.toArray.any (eqU x) = its.any (eqU x) by simp, any_eqU r fs]
    exact q
  · obtain ⟨its, r, pl, hz⟩ := I.tuple hq
    refine SeqAt.notIn_tupleAt (eqU x) pl (fun w hw => mem_eqAt rx fx r fs w (by simpa using hw)) ⟨.bl _, H, I, rfl, ?_⟩
    rw [show its.toArray.any (eqU x) = its.any (eqU x) by simp, any_eqU r fs]
    exact q
theorem call_len_seq : CallR X (.builtin "len") (fun xs H Q => ∃ p ys, xs = [.ref p] ∧ (SqL X.K H p ys ∨ SqT X.K H p ys) ∧ Q (.int ys.length) H) := by
  intro pins s σ H xs us Q I r h
  obtain ⟨p, ys, rfl, hq, q⟩ := h
  obtain ⟨u, rfl, rx⟩ := vals1 r
  cases rx
  have hn := line63
  rcases hq with hq | hq
  · obtain ⟨its, r', pl, hz⟩ := I.list hq
    have hlen := r'.length
    exact Calls.call_len_list pl.isList (by simp only [List.size_toArray] <;> lia) ⟨.int ys.length, H, I.tok _, ⟨s.toks + 1, by rw [List.size_toArray, hlen]⟩, q⟩
  · obtain ⟨its, r', pl, hz⟩ := I.tuple hq
    have hlen := r'.length
    exact len_tuple pl (by simp only [List.size_toArray] <;> lia) ⟨.int ys.length, H, I.tok _, ⟨s.toks + 1, by rw [List.size_toArray, hlen]⟩, q⟩
noncomputable def tyV (K : PySem.W.Frag) (T : String) (x : V) (H : Hp) : Prop := match x with
  | .str _ => T = "str"
  | .int _ => T = "int"
  | .ref p => (T = "list" ∧ ∃ xs, SqL K H p xs) ∨ (T = "tuple" ∧ ∃ o, K.lookup p = some o ∧ o.cls = .type "tuple" ∧ o.dict = none) ∨
      (T = "dict" ∧ ((∃ kvs, H p = some (.dK kvs)) ∨ ∃ kvs, H p = some (.dT kvs))) ∨ (T = "set" ∧ ∃ S n, H p = some (.set S n))
  | _ => False
theorem tyV_is {pins : List (Addr × Obj)} {σ : St} {H : Hp} {s : Shared} {T : String} {x : V} {v : Value} (I : Inv X pins σ H s) (r : RelV x v) (ty : tyV X.K T x H) :
    s.TypeIs v T ∧ ∀ a, v = .ref a → ∃ ob, s.heap.get? a = some ob ∧ ob.dict = none := by
  cases x with
  | str z =>
    obtain ⟨t, rfl⟩ := r
    cases (show T = "str" from ty)
    exact ⟨typeIs_str s z t, fun _ e => nomatch e⟩
  | int i =>
    obtain ⟨t, rfl⟩ := r
    cases (show T = "int" from ty)
    exact ⟨typeIs_int s i t, fun _ e => nomatch e⟩
  | ref p =>
    cases r
    rcases ty with ⟨rfl, xs, hq⟩ | ⟨rfl, o, hk, hc, hd⟩ | ⟨rfl, hk⟩ | ⟨rfl, S, n, hk⟩
    · obtain ⟨its, _, pl, _⟩ := I.list hq
      refine ⟨pl.isList.typeIs, fun a e => ?_⟩
      cases e
      obtain ⟨o, n, e, c, hd, _⟩ := pl
      exact ⟨o, e, hd⟩
    · refine ⟨⟨o, I.kIn p o hk, hc⟩, fun a e => ?_⟩
      cases e
      exact ⟨o, I.kIn _ o hk, hd⟩
    · have z : ∃ o, s.heap.get? p = some o ∧ o.ExactDict := by
        rcases hk with ⟨kvs, hk⟩ | ⟨kvs, hk⟩
        · obtain ⟨_, _, _, _, o, _, _, e, ex, _⟩ := I.hok p _ hk
          exact ⟨o, e, ex⟩
        · obtain ⟨_, _, _, _, o, _, _, e, ex, _⟩ := I.hok p _ hk
          exact ⟨o, e, ex⟩
      obtain ⟨o, e, ex⟩ := z
      refine ⟨⟨o, e, ex.1⟩, fun a e2 => ?_⟩
      cases e2
      exact ⟨o, e, ex.2.1⟩
    · obtain ⟨o, _, _, _, e, ex, _⟩ := I.hok p _ hk
      refine ⟨⟨o, e, ex.1⟩, fun a e2 => ?_⟩
      cases e2
      exact ⟨o, e, ex.2.1⟩
  | _ => exact False.elim ty
noncomputable def tBM0 (K : PySem.W.Frag) (T : String) (r : V → List V → Hp → VK → Prop) (to : TE) : TE := fun σ H Q => to σ H fun x H1 => tyV K T x H1 ∧ r x [] H1 Q
noncomputable def tBM (K : PySem.W.Frag) (T : String) (r : V → List V → Hp → VK → Prop) (to : TE) (t : TA) : TE := fun σ H Q => to σ H fun x H1 => tyV K T x H1 ∧ t σ H1 fun xs H2 => r x xs H2 Q
variable {o e : Expr} {es : List Expr} {to : TE} {t : TA} {name : Str} {apos cpos : Pos} {T id : String} {r : V → List V → Hp → VK → Prop}
theorem pe_bm0 (pa : PlainAttrs T) (slot : Slot T name id) (hty : typeOf (.builtin id) = pure (.type "method_descriptor")) (hm : MtR X id r) (ho : PE X o to)
    (hbase : attributeBase o name X.env (eval o X.env) = eval o X.env := by rfl) (hline : (apos.endLine == cpos.line) = true := by rfl) : PE X (.Call (.Attribute o name apos) [] [] cpos) (tBM0 X.K T r to) := by
  intro pins s σ H Q I h
  refine wpAny_Call_method0_late hbase hline (thn (ho pins s σ H _ I h) fun v s1 hh9 => ?_)
  obtain ⟨x, H1, I1, r1, ty, q1⟩ := hh9
  obtain ⟨h1, h2⟩ := tyV_is I1 r1 ty
  exact ⟨T, id, pa, slot, hty, h1, h2, Calls.callWith_builtin rfl (PySem.evalArgs_none (hm pins s1 σ H1 x [] v [] Q I1 r1 .nil q1))⟩
theorem pe_bm (pa : PlainAttrs T) (slot : Slot T name id) (hty : typeOf (.builtin id) = pure (.type "method_descriptor")) (hm : MtR X id r) (ho : PE X o to) (ha : PA X (e :: es) t)
    (hbase : attributeBase o name X.env (eval o X.env) = eval o X.env := by rfl)
    (hfew : ((backTo cpos (starEach (e :: es) X.env)).all (fun x => !x.1) && (backToKw cpos (keywordEach [] X.env)).all (fun x => x.1.isSome)
      && decide ((e :: es).length + ([] : List Keyword).length + (if ([] : List Keyword).isEmpty then 0 else 1) < 30)) = true := by rfl)
    (hline : (apos.endLine == cpos.line) = true := by rfl) (hs : starEach (e :: es) X.env = (false, eval e X.env) :: starEach es X.env := by rfl) (hplain : (backTo cpos (starEach es X.env)).any (·.1) = false := by rfl) :
    PE X (.Call (.Attribute o name apos) (e :: es) [] cpos) (tBM X.K T r to t) := by
  intro pins s σ H Q I h
  refine wpAny_Call_method_late hbase hfew hline rfl (thn (ho pins s σ H _ I h) fun v s1 hh9 => ?_)
  obtain ⟨x, H1, I1, r1, ty, q1⟩ := hh9
  obtain ⟨h1, h2⟩ := tyV_is I1 r1 ty
  refine ⟨T, id, pa, slot, hty, h1, h2, ?_⟩
  have hA := ha cpos pins s1 σ H1 _ I1 q1
  rw [hs] at hA ⊢
  refine Calls.callWith_builtin (by show (false || (backTo cpos (starEach es X.env)).any (·.1)) = false; rw [hplain] <;> rfl) (Calls.evalArgs_plain ?_)
  exact thn hA fun us s2 hh9 => by obtain ⟨vs, H2, I2, r2, q2⟩ := hh9; exact hm pins s2 σ H2 x vs v us Q I2 r1 r2 q2

end
end L2

namespace L2
open PySem PySem.Spec PyProof.Rows

noncomputable def MtM (X : Cx) (id : String) (r : V → List V → Hp → VK → Prop) : Prop :=
  ∀ (pins : List (Addr × Obj)) (s : Shared) (σ : St) (H : Hp) (x : V) (xs : List V) (v : Value) (us : List Value) (Q : VK), Inv X pins σ H s → RelV x v → Vals xs us → r x xs H Q →
    wpAny (model X.prog X.w) X.A (call (.builtin id) (v :: us)) (EP X pins σ Q) X.xe s


theorem Vals.one {x : V} {us : List Value} (h : Vals [x] us) : ∃ u, us = [u] ∧ RelV x u := by
  cases h with
  | cons r t =>
    cases t
    exact ⟨_, rfl, r⟩
theorem Vals.zero : ∀ {us : List Value}, Vals [] us → us = []
  | _, .nil => rfl
theorem Vals.dropLast {xs : List V} {us : List Value} (h : Vals xs us) : Vals xs.dropLast us.dropLast := by
  induction h with
  | nil => exact .nil
  | cons r t ih =>
    cases t with
    | nil => exact .nil
    | cons q t' => exact .cons r ih
theorem Vals.rep {xs : List V} {us : List Value} (h : Vals xs us) : ∀ k : Nat, Vals (List.replicate k xs).flatten (List.replicate k us).flatten
  | 0 => .nil
  | k + 1 => by
    rw [List.replicate_succ, List.replicate_succ, List.flatten_cons, List.flatten_cons]
    exact Vals.append h (Vals.rep h k)
theorem erase_last {α : Type} (l : List α) : l.eraseIdx (l.length - 1) = l.dropLast := by
  induction l with
  | nil => rfl
  | cons a r ih =>
    cases r with
    | nil => rfl
    | cons b r =>
      have e : (a :: b :: r).length - 1 = ((b :: r).length - 1) + 1 := by
        have h1 : (a :: b :: r).length = r.length + 2 := rfl
        have h2 : (b :: r).length = r.length + 1 := rfl
        lia
      rw [e, List.eraseIdx_cons_succ, ih]
      all_goals rfl
theorem foldl_rep (its : List Value) : ∀ (k : Nat) (acc : List Value),
    List.foldl (fun x1 x2 => x1 ++ x2) acc.toArray (List.replicate k its.toArray) = (acc ++ (List.replicate k its).flatten).toArray
  | 0, acc => by simp
  | k + 1, acc => by
    have e : acc.toArray ++ its.toArray = (acc ++ its).toArray := by simp
    have e2 : (acc ++ its) ++ (List.replicate k its).flatten = acc ++ (List.replicate (k + 1) its).flatten := by
      rw [List.replicate_succ, List.flatten_cons, List.append_assoc]
    rw [← e2, ← foldl_rep its k (acc ++ its), ← e, List.replicate_succ, List.foldl_cons]

section
variable {X : Cx} {pins : List (Addr × Obj)} {σ : St} {H : Hp} {s : Shared} {l b : Addr} {xs ys zs : List V}


theorem Inv.lset {its its' : List Value} {n : Nat} {f : Array Value → Array Value} {t' : Nat} (I : Inv X pins σ H s) (hH : H l = some (.lst xs))
    (e : s.heap.get? l = some { cls := .type "list", data := .seq its.toArray n }) (hf : f its.toArray = its'.toArray) (hv : Vals ys its') (hz : ys.length ≤ sizeLine) :
    Inv X pins σ (upd H l (.lst ys)) { s with heap := s.heap.update l (Obj.mapSeq f), toks := t' } := by
  have q := PySem.IsL.update e f
  rw [hf] at q
  refine I.write (x := l) (e := l) (by rw [hH]; exact trivial) (.inl rfl) (fun b' u hb hu => (Heap.get?_update_other s.heap (Obj.mapSeq f) (Ne.symm hb)).trans hu) ⟨_, q⟩ ?_
  exact ⟨hz, its', _, hv, q⟩
theorem Inv.lnew {its : List Value} {t' : Nat} (I : Inv X pins σ H s) (hv : Vals ys its) (hz : ys.length ≤ sizeLine) :
    Inv X pins σ (upd H s.heap.objs.size (.lst ys)) { s with heap := s.heap.push { cls := .type "list", data := .seq its.toArray }, toks := t' } :=
  I.laid (fun _ _ q => Heap.get?_push_of_some _ q) (Nat.le_refl _) ⟨hz, its, 0, hv, Heap.get?_push_size _ rfl⟩
theorem Inv.fresh (I : Inv X pins σ H s) : H s.heap.objs.size = none := I.hok.fresh (Nat.le_refl _)
theorem Inv.lstM (I : Inv X pins σ H s) (hH : H l = some (.lst xs)) : xs.length ≤ sizeLine ∧ ∃ (its : List Value) (n : Nat), Vals xs its ∧ xs.length = its.length ∧ s.heap.get? l = some { cls := .type "list", data := .seq its.toArray n } := by
  obtain ⟨z, its, n, r, e⟩ := I.hok l _ hH
  exact ⟨z, its, n, r, r.length, e⟩

theorem notLongL {n : Nat} (h : n ≤ sizeLine) : Builtin.List.listTooLong n = false := by
  unfold Builtin.List.listTooLong
  exact decide_eq_false (by lia)
end

section
variable {X : Cx}


noncomputable def rAppend : V → List V → Hp → VK → Prop := fun x vs H Q => ∃ l xs y, x = .ref l ∧ vs = [y] ∧ H l = some (.lst xs) ∧ xs.length < sizeLine ∧ Q .non (upd H l (.lst (xs ++ [y])))
theorem mt_append : MtM X "list.append" rAppend := by
  intro pins s σ H x vs v us Q I rx rv h
  obtain ⟨l, xs, y, rfl, rfl, hH, hz, q⟩ := h
  cases rx
  obtain ⟨u, rfl, ru⟩ := rv.one
  obtain ⟨z, its, n, r, hl, e⟩ := I.lstM hH
  refine call_meets F.slot_list_append ⟨_, e, rfl⟩ F.entry_list_append (F.args_list_append_2 _ _) (PySem.list_append l its.toArray n u (by rw [List.size_toArray]; lia)) ⟨e, ?_⟩
  refine ⟨.non, _, I.lset (its' := its ++ [u]) hH e (by simp) (r.append (.cons ru .nil)) ?_, rfl, q⟩
  rw [List.length_append, List.length_singleton]
  lia

noncomputable def rExtend : V → List V → Hp → VK → Prop := fun x vs H Q => ∃ l b xs zs, x = .ref l ∧ vs = [.ref b] ∧ H l = some (.lst xs) ∧ H b = some (.lst zs) ∧ xs.length + zs.length ≤ sizeLine ∧ Q .non (upd H l (.lst (xs ++ zs)))
theorem mt_extend : MtM X "list.extend" rExtend := by
  intro pins s σ H x vs v us Q I rx rv h
  obtain ⟨l, b, xs, zs, rfl, rfl, hH, hB, hz, q⟩ := h
  cases rx
  obtain ⟨u, rfl, ru⟩ := rv.one
  cases ru
  obtain ⟨z, its, n, r, hl, e⟩ := I.lstM hH
  obtain ⟨z2, its2, n2, r2, hl2, e2⟩ := I.lstM hB
  have hsz : its.toArray.size + its2.toArray.size ≤ sizeLine := by rw [List.size_toArray, List.size_toArray]; lia
  have hlong : ¬ (!its.toArray.isEmpty && Builtin.List.listTooLong (its.toArray.size + its2.toArray.size)) = true := by
    rw [notLongL hsz, Bool.and_false]
    exact Bool.false_ne_true
  refine call_meets F.slot_list_extend ⟨_, e, rfl⟩ F.entry_list_extend (F.args_list_extend_2 _ _)
    (AutoSeq1.list_extend_list_list_0 l its.toArray n b its2.toArray n2 hlong (by rw [List.size_toArray]; lia) (by lia)) ⟨e, e2, ?_⟩
  refine ⟨.non, _, I.lset (its' := its ++ its2) hH e (by simp) (r.append r2) ?_, rfl, q⟩
  rw [List.length_append]
  lia

noncomputable def rPop : V → List V → Hp → VK → Prop := fun x vs H Q => ∃ l xs y, x = .ref l ∧ vs = [] ∧ H l = some (.lst xs) ∧ xs[xs.length - 1]? = some y ∧ Q y (upd H l (.lst xs.dropLast))
theorem mt_pop : MtM X "list.pop" rPop := by
  intro pins s σ H x vs v us Q I rx rv h
  obtain ⟨l, xs, y, rfl, rfl, hH, hy, q⟩ := h
  cases rx
  have hus := rv.zero
  subst hus
  obtain ⟨z, its, n, r, hl, e⟩ := I.lstM hH
  obtain ⟨u, hu, ru⟩ := r.get hy
  have hy' : its.toArray[its.toArray.size - 1]? = some u := by
    show its.toArray[its.length - 1]? = some u
    rw [← Array.getElem?_toList, ← hl]
    exact hu
  refine call_meets F.slot_list_pop ⟨_, e, rfl⟩ F.entry_list_pop (F.args_list_pop_1 _) (MeetsSeq.list_pop_last l its.toArray n u hy' (by rw [List.size_toArray]; lia)) ⟨e, ?_⟩
  refine ⟨y, _, I.lset (its' := its.dropLast) hH e ?_ r.dropLast ?_, ru, q⟩
  · show its.toArray.eraseIdxIfInBounds (its.toArray.size - 1) = its.dropLast.toArray
    rw [List.size_toArray, List.eraseIdxIfInBounds_toArray, erase_last]
  · rw [List.length_dropLast]
    lia

noncomputable def rCat : R2 := fun x y H Q => ∃ l b xs zs, x = .ref l ∧ y = .ref b ∧ H l = some (.lst xs) ∧ H b = some (.lst zs) ∧ xs.length + zs.length ≤ sizeLine ∧ ∀ p, H p = none → Q (.ref p) (upd H p (.lst (xs ++ zs)))
theorem op_cat : OpR X (binaryOp .Add) rCat := by
  intro pins s σ H x y v u Q I rx ry h
  obtain ⟨l, b, xs, zs, rfl, rfl, hH, hB, hz, q⟩ := h
  cases rx
  cases ry
  obtain ⟨z, its, n, r, hl, e⟩ := I.lstM hH
  obtain ⟨z2, its2, n2, r2, hl2, e2⟩ := I.lstM hB
  refine PySem.P.add_list e e2 ?_ (by rw [List.size_toArray, List.size_toArray]; lia)
  have ea : its.toArray ++ its2.toArray = (its ++ its2).toArray := by simp
  rw [ea]
  exact ⟨.ref _, _, I.lnew (t' := s.toks) (r.append r2) (by rw [List.length_append]; lia), rfl, q _ I.fresh⟩

noncomputable def rRep : R2 := fun x y H Q => ∃ l k xs, x = .ref l ∧ y = .int k ∧ H l = some (.lst xs) ∧ -(2 ^ 63) ≤ k ∧ k < 2 ^ 63 ∧ xs.length * k.toNat ≤ sizeLine ∧
  ∀ p, H p = none → Q (.ref p) (upd H p (.lst (List.replicate k.toNat xs).flatten))
theorem len_rep {α : Type} (xs : List α) (k : Nat) : (List.replicate k xs).flatten.length = k * xs.length := by
  induction k with
  | zero => simp
  | succ k ih => rw [List.replicate_succ, List.flatten_cons, List.length_append, ih, Nat.succ_mul, Nat.add_comm]
theorem op_rep : OpR X (binaryOp .Mult) rRep := by
  intro pins s σ H x y v u Q I rx ry h
  obtain ⟨l, k, xs, rfl, rfl, hH, h1, h2, hz, q⟩ := h
  cases rx
  obtain ⟨t, rfl⟩ := ry
  obtain ⟨z, its, n, r, hl, e⟩ := I.lstM hH
  have hlen : its.toArray.size * k.toNat ≤ sizeLine := by rw [List.size_toArray, ← hl]; exact hz
  have hcap : ¬ its.toArray.size * k.toNat > (2 ^ 63 - 1) / 8 := by
    have : (sizeLine : Nat) ≤ (2 ^ 63 - 1) / 8 := by decide
    lia
  have hfit : ¬ (!Builtin.List.listFitsIndex k) = true := by
    rw [fitsIndex_both h1 h2]
    exact Bool.false_ne_true
  have hlong : ¬ Builtin.List.listTooLong (its.toArray.size * k.toNat) = true := by
    rw [notLongL hlen]
    exact Bool.false_ne_true
  have hnew : List.foldl (fun x1 x2 => x1 ++ x2) #[] (List.replicate (if its.toArray.isEmpty = true then 0 else k.toNat) its.toArray) = (List.replicate k.toNat its).flatten.toArray := by
    have f0 : ∀ m : Nat, List.foldl (fun x1 x2 => x1 ++ x2) #[] (List.replicate m its.toArray) = (List.replicate m its).flatten.toArray := fun m => by
      have := foldl_rep its m []
      rw [List.nil_append] at this
      exact this
    rw [f0]
    cases its with
    | nil => simp
    | cons a r' => rw [if_neg (by simp)]
  refine wpAny_binaryOp_repeat_ref (T := "list") (U := "int") (by decide) ⟨_, e, rfl⟩ (fun s' => typeIs_int s' k t) noFill_list_mul F.fills_int_mul F.slot_int_rmul repeat_list F.slot_int_index.lookup
    (call_meets F.slot_int_rmul (typeIs_int s k t) F.entry_int_rmul (F.args_int_rmul_2 _ _) (int___rmul___int_list k t l its.toArray n)
      ⟨e, rfl, ⟨_, e, rfl⟩, call_meets F.slot_list_mul ⟨_, e, rfl⟩ F.entry_list_mul (F.args_list_mul_2 _ _) (AutoListH.list___mul___list_int_3 l its.toArray n k t hfit hcap hlong) ⟨e, ?_⟩⟩)
  rw [hnew]
  exact ⟨.ref _, _, I.lnew (t' := s.toks) (r.rep k.toNat) (by rw [len_rep, Nat.mul_comm]; exact hz), rfl, q _ I.fresh⟩


end


section
variable {prog : Program} {w : World} {A : Around} {E : Value → Shared → Prop} {s : Shared}

end

section
variable {X : Cx}

end
end L2

namespace L2
open PySem PySem.Spec PyProof.Rows


section
variable {κ : Type} [DecidableEq κ]
noncomputable def valV (kvs : List (κ × V)) (k : κ) : Option V := (kvs.find? fun kv => decide (kv.1 = k)).map (·.2)

noncomputable def putK (kvs : List (κ × V)) (k : κ) (v : V) : List (κ × V) :=
  if (kvs.any fun kv => decide (kv.1 = k)) = true then kvs.map (fun kv => if kv.1 = k then (kv.1, v) else kv) else kvs ++ [(k, v)]
theorem valV_pos {p : κ × V} {r : List (κ × V)} {k : κ} (e : p.1 = k) : valV (p :: r) k = some p.2 := by simp [valV, List.find?_cons, e]
theorem valV_neg {p : κ × V} {r : List (κ × V)} {k : κ} (e : ¬ p.1 = k) : valV (p :: r) k = valV r k := by simp [valV, List.find?_cons, e]
theorem valV_any (k : κ) : ∀ kvs : List (κ × V), (kvs.any fun kv => decide (kv.1 = k)) = (valV kvs k).isSome
  | [] => rfl
  | p :: r => by
    rw [List.any_cons]
    by_cases e : p.1 = k
    · simp only [valV_pos e, decide_eq_true e, Bool.true_or, Option.isSome_some]
    · rw [valV_neg e, decide_eq_false e, Bool.false_or]; exact valV_any k r
theorem length_putK (kvs : List (κ × V)) (k : κ) (v : V) : (putK kvs k v).length ≤ kvs.length + 1 := by
  unfold putK
  split
  · rw [List.length_map]; lia
  · rw [List.length_append, List.length_cons, List.length_nil]; lia
theorem putK_new {kvs : List (κ × V)} {k : κ} (v : V) (h : valV kvs k = none) : putK kvs k v = kvs ++ [(k, v)] := by
  unfold putK
  rw [valV_any, h]
  exact if_neg (by decide)

theorem RelO.isSome_eq {o : Option V} {u : Option Value} (r : RelO o u) : o.isSome = u.isSome := by
  cases o with
  | none => cases u with
    | none => rfl
    | some _ => exact (show False from r).elim
  | some _ => cases u with
    | none => exact (show False from r).elim
    | some _ => rfl
theorem RelO.getD {o : Option V} {u : Option Value} {d : V} {d' : Value} (r : RelO o u) (rd : RelV d d') : RelV (o.getD d) (u.getD d') := by
  cases o with
  | none => cases u with
    | none => exact rd
    | some _ => exact (show False from r).elim
  | some _ => cases u with
    | none => exact (show False from r).elim
    | some _ => exact r


theorem KV.val {kvs : List (κ × V)} {vs : List (κ × Value)} (r : KV kvs vs) (k : κ) : RelO (valV kvs k) (valueAt vs k) := by
  unfold KV at r
  induction r with
  | nil => exact True.intro
  | @cons p q ps qs h t ih =>
    obtain ⟨h1, h2⟩ := h
    by_cases e : p.1 = k
    · have e' : q.1 = k := h1.symm.trans e
      have b : valueAt (q :: qs) k = some q.2 := by simp [valueAt, List.find?_cons, e']
      rw [valV_pos e, b]; exact h2
    · have e' : ¬ q.1 = k := fun z => e (h1.trans z)
      have b : valueAt (q :: qs) k = valueAt qs k := by simp [valueAt, List.find?_cons, e']
      rw [valV_neg e, b]; exact ih
theorem KV.any {kvs : List (κ × V)} {vs : List (κ × Value)} (r : KV kvs vs) (k : κ) : (kvs.any fun kv => decide (kv.1 = k)) = vs.any fun kv => decide (kv.1 = k) := by
  unfold KV at r
  induction r with
  | nil => rfl
  | cons h t ih => rw [List.any_cons, List.any_cons, ih, h.1]
theorem KV.repl {kvs : List (κ × V)} {vs : List (κ × Value)} (r : KV kvs vs) (k : κ) {y : V} {u : Value} (ry : RelV y u) :
    KV (kvs.map fun kv => if kv.1 = k then (kv.1, y) else kv) (vs.map fun kv => if kv.1 = k then (kv.1, u) else kv) := by
  unfold KV at r ⊢
  induction r with
  | nil => exact .nil
  | @cons p q ps qs h t ih =>
    rw [List.map_cons, List.map_cons]
    refine .cons ?_ ih
    obtain ⟨h1, h2⟩ := h
    by_cases e : p.1 = k
    · rw [if_pos e, if_pos (h1.symm.trans e)]; exact ⟨h1, ry⟩
    · rw [if_neg e, if_neg (fun z => e (h1.trans z))]; exact ⟨h1, h2⟩
theorem KV.put {kvs : List (κ × V)} {vs : List (κ × Value)} (r : KV kvs vs) (k : κ) {y : V} {u : Value} (ry : RelV y u) : KV (putK kvs k y) (stored vs k u) := by
  unfold putK stored
  rw [r.any k]
  by_cases e : (vs.any fun kv => decide (kv.1 = k)) = true
  · rw [if_pos e, if_pos e]; exact r.repl k ry
  · rw [if_neg e, if_neg e]; exact Paired.snoc r ⟨rfl, ry⟩
theorem KV.length {kvs : List (κ × V)} {vs : List (κ × Value)} (r : KV kvs vs) : kvs.length = vs.length := Paired.length r
end



theorem kV_is {P : Program} {w : World} {k : Key} {u : Value} (r : RelV (kV k) u) : (mixKind P w).is k u = true := by
  cases k with
  | inl i => obtain ⟨t, e⟩ := (show ∃ t, u = Value.int i t from r); subst e; exact mixKind_int P w i t
  | inr x => obtain ⟨t, e⟩ := (show ∃ t, u = Value.str x t from r); subst e; exact mixKind_str P w x t
theorem items_are {P : Program} {w : World} : ∀ {ks : List Key} {us : List Value}, Vals (ks.map kV) us → ItemsAre (mixKind P w) ks us
  | [], _, r => by rw [List.map_nil] at r; cases r; exact .nil
  | k :: ks, _, r => by
    rw [List.map_cons] at r
    cases r with
    | cons h t => exact .cons (kV_is h) (items_are t)


noncomputable abbrev KT (H : Hp) : List (List Key × V) → List (List Key × Addr × Value) → Prop := Paired fun p q => p.1 = q.1 ∧ H q.2.1 = some (.tup (p.1.map kV)) ∧ RelV p.2 q.2.2
theorem KT.val {H : Hp} {kvs : List (List Key × V)} {xs : List (List Key × Addr × Value)} (r : KT H kvs xs) (k : List Key) : RelO (valV kvs k) ((atKey xs k).map (·.2)) := by
  induction r with
  | nil => exact True.intro
  | @cons p q ps qs h t ih =>
    obtain ⟨h1, _, h2⟩ := h
    by_cases e : p.1 = k
    · have e' : q.1 = k := h1.symm.trans e
      have b : atKey (q :: qs) k = some q.2 := by simp [atKey, List.find?_cons, e']
      rw [valV_pos e, b]; exact h2
    · have e' : ¬ q.1 = k := fun z => e (h1.trans z)
      have b : atKey (q :: qs) k = atKey qs k := by simp [atKey, List.find?_cons, e']
      rw [valV_neg e, b]; exact ih
theorem KT.repl {H : Hp} {kvs : List (List Key × V)} {xs : List (List Key × Addr × Value)} (r : KT H kvs xs) (k : List Key) {y : V} {u : Value} (ry : RelV y u) :
    KT H (kvs.map fun kv => if kv.1 = k then (kv.1, y) else kv) (xs.map (putAt k u)) := by
  induction r with
  | nil => exact .nil
  | @cons p q ps qs h t ih =>
    rw [List.map_cons, List.map_cons]
    refine .cons ?_ ih
    obtain ⟨h1, h2, h3⟩ := h
    unfold putAt
    by_cases e : p.1 = k
    · rw [if_pos e, if_pos (h1.symm.trans e)]; exact ⟨h1, h2, ry⟩
    · rw [if_neg e, if_neg (fun z => e (h1.trans z))]; exact ⟨h1, h2, h3⟩
theorem KT.put {H : Hp} {kvs : List (List Key × V)} {xs : List (List Key × Addr × Value)} (r : KT H kvs xs) (k : List Key) {b : Addr} {y : V} {u : Value} (hb : H b = some (.tup (k.map kV))) (ry : RelV y u) :
    KT H (putK kvs k y) (storedH xs k b u) := by
  have e : (kvs.any fun kv => decide (kv.1 = k)) = (atKey xs k).isSome := by
    rw [valV_any, (r.val k).isSome_eq, Option.isSome_map]
  unfold putK storedH
  rw [e]
  by_cases q : (atKey xs k).isSome = true
  · rw [if_pos q, if_pos q]; exact r.repl k ry
  · rw [if_neg q, if_neg q]; exact Paired.snoc r ⟨rfl, hb, ry⟩
theorem KT.keeps {H H' : Hp} {kvs : List (List Key × V)} {xs : List (List Key × Addr × Value)} (r : KT H kvs xs) (ht : ∀ b ys, H b = some (.tup ys) → H' b = some (.tup ys)) : KT H' kvs xs :=
  Paired.mapP r fun _ _ z => ⟨z.1, ht _ _ z.2.1, z.2.2⟩

section
variable {P : Program} {w : World} {H : Hp} {h : Heap} {a : Addr}
theorem rd_of {u : HO} (ok : HOk P w H h) (e : Rd H a u) : ObjOk P w H h a u := e.ok ok
theorem dk_rd {kvs : List (Key × V)} (ok : HOk P w H h) (e : Rd H a (.dK kvs)) : kvs.length ≤ sizeLine ∧ (a == sysModules) = false ∧ ∃ vs, KV kvs vs ∧ h.DictOf (mixKind P w) a vs :=
  show ObjOk P w H h a (.dK kvs) from rd_of ok e
theorem dk_of {kvs : List (Key × V)} (ok : HOk P w H h) (e : H a = some (.dK kvs)) : kvs.length ≤ sizeLine ∧ (a == sysModules) = false ∧ ∃ vs, KV kvs vs ∧ h.DictOf (mixKind P w) a vs := dk_rd ok (.inl e)

theorem key_of {ks : List Key} (ok : HOk P w H h) (e : H a = some (.tup (ks.map kV))) : (tupleKind (mixKind P w)).is h ks a := by
  obtain ⟨_, its, r, o, h1, h2, n, h3⟩ := (show ObjOk P w H h a (.tup (ks.map kV)) from ok a _ e)
  exact ⟨o, its.toArray, n, h1, h2, h3, by simpa using items_are r⟩
theorem dt_rd {kvs : List (List Key × V)} (ok : HOk P w H h) (e : Rd H a (.dT kvs)) : kvs.length ≤ sizeLine ∧ (a == sysModules) = false ∧
    ∃ xs, KT H kvs xs ∧ h.DictOfH (tupleKind (mixKind P w)) a xs := by
  obtain ⟨z, y, xs, r, o, es, ep, h1, h2, h3, h4, h5⟩ := (show ObjOk P w H h a (.dT kvs) from rd_of ok e)
  refine ⟨z, y, xs, r, o, es, ep, h1, h2, h3, h4, fun x hx => ?_, h5⟩
  have all : ∀ {l : List (List Key × V)} {m : List (List Key × Addr × Value)}, KT H l m → ∀ x ∈ m, (tupleKind (mixKind P w)).is h x.1 x.2.1 := by
    intro l m q
    induction q with
    | nil => intro x hx; exact nomatch hx
    | @cons p q ps qs hq t ih =>
      intro x hx
      rcases List.mem_cons.mp hx with e | hx
      · subst e
        exact key_of ok (by rw [← hq.1]; exact hq.2.1)
      · exact ih x hx
  exact all r x hx
theorem dt_of {kvs : List (List Key × V)} (ok : HOk P w H h) (e : H a = some (.dT kvs)) : kvs.length ≤ sizeLine ∧ (a == sysModules) = false ∧
    ∃ xs, KT H kvs xs ∧ h.DictOfH (tupleKind (mixKind P w)) a xs := dt_rd ok (.inl e)
end


noncomputable def DGet (H : Hp) (a : Addr) (y : V) (r : Option V) : Prop :=
  (∃ kvs k, Rd H a (.dK kvs) ∧ y = kV k ∧ r = valV kvs k) ∨ ∃ kvs k b, Rd H a (.dT kvs) ∧ y = .ref b ∧ H b = some (.tup (k.map kV)) ∧ r = valV kvs k

noncomputable def DPut (H : Hp) (a : Addr) (y v : V) (H' : Hp) : Prop :=
  (∃ kvs k, H a = some (.dK kvs) ∧ y = kV k ∧ kvs.length < sizeLine ∧ H' = upd H a (.dK (putK kvs k v))) ∨
  ∃ kvs k b, H a = some (.dT kvs) ∧ y = .ref b ∧ H b = some (.tup (k.map kV)) ∧ kvs.length < sizeLine ∧ H' = upd H a (.dT (putK kvs k v))
theorem DGet.k {H : Hp} {a : Addr} {kvs : List (Key × V)} {k : Key} (e : H a = some (.dK kvs)) : DGet H a (kV k) (valV kvs k) := .inl ⟨kvs, k, .inl e, rfl, rfl⟩
theorem DGet.t {H : Hp} {a b : Addr} {kvs : List (List Key × V)} {k : List Key} (e : H a = some (.dT kvs)) (eb : H b = some (.tup (k.map kV))) : DGet H a (.ref b) (valV kvs k) := .inr ⟨kvs, k, b, .inl e, rfl, eb, rfl⟩
theorem DPut.k {H : Hp} {a : Addr} {kvs : List (Key × V)} {k : Key} {v : V} (e : H a = some (.dK kvs)) (hl : kvs.length < sizeLine) : DPut H a (kV k) v (upd H a (.dK (putK kvs k v))) := .inl ⟨kvs, k, e, rfl, hl, rfl⟩
theorem DPut.t {H : Hp} {a b : Addr} {kvs : List (List Key × V)} {k : List Key} {v : V} (e : H a = some (.dT kvs)) (eb : H b = some (.tup (k.map kV))) (hl : kvs.length < sizeLine) :
    DPut H a (.ref b) v (upd H a (.dT (putK kvs k v))) := .inr ⟨kvs, k, b, e, rfl, eb, hl, rfl⟩


section
variable {X : Cx} {pins : List (Addr × Obj)} {σ : St} {H : Hp} {s : Shared} {a : Addr} {y v : V} {u r : Value} {o : Option V} {A : Around} {E : Value → Shared → Prop}

theorem Inv.big (I : Inv X pins σ H s) : sysModules < s.heap.objs.size := by
  have h : mainGlobals < s.heap.objs.size := (I.mod.glob.keeps I.bk).lt
  exact Nat.lt_trans (by decide) h


theorem d_getItem {Q : Value → Shared → Prop} (hu : A.units + 1 < cLine) (I : Inv X pins σ H s) (g : DGet H a y (some v)) (ry : RelV y u) (h : ∀ w' s', Inv X pins σ H s' → RelV v w' → Q w' s') :
    wpAny (model X.prog X.w) A (getItem (.ref a) u) Q E s := by
  rcases g with ⟨kvs, k, e, ey, l⟩ | ⟨kvs, k, b, e, ey, eb, l⟩
  · subst ey
    obtain ⟨z, hd, vs, rel, dd⟩ := dk_rd I.hok e
    obtain ⟨w', hw, rw'⟩ := RelO.some_of (v := v) (o := valueAt vs k) (by rw [l]; exact rel.val k)
    exact wpAny_getItem_of (kV_is ry) dd.mapOf hw (h w' _ (I.tok _) rw')
  · subst ey
    cases (show u = Value.ref b from ry)
    obtain ⟨z, hd, xs, rel, dd⟩ := dt_rd I.hok e
    obtain ⟨w', hw, rw'⟩ := RelO.some_of (v := v) (o := (atKey xs k).map (·.2)) (by rw [l]; exact rel.val k)
    obtain ⟨p, hp, hp2⟩ := Option.map_eq_some_iff.mp hw
    refine wpAny_getItem_heap (tupleKind_room_in1 hu) (key_of I.hok eb) dd hp ?_
    rw [hp2]
    exact h w' _ (I.tok _) rw'

theorem d_in {Q : Value → Shared → Prop} (hu : A.units + 1 < cLine) (I : Inv X pins σ H s) (g : DGet H a y o) (ry : RelV y u) (h : ∀ s', Inv X pins σ H s' → Q (.bool o.isSome) s') :
    wpAny (model X.prog X.w) A (compareOp .In u (.ref a)) Q E s := by
  rcases g with ⟨kvs, k, e, ey, l⟩ | ⟨kvs, k, b, e, ey, eb, l⟩
  · subst ey
    obtain ⟨z, hd, vs, rel, dd⟩ := dk_rd I.hok e
    refine wpAny_in_of (kV_is ry) hd dd.mapOf ?_
    rw [← (rel.val k).isSome_eq, ← l]
    exact h _ (I.tok _)
  · subst ey
    cases (show u = Value.ref b from ry)
    obtain ⟨z, hd, xs, rel, dd⟩ := dt_rd I.hok e
    refine wpAny_in_heap (tupleKind_room_in1 hu) (key_of I.hok eb) hd dd ?_
    have q := (rel.val k).isSome_eq
    rw [Option.isSome_map] at q
    rw [← q, ← l]
    exact h _ (I.tok _)
theorem d_notIn {Q : Value → Shared → Prop} (hu : A.units + 1 < cLine) (I : Inv X pins σ H s) (g : DGet H a y o) (ry : RelV y u) (h : ∀ s', Inv X pins σ H s' → Q (.bool (!o.isSome)) s') :
    wpAny (model X.prog X.w) A (compareOp .NotIn u (.ref a)) Q E s := by
  rcases g with ⟨kvs, k, e, ey, l⟩ | ⟨kvs, k, b, e, ey, eb, l⟩
  · subst ey
    obtain ⟨z, hd, vs, rel, dd⟩ := dk_rd I.hok e
    refine wpAny_notIn_of (kV_is ry) hd dd.mapOf ?_
    rw [← (rel.val k).isSome_eq, ← l]
    exact h _ (I.tok _)
  · subst ey
    cases (show u = Value.ref b from ry)
    obtain ⟨z, hd, xs, rel, dd⟩ := dt_rd I.hok e
    refine wpAny_notIn_heap (tupleKind_room_in1 hu) (key_of I.hok eb) hd dd ?_
    have q := (rel.val k).isSome_eq
    rw [Option.isSome_map] at q
    rw [← q, ← l]
    exact h _ (I.tok _)

theorem d_write {h' : Heap} {t' : Nat} {ob : HO} (I : Inv X pins σ H s) (mu : Mut (H a)) (hs : Heap.SameBut a s.heap h') (he : ∃ q, h'.get? a = some q) (new : ObjOk X.prog X.w (upd H a ob) h' a ob) :
    Inv X pins σ (upd H a ob) { s with heap := h', toks := t' } :=
  I.write (x := a) (e := a) mu (.inl rfl) (fun b q hb z => (hs.2 b hb).trans z) he new
theorem dk_new {P : Program} {w : World} {H' : Hp} {h' : Heap} {kvs : List (Key × V)} {vs : List (Key × Value)} (z : kvs.length ≤ sizeLine) (hd : (a == sysModules) = false) (rel : KV kvs vs) (dd : h'.DictOf (mixKind P w) a vs) :
    ObjOk P w H' h' a (.dK kvs) := ⟨z, hd, vs, rel, dd⟩

theorem d_setItem {H' : Hp} {Q : Unit → Shared → Prop} (hu : A.units + 1 < cLine) (I : Inv X pins σ H s) (g : DPut H a y v H') (ry : RelV y u) (rv : RelV v r) (h : ∀ s', Inv X pins σ H' s' → Q () s') :
    wpAny (model X.prog X.w) A (setItem (.ref a) u r) Q E s := by
  rcases g with ⟨kvs, k, e, ey, l, eH⟩ | ⟨kvs, k, b, e, ey, eb, l, eH⟩
  · subst ey eH
    obtain ⟨z, hd, vs, rel, dd⟩ := dk_of I.hok e
    have hz : vs.length ≤ sizeLine := by rw [← rel.length]; exact z
    have hl : (putK kvs k v).length ≤ sizeLine := by have := length_putK kvs k v; lia
    refine wpAny_setItem_pairs (hsz := hz) (kV_is ry) dd fun h' dd' hs => h _ ?_
    have he : ∃ q, h'.get? a = some q := let ⟨q, _, _, hq, _⟩ := dd'; ⟨q, hq⟩
    exact d_write I (by rw [e]; exact True.intro) hs he (dk_new hl hd (rel.put k rv) dd')
  · subst ey eH
    cases (show u = Value.ref b from ry)
    obtain ⟨z, hd, xs, rel, dd⟩ := dt_of I.hok e
    have hz : xs.length ≤ sizeLine := by rw [← Paired.length rel]; exact z
    have hl : (putK kvs k v).length ≤ sizeLine := by have := length_putK kvs k v; lia
    refine wpAny_setItem_heap (hsz := hz) (tupleKind_room_in1 hu) (key_of I.hok eb) dd fun h' dd' hs => h _ ?_
    obtain ⟨q, es, ep, hq, h2, h3, h4, _, h5⟩ := dd'
    refine d_write I (by rw [e]; exact True.intro) hs ⟨q, hq⟩ ⟨hl, hd, _, (rel.put k eb rv).keeps fun c ys ec => ?_, q, es, ep, hq, h2, h3, h4, h5⟩
    rw [upd_ne (ne_of ec e (fun z => nomatch z))]
    exact ec
end

section
variable {X : Cx} {pins : List (Addr × Obj)} {σ : St} {H : Hp} {s : Shared} {a : Addr} {kvs : List (Key × V)} {k : Key} {u : Value} {A : Around} {E : Value → Shared → Prop}

theorem d_len {Q : Value → Shared → Prop} (I : Inv X pins σ H s) (e : Rd H a (.dK kvs)) (h : ∀ t s', Inv X pins σ H s' → Q (.int kvs.length t) s') : wpAny (model X.prog X.w) A (call (.builtin "len") [.ref a]) Q E s := by
  obtain ⟨z, hd, vs, rel, dd⟩ := dk_rd I.hok e
  refine call_len_dict hd dd (by rw [← rel.length]; rw [sizeLine_eq] at z; lia) ?_
  rw [← rel.length]
  exact h _ _ (I.tok _)

end




noncomputable def NoSl (i : Expr) : Prop := ∀ ov iv, subscripted i false ov iv = operate [ov, iv] (getItem ov iv)
theorem subD_of {prog : Program} {w : World} {A : Around} {E : Value → Shared → Prop} {s : Shared} {env : Env} {value slice : Expr} {pos : Pos} {T id : String} {Q : Value → Shared → Prop}
    (hl : typeLookup (.type T) "__getitem__" = pure (some (.builtin id))) (hs : NoSl slice)
    (h : wpAny (model prog w) A (eval value env) (fun o s₁ => wpAny (model prog w) A (eval slice env) (fun i s₂ => s₂.TypeIs o T ∧ wpAny (model prog w) A (getItem o i) Q E s₂) E s₁) E s) :
    wpAny (model prog w) A (eval (.Subscript value slice pos) env) Q E s := by
  refine Subscript_ (wpAny_mono h (fun o s₁ h₁ => wpAny_mono h₁ (fun i s₂ h₂ => ?_) fun _ _ x => x) fun _ _ x => x)
  obtain ⟨hT, h₂⟩ := h₂
  unfold subscriptTail
  refine wpAny_bind ?_
  rw [getitemInPython_of_ne hT.not_modules]
  refine wpAny_bind (wpAny_specialOf hT hl ?_)
  have fin : wpAny (model prog w) A (subscripted slice false o i) (fun r s₃ => wpAny (model prog w) A (letTemporaryGo value o r >>= fun _ => pure r) Q E s₃) E s₂ := by
    rw [hs o i]
    exact wpAny_operating (wpAny_mono h₂ (fun r s₃ h₃ => wpAny_bind (wpAny_letTemporaryGo (wpAny_pure h₃))) fun _ _ x => x)
  first
    | exact wpAny_pure (wpAny_bind fin)
    | exact wpAny_bind (wpAny_pure (wpAny_bind fin))
    | exact wpAny_bind fin

theorem dict_typeIs {X : Cx} {pins : List (Addr × Obj)} {σ : St} {H : Hp} {s : Shared} {a : Addr} {y : V} {o : Option V} (I : Inv X pins σ H s) (g : DGet H a y o) : s.TypeIs (.ref a) "dict" := by
  rcases g with ⟨kvs, k, e, _, _⟩ | ⟨kvs, k, b, e, _, _, _⟩
  · obtain ⟨_, _, vs, _, dd⟩ := dk_rd I.hok e
    exact dd.typeIs
  · obtain ⟨_, _, xs, _, dd⟩ := dt_rd I.hok e
    exact dd.typeIs
noncomputable def tDGet (td ty : TE) : TE := fun σ H Q => td σ H fun x H1 => ty σ H1 fun y H2 => ∃ a v, x = .ref a ∧ DGet H2 a y (some v) ∧ Q v H2

noncomputable def tDIn (ty td : TE) : TE := fun σ H Q => ty σ H fun y H1 => td σ H1 fun x H2 => ∃ a o, x = .ref a ∧ DGet H2 a y o ∧ Q (.bl o.isSome) H2
noncomputable def tDNotIn (ty td : TE) : TE := fun σ H Q => ty σ H fun y H1 => td σ H1 fun x H2 => ∃ a o, x = .ref a ∧ DGet H2 a y o ∧ Q (.bl (!o.isSome)) H2

noncomputable def sDPut (td ty tv : TE) : TS := fun D σ H => tv σ H fun v H1 => td σ H1 fun x H2 => ty σ H2 fun y H3 => ∃ a H4, x = .ref a ∧ DPut H3 a y v H4 ∧ D.nx σ H4

section
variable {X : Cx} {o i e value : Expr} {pos pos' tpos : Pos} {td ty tv : TE}
theorem pe_dget (hu : X.A.units + 1 < cLine) (ho : PE X o td) (hi : PE X i ty) (hs : NoSl i) : PE X (.Subscript o i pos) (tDGet td ty) := by
  intro pins s σ H Q I h
  refine subD_of PySem.F.slot_dict_getitem.lookup hs (thn (ho pins s σ H _ I h) fun u s1 ⟨x, H1, I1, rx, q1⟩ => thn (hi pins s1 σ H1 _ I1 q1) fun iv s2 hh9 => ?_)
  obtain ⟨y, H2, I2, ry, a, v, ex, g, q2⟩ := hh9
  subst ex
  obtain rfl : u = Value.ref a := rx
  exact ⟨dict_typeIs I2 g, d_getItem hu I2 g ry fun w' s3 I3 rw' => ⟨v, H2, I3, rw', q2⟩⟩
theorem pc_din (hu : X.A.units + 1 < cLine) (hi : PE X i ty) (ho : PE X o td) : PC X .In i o (tDIn ty td) := by
  intro pins s σ H Q I h
  refine thn (hi pins s σ H _ I h) fun iv s1 ⟨y, H1, I1, ry, q1⟩ => thn (ho pins s1 σ H1 _ I1 q1) fun u s2 hh9 => ?_
  obtain ⟨x, H2, I2, rx, a, ov, ex, g, q2⟩ := hh9
  subst ex
  obtain rfl : u = Value.ref a := rx
  exact d_in hu I2 g ry fun s3 I3 => ⟨.bl ov.isSome, H2, I3, rfl, q2⟩
theorem pc_dnotin (hu : X.A.units + 1 < cLine) (hi : PE X i ty) (ho : PE X o td) : PC X .NotIn i o (tDNotIn ty td) := by
  intro pins s σ H Q I h
  refine thn (hi pins s σ H _ I h) fun iv s1 ⟨y, H1, I1, ry, q1⟩ => thn (ho pins s1 σ H1 _ I1 q1) fun u s2 hh9 => ?_
  obtain ⟨x, H2, I2, rx, a, ov, ex, g, q2⟩ := hh9
  subst ex
  obtain rfl : u = Value.ref a := rx
  exact d_notIn hu I2 g ry fun s3 I3 => ⟨.bl (!ov.isSome), H2, I3, rfl, q2⟩
theorem ps_dput (hu : X.A.units + 1 < cLine) (ho : PE X o td) (hi : PE X i ty) (hv : PE X value tv) (hs : swapsWith value (some (.Subscript o i pos')) pos.line X.env = pure false) :
    PS X (.Assign [.Subscript o i pos'] value pos) (sDPut td ty tv) := by
  intro pins s σ H D I h
  refine wpAny_Assign_Subscript (thn (hv pins s σ H _ I h) fun r s1 ⟨v, H1, I1, rv, q1⟩ => thn (ho pins s1 σ H1 _ I1 q1) fun u s2 ⟨x, H2, I2, rx, q2⟩ => thn (hi pins s2 σ H2 _ I2 q2) fun iv s3 hh9 => ?_) hs
  obtain ⟨y, H3, I3, ry, a, H4, ex, g, q3⟩ := hh9
  subst ex
  obtain rfl : u = Value.ref a := rx
  exact d_setItem hu I3 g ry rv fun s4 I4 => ⟨σ, H4, I4, q3⟩
end



theorem dk_empty {P : Program} {w : World} {H : Hp} (h : Heap) (hb : sysModules < h.objs.size) : ObjOk P w H (h.push { cls := .type "dict", data := .dict #[] }) h.objs.size (.dK []) :=
  ⟨Nat.zero_le _, beq_eq_false_iff_ne.mpr (Ne.symm (Nat.ne_of_lt hb)), [], .nil, Heap.DictOf.new h⟩
theorem dt_empty {P : Program} {w : World} {H : Hp} (h : Heap) (hb : sysModules < h.objs.size) : ObjOk P w H (h.push { cls := .type "dict", data := .dict #[] }) h.objs.size (.dT []) :=
  ⟨Nat.zero_le _, beq_eq_false_iff_ne.mpr (Ne.symm (Nat.ne_of_lt hb)), [], .nil, _, #[], 0, Heap.get?_push_size _ rfl, ⟨rfl, rfl, rfl⟩, rfl, rfl, List.nodup_nil⟩

noncomputable def tDNewT : TE := fun _ H Q => ∀ p, H p = none → Q (.ref p) (upd H p (.dT []))
section
variable {X : Cx} {pos : Pos}
theorem pe_dnewT : PE X (.Dict [] [] pos) tDNewT := fun pins s σ H Q I h =>
  wpAny_Dict_empty ⟨.ref s.heap.objs.size, _, I.laid (a := s.heap.objs.size) (o := .dT []) (t' := s.toks) (fun _ _ q => Heap.get?_push_of_some _ q) (Nat.le_refl _) (dt_empty s.heap I.big), rfl, h _ (I.hok.fresh (Nat.le_refl _))⟩
end


noncomputable def tPairs : List (TE × TE) → St → Hp → (List (V × V) → Hp → Prop) → Prop
  | [], _, H, Q => Q [] H
  | (tk, tv) :: r, σ, H, Q => tk σ H fun x H1 => tv σ H1 fun y H2 => tPairs r σ H2 fun ps H3 => Q ((x, y) :: ps) H3
noncomputable abbrev VV : List (V × V) → List (Value × Value) → Prop := Paired fun p q => RelV p.1 q.1 ∧ RelV p.2 q.2
noncomputable def PPs (X : Cx) (pos : Pos) (keys : List (Option Expr)) (values : List Expr) (trs : List (TE × TE)) : Prop :=
  ∀ (pins : List (Addr × Obj)) (s : Shared) (σ : St) (H : Hp) (Q : List (V × V) → Hp → Prop), Inv X pins σ H s → tPairs trs σ H Q →
    wpAny (model X.prog X.w) X.A (evalPairs (pairTrees keys values X.env pos)) (fun vs s' => ∃ ps H', Inv X pins σ H' s' ∧ VV ps vs ∧ Q ps H') X.xe s
theorem pps_nil {X : Cx} {pos : Pos} : PPs X pos [] [] [] := fun pins s σ H Q I h => pairTrees_nil_walk ⟨[], H, I, .nil, h⟩
theorem pps_cons {X : Cx} {pos : Pos} {k v : Expr} {ks : List (Option Expr)} {vs : List Expr} {tk tv : TE} {trs : List (TE × TE)} (hk : PE X k tk) (hv : PE X v tv) (hr : PPs X pos ks vs trs) :
    PPs X pos (some k :: ks) (v :: vs) ((tk, tv) :: trs) := fun pins s σ H Q I h =>
  pairTrees_cons_walk (thn (hk pins s σ H _ I h) fun u s1 ⟨x, H1, I1, rx, q1⟩ => thn (hv pins s1 σ H1 _ I1 q1) fun w2 s2 ⟨y, H2, I2, ry, q2⟩ =>
    thn (hr pins s2 σ H2 _ I2 q2) fun ws s3 hh9 => by obtain ⟨ps, H3, I3, rel, q3⟩ := hh9; exact ⟨(x, y) :: ps, H3, I3, .cons ⟨rx, ry⟩ rel, q3⟩)

noncomputable def mergeK (kvs more : List (Key × V)) : List (Key × V) := more.foldl (fun acc kv => putK acc kv.1 kv.2) kvs
theorem KV.merge : ∀ {more : List (Key × V)} {rs : List (Key × Value)} {kvs : List (Key × V)} {vs : List (Key × Value)}, KV more rs → KV kvs vs → KV (mergeK kvs more) (merged vs rs) := by
  intro more rs kvs vs r
  unfold KV at r
  induction r generalizing kvs vs with
  | nil => intro q; exact q
  | @cons p q ps qs h t ih =>
    intro r0
    have e : KV (putK kvs p.1 p.2) (stored vs q.1 q.2) := by
      have := r0.put p.1 h.2
      rw [← h.1]; exact this
    exact ih e
theorem length_mergeK : ∀ (more kvs : List (Key × V)), (mergeK kvs more).length ≤ kvs.length + more.length
  | [], kvs => by show kvs.length ≤ kvs.length + 0; lia
  | p :: r, kvs => by
    have h1 := length_mergeK r (putK kvs p.1 p.2)
    have h2 := length_putK kvs p.1 p.2
    show (mergeK (putK kvs p.1 p.2) r).length ≤ _
    rw [List.length_cons]; lia
theorem carries_of {P : Program} {w : World} : ∀ {kvs : List (Key × V)} {ws : List (Value × Value)}, VV (kvs.map fun kv => (kV kv.1, kv.2)) ws → ∃ rs, Carries (mixKind P w) ws rs ∧ KV kvs rs
  | [], _, r => by rw [List.map_nil] at r; cases r; exact ⟨[], True.intro, .nil⟩
  | p :: kvs, _, r => by
    rw [List.map_cons] at r
    cases r with
    | @cons a b as bs h t =>
      obtain ⟨rs, c, q⟩ := carries_of (P := P) (w := w) t
      obtain ⟨b1, b2⟩ := b
      exact ⟨(p.1, b2) :: rs, ⟨kV_is h.1, rfl, c⟩, .cons ⟨rfl, h.2⟩ q⟩

noncomputable def tDisp (trs : List (TE × TE)) : TE := fun σ H Q => ∀ p, H p = none → tPairs trs σ (upd H p (.dK [])) fun ps H2 => H2 p = some (.dK []) ∧ ∃ kvs : List (Key × V), ps = kvs.map (fun kv => (kV kv.1, kv.2)) ∧ kvs.length ≤ 15 ∧ Q (.ref p) (upd H2 p (.dK (mergeK [] kvs)))
theorem pe_disp {X : Cx} {pos : Pos} {keys : List (Option Expr)} {values : List Expr} {trs : List (TE × TE)} (h : PPs X pos keys values trs) (hall : keys.all (·.isSome) = true) (hl : keys.length = values.length) (h0 : keys ≠ [])
    (h15 : keys.length ≤ 15) : PE X (.Dict keys values pos) (tDisp trs) := by
  intro pins s σ H Q I q
  have hn := I.hok.fresh (Nat.le_refl s.heap.objs.size)
  have I1 := I.laid (a := s.heap.objs.size) (o := .dK []) (h' := s.heap.push { cls := .type "dict", data := .dict #[] }) (t' := s.toks) (fun _ _ q => Heap.get?_push_of_some _ q) (Nat.le_refl _) (dk_empty s.heap I.big)
  refine wpAny_Dict_walk (knd := mixKind X.prog X.w) hall hl h0 h15 (thn (h pins _ σ _ _ I1 (q _ hn)) fun ws s2 hh9 => ?_)
  obtain ⟨ps, H2, I2, rel, e, kvs, ep, lk, q2⟩ := hh9
  subst ep
  obtain ⟨rs, c, rk⟩ := carries_of (P := X.prog) (w := X.w) rel
  obtain ⟨z, hd, vs0, r0, dd⟩ := dk_of I2.hok e
  cases r0
  refine ⟨rs, c, dd, fun h' dd' hs => ⟨.ref s.heap.objs.size, _, ?_, rfl, q2⟩⟩
  have hz : (mergeK [] kvs).length ≤ sizeLine := by
    have h1 := length_mergeK kvs []
    rw [List.length_nil] at h1
    rw [sizeLine_eq]; lia
  have he : ∃ q, h'.get? s.heap.objs.size = some q := let ⟨q, _, _, hq, _⟩ := dd'; ⟨q, hq⟩
  exact d_write I2 (by rw [e]; exact True.intro) hs he (dk_new hz hd (rk.merge .nil) dd')




structure M1 (X : Cx) (o : Expr) (m : Str) (apos : Pos) (e : Expr) (cpos : Pos) : Prop where
  base : attributeBase o m X.env (eval o X.env) = eval o X.env
  few : ((backTo cpos (starEach [e] X.env)).all (fun x => !x.1) && (backToKw cpos (keywordEach [] X.env)).all (fun x => x.1.isSome)
    && decide (([e] : List Expr).length + ([] : List Keyword).length + (if ([] : List Keyword).isEmpty then 0 else 1) < 30)) = true
  line : (apos.endLine == cpos.line) = true
  trees : backTo cpos (starEach [e] X.env) = [(false, eval e X.env)]
noncomputable def IsD (H : Hp) (a : Addr) : Prop := (∃ kvs, Rd H a (.dK kvs)) ∨ ∃ kvs, Rd H a (.dT kvs)
theorem isD_at {X : Cx} {pins : List (Addr × Obj)} {σ : St} {H : Hp} {s : Shared} {a : Addr} (I : Inv X pins σ H s) (d : IsD H a) :
    s.TypeIs (.ref a) "dict" ∧ (∀ b, Value.ref a = .ref b → ∃ ob, s.heap.get? b = some ob ∧ ob.dict = none) ∧ (a == sysModules) = false := by
  rcases d with ⟨kvs, e⟩ | ⟨kvs, e⟩
  · obtain ⟨_, hd, vs, _, dd⟩ := dk_rd I.hok e
    refine ⟨dd.typeIs, fun b q => ?_, hd⟩
    cases q
    obtain ⟨ob, _, _, h1, h2, _⟩ := dd
    exact ⟨ob, h1, h2.2.1⟩
  · obtain ⟨_, hd, xs, _, dd⟩ := dt_rd I.hok e
    refine ⟨dd.typeIs, fun b q => ?_, hd⟩
    cases q
    obtain ⟨ob, _, _, h1, h2, _⟩ := dd
    exact ⟨ob, h1, h2.2.1⟩

section
variable {X : Cx} {pins : List (Addr × Obj)} {σ : St} {H : Hp} {s : Shared} {a : Addr} {y d : V} {u r : Value} {o : Option V} {A : Around} {E : Value → Shared → Prop}

theorem d_get1 {Q : Value → Shared → Prop} (hu : A.units + 1 < cLine) (I : Inv X pins σ H s) (g : DGet H a y o) (ry : RelV y u) (h : ∀ w' s', Inv X pins σ H s' → RelV (o.getD .non) w' → Q w' s') :
    wpAny (model X.prog X.w) A (call (.builtin "dict.get") [.ref a, u]) Q E s := by
  rcases g with ⟨kvs, k, e, ey, l⟩ | ⟨kvs, k, b, e, ey, eb, l⟩
  · subst ey
    obtain ⟨z, hd, vs, rel, dd⟩ := dk_rd I.hok e
    refine call_meetsIn PySem.F.slot_dict_get dd.typeIs PySem.F.entry_dict_get (PySem.F.args_dict_get_2 _ _) (meets_dict_get (mixKind X.prog X.w) a (kV_is ry) hd) ⟨_, dd.mapOf, h _ _ (I.tok _) ?_⟩
    rw [l]
    exact (rel.val k).getD rfl
  · subst ey
    cases (show u = Value.ref b from ry)
    obtain ⟨z, hd, xs, rel, dd⟩ := dt_rd I.hok e
    refine call_meetsIn PySem.F.slot_dict_get dd.typeIs PySem.F.entry_dict_get (PySem.F.args_dict_get_2 _ _) (meetsH_dict_get (tupleKind (mixKind X.prog X.w)) a b hd) ⟨tupleKind_room_in1 hu, k, xs, key_of I.hok eb, dd, h _ _ (I.tok _) ?_⟩
    rw [l]
    exact (rel.val k).getD rfl

end

noncomputable def tDGet1 (td ty : TE) : TE := fun σ H Q => td σ H fun x H1 => ∃ a, x = .ref a ∧ IsD H1 a ∧ ty σ H1 fun y H2 => ∃ o, DGet H2 a y o ∧ Q (o.getD .non) H2
section
variable {X : Cx} {o e f : Expr} {apos cpos : Pos} {td ty tx : TE}
theorem pe_dget1 (hu : X.A.units + 1 < cLine) (ho : PE X o td) (he : PE X e ty) (m : M1 X o "get" apos e cpos) : PE X (.Call (.Attribute o "get" apos) [e] [] cpos) (tDGet1 td ty) := by
  intro pins s σ H Q I h
  refine wpAny_Call_method m.base m.few m.line PySem.F.plainAttrs_dict PySem.F.slot_dict_get PySem.F.type_dict_get (thn (ho pins s σ H _ I h) fun u s1 hh9 => ?_)
  obtain ⟨x, H1, I1, rx, a, ex, d, q1⟩ := hh9
  subst ex
  obtain rfl : u = Value.ref a := rx
  obtain ⟨t1, t2, _⟩ := isD_at I1 d
  refine ⟨t1, t2, ?_⟩
  rw [m.trees]
  refine Calls.callWith_builtin rfl (Calls.evalArgs_plain (Calls.spliced_cons (thn (he pins s1 σ H1 _ I1 q1) fun iv s2 ⟨y, H2, I2, ry, ov, g, q2⟩ => Calls.spliced_nil ?_)))
  exact d_get1 hu I2 g ry fun w' s3 I3 rw' => ⟨_, H2, I3, rw', q2⟩
end


section
variable {X : Cx} {pins : List (Addr × Obj)} {σ : St} {H : Hp} {s : Shared} {a : Addr} {kvs : List (Key × V)} {A : Around} {E : Value → Shared → Prop}
end


section
variable {X : Cx} {pins : List (Addr × Obj)} {σ : St} {H : Hp} {s : Shared} {a : Addr} {y : V} {u : Value} {A : Around} {E : Value → Shared → Prop}

end
end L2

namespace Att
open PySem PySem.W PySem.Calls PyProof.Rows


theorem ints_of_wellAll {P : Params} {h : Heap} : ∀ (ns : List Int) (vs : List Value), WellAll P h vs (ns.map WData.int) → IntsAre vs ns := by
  intro ns
  induction ns with
  | nil =>
    intro vs w
    rw [List.map_nil] at w
    cases w
    exact .nil
  | cons n ns ih =>
    intro vs w
    rw [List.map_cons] at w
    cases w with
    | cons a b =>
      cases a
      exact .cons _ _ (ih _ b)

theorem script_of {l : OpenLaw} {n : Nat} (hn : l.most = some n) {P : Params} {h : Heap} {args : List WData} {vals : List Value}
    (hpre : l.row.toRowW.claim.pre args = true) (hwl : WellAll P h vals args) :
    ∃ a vs ns, vals = [Value.ref a] ∧ args = [WData.list (ns.map WData.int)] ∧ h.get? a = some { cls := .type "list", data := .seq vs.toArray } ∧ IntsAre vs ns ∧ ns.length ≤ n := by
  have hsh : WShape.hasAll [] args [.list .int] = true := (pre_splitW hpre).1
  have hc : l.pre.holds [] { args := args } = true := (pre_splitW hpre).2
  obtain ⟨d, r, rfl, h1, h2⟩ := hasAllW_cons hsh
  obtain rfl := hasAllW_nil h2
  obtain ⟨xs, rfl, h3⟩ := hasW_list h1
  obtain ⟨ns, rfl⟩ := items_int h3
  have hlen : ns.length ≤ n := by
    unfold OpenLaw.pre at hc
    have h4 : (WTm.not (.lt (.lit (.int (n : Int))) (.len (.arg 0)))).holds [] { args := [.list (ns.map .int)] } = true := by
      have h4 := (holds_andW hc).1
      rw [hn] at h4
      exact h4
    have h5 := condW_of h4 (w_not (w_lt w_lit (w_len_list (w_arg rfl))))
    rw [List.length_map] at h5
    refine Nat.le_of_not_lt fun q => ?_
    have q' : (n : Int) < ((ns.length : Nat) : Int) := by lia
    first
      | (rw [decide_eq_true q'] at h5; exact absurd h5 (by decide))
      | (simp at h5; lia)
  cases hwl with
  | cons w1 w2 =>
    cases w2
    cases w1 with
    | list ho hall => exact ⟨_, _, ns, rfl, rfl, ho, ints_of_wellAll ns _ hall, hlen⟩

theorem post_true (l : OpenLaw) (args : List WData) : l.row.toRowW.claim.post args (.bool true) args = true :=
  postW_of (r := l.row.toRowW) (X := (true == true))
    (show WShape.has [] (.bool true) .bool = true by first | rfl | decide | simp [WShape.has, WShape.arms, WShape.armsAll])
    (show (WTm.eq .res (.lit (.bool true))).value [] { args := args, res := some (.bool true), after := args } = some (.bool (true == true)) from w_eq_bool (w_res rfl) w_lit) rfl


theorem attach_call {l : OpenLaw} {n : Nat} {q : Program} {loose : List Str} {XP : (Str → Option Value) → Heap → Prop} {YP : World → Heap → Prop} {d : DefRec}
    (hn : l.most = some n) (hdf : d.params.defaults = [])
    (call : ∀ (w : World) (s₀ s₁ : Shared) (mg mb : Str → Option Value) (fa : Addr) (o : Obj) (pm cd doc : Value) (a : Addr) (vs : List Value) (ns : List Int),
      Ground q loose [] XP w s₀ mg mb s₁.heap → YP w s₁.heap →
      s₁.heap.get? fa = some o → o.data = .func (docDef d.name d.params d.body d.scope pm cd doc) → s₁.heap.CodeRec cd d.name → mg d.name = some (.ref fa) →
      s₁.heap.get? a = some { cls := .type "list", data := .seq vs.toArray } → IntsAre vs ns → ns.length ≤ n → s₁.gens = #[] →
      codeAny (model l.prog w) callerA (.call (.ref fa) ⟨[.ref a], []⟩) (fun r s' => r = .ok (.ret (.bool true)) ∧ OldK s₁.heap s'.heap ∧ s'.os = s₁.os ∧ AllBare s'.gens) s₁) :
    WalkO q loose XP YP l.row.toRowW d [] (fun f vs => PySem.call f vs) := by
  intro w s₀ s₁ mg mb G Y fa o pm cd doc dV kV ho hd hcd hD hmg hg args vals as hpre hlay hrd hwl hlo
  obtain rfl : dV = .none := Dflts.none hD hdf
  obtain rfl : kV = .none := Dflts.noKw hD
  obtain ⟨a, vs, ns, rfl, rfl, hobj, hints, hlen⟩ := script_of hn hpre hwl
  refine enter_call (codeAny_mono (call w s₀ s₁ mg mb fa o pm cd doc a vs ns G Y ho (fd_plain hd) hcd hmg hobj hints hlen hg) fun r s' hq => ?_)
  obtain ⟨rfl, h2, h3, h4⟩ := hq
  exact ⟨.inl ⟨.bool true, .bool true, [], rfl, fun _ => rfl, .bool true, post_true l _, fun _ => ⟨List.Pairwise.nil, fun _ hm => (nomatch hm)⟩⟩, h2, h3, h4⟩


section
variable {prog : Program} {w : World} {A : Around} {E : Value → Shared → Prop} {s : Shared} {K : Frag}


end
end Att

namespace L2
open PySem PySem.Spec PyProof.Rows

theorem vals_ints : ∀ {vs : List Value} {ns : List Int}, IntsAre vs ns → Vals (ns.map V.int) vs
  | _, _, .nil => .nil
  | _, _, .cons n t h => .cons ⟨t, rfl⟩ (vals_ints h)


noncomputable def Only (H : Hp) : Prop := ∀ b, H b = none ∨ ∃ o xs, H b = some (.frz o (.lst xs))


theorem law_call {P : Program} {w : World} {K : PySem.W.Frag} {mg mb : Str → Option Value} {CX : CXT} {k : Nat} {fa a : Addr} {fd : FuncData} {x : Str} {sp : Sp} {s₁ : Shared} {vs : List Value} {ns : List Int}
    (KX : K.In s₁.heap) (hns : s₁.heap.Ns mainGlobals mg) (hb : s₁.heap.Ns builtinsNs mb) (hbb : ∀ x : Str, x ≠ "__name__" → mb x = bootBuiltins x) (hlim : s₁.heap.NoLimit) (hg : s₁.gens = #[])
    (ha : s₁.heap.get? a = some { cls := .type "list", data := .seq vs.toArray }) (hi : IntsAre vs ns) (hl : ns.length ≤ sizeLine) (hr : Room k callerA)
    (F : ∀ base : Heap, K.In base → base.Ns mainGlobals mg → FnOk P w K mg base CX k fa fd [x] sp) (hbind : ∀ (s : Shared) (u : Value), BindsTo s fd ⟨[u], []⟩ [(x, u)])
    (hsp : ∀ H : Hp, Only H → SqL K H a (ns.map V.int) → sp [.ref a] H (fun v _ => v = .bl true) fun _ _ _ => False)
    (hCX : ∀ H e s', CX [] H s₁ (fun _ _ _ => False) e s' → False) :
    codeAny (model P w) callerA (.call (.ref fa) ⟨[.ref a], []⟩) (fun r s' => r = .ok (.ret (.bool true)) ∧ OldK s₁.heap s'.heap ∧ s'.os = s₁.os ∧ AllBare s'.gens) s₁ := by
  have rv := vals_ints hi
  have lenV := hi.length
  -- from an abstract heap in which nothing but the script may be tracked
  have core : ∀ H : Hp, Only H → SqL K H a (ns.map V.int) → HOk P w H s₁.heap → (∀ b, H b ≠ none → b = a) → (H a ≠ none → K.lookup a = none) →
      codeAny (model P w) callerA (.call (.ref fa) ⟨[.ref a], []⟩) (fun r s' => r = .ok (.ret (.bool true)) ∧ OldK s₁.heap s'.heap ∧ s'.os = s₁.os ∧ AllBare s'.gens) s₁ := by
    intro H hO hS hok hA hK
    have base_of : ∀ {b : Addr} {o : Obj}, s₁.heap.get? b = some o → H b = none → (hidT s₁.heap H).get? b = some o := fun e n => hidT_get e n
    have noA : ∀ {b : Addr} {o : Obj} {es : Array DictEntry} {ep : Nat}, s₁.heap.get? b = some o → o.data = .dict es ep → H b = none := fun {b o es ep} e d => by
      cases q : H b with
      | none => rfl
      | some u =>
        have e' : b = a := hA b (by rw [q]; simp)
        subst e'
        rw [ha] at e; cases e
        have d' : Data.seq vs.toArray _ = Data.dict es ep := d
        cases d'
    have nsK : ∀ {b : Addr} {m : Str → Option Value}, s₁.heap.Ns b m → (hidT s₁.heap H).Ns b m := fun {b m} ⟨o, es, ep, e, d, r⟩ => ⟨o, es, ep, base_of e (noA e d), d, r⟩
    have hKb : K.In (hidT s₁.heap H) := fun b o e => base_of (KX b o e) (by
      cases q : H b with
      | none => rfl
      | some u =>
        have e' : b = a := hA b (by rw [q]; simp)
        subst e'
        rw [hK (by rw [q]; simp)] at e; cases e)
    have hM : Mod K mg (hidT s₁.heap H) := ⟨hKb, nsK hns, ⟨mb, nsK hb, hbb⟩, let ⟨mc, h1, h2⟩ := hlim; ⟨mc, nsK h1, h2⟩⟩
    have e0 : Env0 P w K mg (hidT s₁.heap H) callerA [] s₁ H := ⟨rfl, hM, fun b o e => of_hidT e, Nat.le_of_eq (hidT_size _ _), trivial, fun b hb => absurd (show b ∈ ([] : List Addr) from hb) (by simp), hok, .of_eq hg⟩
    refine codeAny_mono ((F _ hKb (nsK hns)).run callerA [] s₁ H ⟨[.ref a], []⟩ [.ref a] [.ref a] _ _ hr e0 (hbind s₁ (.ref a)) (.cons rfl .nil) (hsp H hO hS)) fun r s' h => ?_
    cases r with
    | error e => exact (hCX H e s' h).elim
    | ok fl =>
      cases fl with
      | next => exact False.elim h
      | brk => exact False.elim h
      | cont => exact False.elim h
      | ret u =>
        obtain ⟨v, H', os, bare, un, hok', r', q⟩ := h
        have q' : v = .bl true := q
        subst q'
        obtain rfl : u = Value.bool true := r'
        refine ⟨rfl, OldK.of_keep fun b o e => ?_, os, bare⟩
        cases q : H b with
        | none => exact un.keep b o e q (by intro z; exact absurd (show b ∈ ([] : List Addr) from z) (by simp)) (by simp)
        | some u =>
          rcases hO b with z | ⟨ob, xs, z⟩
          · rw [q] at z; cases z
          · have z2 := un.frzs b ob _ z
            obtain ⟨e1, _⟩ := hok b _ z
            obtain ⟨e2, _⟩ := hok' b _ z2
            rw [e] at e1; cases e1
            exact e2
  cases hk : K.lookup a with
  | some o =>
    -- the script is one of the module's own objects
    have e := KX a o hk
    rw [ha] at e
    cases e
    refine core (fun _ => none) (fun _ => .inl rfl) (.inr ⟨_, vs.toArray, _, hk, rfl, rfl, rfl, by rw [List.size_toArray, lenV]; exact hl, by simpa using rv⟩) (fun b u z => by have z' : (none : Option HO) = some u := z; cases z') (fun b z => absurd rfl z) fun z => absurd rfl z
  | none =>
    refine core (fun b => if b = a then some (.frz { cls := .type "list", data := .seq vs.toArray } (.lst (ns.map V.int))) else none) (fun b => ?_) (.inl (.inr ⟨{ cls := .type "list", data := .seq vs.toArray }, if_pos rfl⟩)) (fun b u z => ?_) (fun b z => ?_) fun _ => hk
    · by_cases hb : b = a
      · exact .inr ⟨_, _, if_pos hb⟩
      · exact .inl (if_neg hb)
    · by_cases hb : b = a
      · have z' := (if_pos hb).symm.trans z
        cases z'
        subst hb
        exact ⟨ha, by rw [List.length_map]; exact hl, vs, _, rv, ha⟩
      · have z' := (if_neg hb).symm.trans z
        cases z'
    · by_cases hb : b = a
      · exact hb
      · exact absurd (if_neg hb) z
end L2

namespace L2
open PySem PySem.Spec PyProof.Rows

theorem walk_of {l : PySem.W.OpenLaw} {n k : Nat} {q : Program} {loose : List Str} {XP : (Str → Option Value) → Heap → Prop} {YP : World → Heap → Prop} {d : DefRec} {K : Params → PySem.W.Frag} {CX : World → CXT} {sp : World → Sp} {x : Str}
    (hn : l.most = some n) (hn2 : n ≤ sizeLine) (hdf : d.params.defaults = []) (hr : Room k callerA)
    (hY : ∀ (w : World) (h : Heap), YP w h → (K w.params).In h)
    (F : ∀ (w : World) (mg : Str → Option Value) (fa : Addr) (h : Heap), (K w.params).In h → h.Ns mainGlobals mg → mg d.name = some (.ref fa) →
      ∃ fd : FuncData, (∀ (s : Shared) (u : Value), BindsTo s fd ⟨[u], []⟩ [(x, u)]) ∧
        ∀ base : Heap, (K w.params).In base → base.Ns mainGlobals mg → FnOk l.prog w (K w.params) mg base (CX w) k fa fd [x] (sp w))
    (hsp : ∀ (w : World) (H : Hp) (a : Addr) (ns : List Int), ns.length ≤ n → Only H → SqL (K w.params) H a (ns.map V.int) → sp w [.ref a] H (fun v _ => v = .bl true) fun _ _ _ => False)
    (hCX : ∀ (w : World) (H : Hp) (s : Shared) (e : Value) (s' : Shared), CX w [] H s (fun _ _ _ => False) e s' → False) :
    PySem.W.WalkO q loose XP YP l.row.toRowW d [] (fun f vs => PySem.call f vs) := by
  refine Att.attach_call hn hdf fun w s₀ s₁ mg mb fa o pm cd doc a vs ns G Y ho hd hcd hmg hobj hints hlen hg => ?_
  have KX := hY w _ Y
  obtain ⟨fd, hb, hF⟩ := F w mg fa _ KX G.T.g hmg
  exact law_call KX G.T.g G.T.b G.T.builtins G.T.nolimit hg hobj hints (Nat.le_trans hlen hn2) hr hF hb (fun H hO hS => hsp w H a ns hlen hO hS) fun H e s' => hCX w H s₁ e s'

end L2




namespace L2
open PySem PySem.Spec PyProof.Rows



noncomputable def inClass (s : Stmt) (j : Nat) : Stmt := match s with
  | .ClassDef _ _ _ body _ _ _ _ _ _ _ => body.getD j (.Pass ⟨0, 0, 0, 0⟩)
  | _ => .Pass ⟨0, 0, 0, 0⟩
noncomputable def defArgs (s : Stmt) : Arguments := match s with
  | .FunctionDef _ a _ _ _ _ _ _ _ _ => a
  | _ => { posonlyargs := [], args := [], vararg := none, kwonlyargs := [], kw_defaults := [], kwarg := none, defaults := [] }
noncomputable def defBody (s : Stmt) : List Stmt := match s with
  | .FunctionDef _ _ b _ _ _ _ _ _ _ => b
  | _ => []
noncomputable def defScope (s : Stmt) : Scope := match s with
  | .FunctionDef _ _ _ _ _ _ sc _ _ _ => sc
  | _ => { kind := .function, names := [], isGenerator := false, isCoroutine := false }


noncomputable abbrev CX0 : CXT := fun _ _ _ _ _ _ => False
noncomputable abbrev E0 : XK := fun _ _ _ => False
theorem pass0 {X : Cx} : Passes CX0 X E0 := fun _ _ _ _ _ _ _ h => h.elim


structure Fun (K : PySem.W.Frag) (x qual : Str) (st : Stmt) (f : Addr) (fd : FuncData) : Prop where
  ex : ∃ (oc : Value) (od : Option Addr) (kV doc pm : Value) (an : Option Addr) (cdv ct : Value) (osl : Array (Option Value)),
    fd = PySem.W.fnOf x qual (defArgs st) (defBody st) (defScope st) .none kV doc pm an cdv ct ∧ K.lookup f = some ⟨oc, od, .func fd, osl⟩ ∧ PySem.W.codeIn K cdv qual = true
  kp : PySem.W.keepIn K (.ref f) = true
section
variable {P : Program} {w : World} {K : PySem.W.Frag} {mg : Str → Option Value} {base : Heap}

theorem Fun.ok {x qual : Str} {st : Stmt} {f : Addr} {fd : FuncData} {N ps : List Str} {k : Nat} {sp : Sp} (F : Fun K x qual st f fd) (S : FnScope N ps (defScope st)) (len : ∀ vs H Q E, sp vs H Q E → vs.length = ps.length)
    (hbody : ∀ (cdv : Value) (A : Around) (outer : List Env) (s : Shared) (H : Hp) (vs : List V) (Q : VK) (E : XK), Room k (A.deeper (envOfC qual (defScope st) s.heap.objs.size f cdv)) → sp vs H Q E →
      ∃ t, PSs (cxOf CX0 P w K mg base N qual (defScope st) f cdv A outer s H E).nox (defBody st) t ∧ t { nx := fun _ H' => Q .non H', rt := Q } (start N vs) H) : FnOk P w K mg base CX0 (k + 1) f fd ps sp := by
  obtain ⟨oc, od, kV, doc, pm, an, cdv, ct, osl, rfl, lk, hcd⟩ := F.ex
  refine fn_of lk hcd S len fun A outer s H vs Q E hr hsp => ?_
  obtain ⟨t, h, q⟩ := hbody cdv A outer s H vs Q E hr hsp
  exact ⟨t, h.nox, q⟩

theorem Fun.binds {x qual : Str} {st : Stmt} {f : Addr} {fd : FuncData} {ps : List Str} (F : Fun K x qual st f fd)
    (h : ∀ (kV doc pm : Value) (an : Option Addr) (cdv ct : Value) (us : List Value), us.length = ps.length → bindArgs (PySem.W.fnOf x qual (defArgs st) (defBody st) (defScope st) .none kV doc pm an cdv ct) ⟨us, []⟩ = pure (ps.zip us)) : Binds K fd ps [] := by
  obtain ⟨oc, od, kV, doc, pm, an, cdv, ct, osl, rfl, lk, hcd⟩ := F.ex
  exact .all (h kV doc pm an cdv ct)
theorem fun_mk {x qual : Str} {st : Stmt} {f : Addr} {oc : Value} {od an : Option Addr} {osl : Array (Option Value)} {kV doc pm cdv ct : Value} (l : K.lookup f = some ⟨oc, od, .func (PySem.W.fnOf x qual (defArgs st) (defBody st) (defScope st) .none kV doc pm an cdv ct), osl⟩)
    (c : PySem.W.codeIn K cdv qual = true) (k : PySem.W.keepIn K (.ref f) = true) : Fun K x qual st f (PySem.W.fnOf x qual (defArgs st) (defBody st) (defScope st) .none kV doc pm an cdv ct) := ⟨⟨oc, od, kV, doc, pm, an, cdv, ct, osl, rfl, l, c⟩, k⟩
end
theorem hu_of {A : Around} {k : Nat} (hr : Room k A) : A.units + 1 < cLine := Nat.lt_of_le_of_lt (Nat.add_le_add_left (by decide : 1 ≤ 64) _) hr.units
theorem small1000 {n : Nat} (h : n ≤ 1000) : n < sizeLine := Nat.lt_of_le_of_lt h (by decide)


section
variable {X : Cx}
theorem pv (i : Nat) {x : Str} {pos : Pos} (hN : X.N[i]? = some x := by rfl) (hv : Vis X.env.scope x := by first | exact Or.inl rfl | exact Or.inr (Or.inl rfl) | exact Or.inr (Or.inr rfl)) (hd : (x == ("__debug__" : Str)) = false := by decide)
    (hcd : (x == ("__classdict__" : Str)) = false := by decide) : PE X (.Name x pos) (tVar i) := pe_var hN hv hd hcd

theorem call_lenD : CallR X (.builtin "len") (fun xs H Q => ∃ a kvs, xs = [V.ref a] ∧ H a = some (.dK kvs) ∧ Q (.int kvs.length) H) := by
  intro pins s σ H xs us Q I r h
  obtain ⟨a, kvs, rfl, ha, q⟩ := h
  obtain ⟨u, rfl, ru⟩ := vals1 r
  cases ru
  exact d_len I (.inl ha) fun t s' I' => ⟨.int kvs.length, H, I', ⟨t, rfl⟩, q⟩
end


noncomputable def Same (H H' : Hp) : Prop := ∀ b o, H b = some o → H' b = some o
theorem Same.refl (H : Hp) : Same H H := fun _ _ h => h
theorem Same.trans {H H1 H2 : Hp} (a : Same H H1) (b : Same H1 H2) : Same H H2 := fun c o h => b c o (a c o h)
theorem Same.free {H H' : Hp} (e : Same H H') {l : Addr} (h : H' l = Option.none) : H l = Option.none := by
  cases q : H l with
  | none => rfl
  | some o =>
    rw [e l o q] at h
    cases h
theorem Same.seq {K : PySem.W.Frag} {H H' : Hp} {a : Addr} {xs : List V} (e : Same H H') (h : SqL K H a xs) : SqL K H' a xs := by
  rcases h with (h | ⟨o, h⟩) | h
  · exact .inl (.inl (e _ _ h))
  · exact .inl (.inr ⟨o, e _ _ h⟩)
  · exact .inr h


section
variable {κ : Type} [DecidableEq κ]
theorem valV_not {kvs : List (κ × V)} {k : κ} (h : valV kvs k = none) : ¬ k ∈ kvs.map (·.1) := by
  intro m
  obtain ⟨p, hp, e⟩ := List.mem_map.mp m
  have q : (kvs.any fun kv => decide (kv.1 = k)) = true := List.any_eq_true.mpr ⟨p, hp, decide_eq_true e⟩
  rw [valV_any, h] at q
  exact absurd q (by simp)
theorem valV_in {kvs : List (κ × V)} {k : κ} {v : V} (h : valV kvs k = some v) : k ∈ kvs.map (·.1) := by
  have q : (kvs.any fun kv => decide (kv.1 = k)) = true := by
    rw [valV_any, h]
    all_goals rfl
  obtain ⟨p, hp, e⟩ := List.any_eq_true.mp q
  exact List.mem_map.mpr ⟨p, hp, of_decide_eq_true e⟩
end
end L2


set_option maxHeartbeats 1000000

namespace HwSort
open PySem PySem.W PyProof.Rows


noncomputable abbrev at0 (p : Array Nat) (i : Nat) : Nat := p.getD i 0

section
variable (cmp : Nat → Nat → (Bool → Shared → Prop) → Shared → Prop) (s : Shared) (lt : Nat → Nat → Bool) (N : Nat)

structure Ord : Prop where
  ask : ∀ i j C, i < N → j < N → C (lt i j) s → cmp i j C s
  trans : ∀ i j k, i < N → j < N → k < N → lt i j = true → lt j k = true → lt i k = true
  asym : ∀ i j, i < N → j < N → lt i j = true → lt j i = false
  tot : ∀ i j, i < N → j < N → i ≠ j → lt i j = true ∨ lt j i = true
end


structure Arr (N : Nat) (p : Array Nat) : Prop where
  size : p.size = N
  low : ∀ i, i < N → at0 p i < N
  inj : ∀ i j, i < N → j < N → at0 p i = at0 p j → i = j
  perm : p.Perm (List.toArray (List.range N))

theorem at0_get {p : Array Nat} {i : Nat} (h : i < p.size) : p[i]? = some (at0 p i) := by
  simp [at0, Array.getD, h]
theorem at0_of {p : Array Nat} {i v : Nat} (h : p[i]? = some v) : at0 p i = v := by
  have hi : i < p.size := (Array.getElem?_eq_some_iff.mp h).1
  rw [at0_get hi] at h
  exact Option.some.inj h
theorem arr_of {N : Nat} {p : Array Nat} (h : p.Perm (List.toArray (List.range N))) : Arr N p := by
  have hs : p.size = N := by have := h.size_eq; simpa using this
  have hl : p.toList.Perm (List.range N) := by simpa using h.toList
  have hn : p.toList.Nodup := hl.nodup_iff.mpr List.nodup_range
  refine ⟨hs, fun i hi => ?_, fun i j hi hj e => ?_, h⟩
  · have h1 : p[i]? = some (at0 p i) := at0_get (by lia)
    have h2 : at0 p i ∈ p.toList := List.mem_of_getElem? (i := i) (by rw [Array.getElem?_toList]; exact h1)
    exact List.mem_range.mp (hl.mem_iff.mp h2)
  · have h1 : p.toList[i]? = some (at0 p i) := by rw [Array.getElem?_toList]; exact at0_get (by lia)
    have h2 : p.toList[j]? = some (at0 p j) := by rw [Array.getElem?_toList]; exact at0_get (by lia)
    rw [← e] at h2
    obtain ⟨b1, e1⟩ := List.getElem?_eq_some_iff.mp h1
    obtain ⟨b2, e2⟩ := List.getElem?_eq_some_iff.mp h2
    exact (List.getElem_inj hn).mp (e1.trans e2.symm)
theorem arr_range (N : Nat) : Arr N (List.toArray (List.range N)) := arr_of (Array.Perm.refl _)

noncomputable def Asc (lt : Nat → Nat → Bool) (p : Array Nat) (m : Nat) : Prop := ∀ i j, i < j → j < m → lt (at0 p i) (at0 p j) = true
noncomputable def Desc (lt : Nat → Nat → Bool) (p : Array Nat) (m : Nat) : Prop := ∀ i j, i < j → j < m → lt (at0 p j) (at0 p i) = true

section
variable {cmp : Nat → Nat → (Bool → Shared → Prop) → Shared → Prop} {s : Shared} {lt : Nat → Nat → Bool} {N : Nat}

theorem asc_more (o : Ord cmp s lt N) {p : Array Nat} (a : Arr N p) {n : Nat} (h1 : 1 ≤ n) (hn : n < N) (h : Asc lt p n) (hl : lt (at0 p (n - 1)) (at0 p n) = true) : Asc lt p (n + 1) := by
  intro i j hij hj
  by_cases e : j = n
  · subst e
    by_cases e2 : i = j - 1
    · subst e2; exact hl
    · exact o.trans _ (at0 p (j - 1)) _ (a.low i (by lia)) (a.low _ (by lia)) (a.low j (by lia)) (h i (j - 1) (by lia) (by lia)) hl
  · exact h i j hij (by lia)
theorem desc_more (o : Ord cmp s lt N) {p : Array Nat} (a : Arr N p) {n : Nat} (h1 : 1 ≤ n) (hn : n < N) (h : Desc lt p n) (hl : lt (at0 p n) (at0 p (n - 1)) = true) : Desc lt p (n + 1) := by
  intro i j hij hj
  by_cases e : j = n
  · subst e
    by_cases e2 : i = j - 1
    · subst e2; exact hl
    · exact o.trans _ (at0 p (j - 1)) _ (a.low j (by lia)) (a.low _ (by lia)) (a.low i (by lia)) hl (h i (j - 1) (by lia) (by lia))
  · exact h i j hij (by lia)
theorem not_lt (o : Ord cmp s lt N) {p : Array Nat} (a : Arr N p) {i j : Nat} (hi : i < N) (hj : j < N) (hne : i ≠ j) (h : ¬ lt (at0 p i) (at0 p j) = true) : lt (at0 p j) (at0 p i) = true := by
  rcases o.tot _ _ (a.low i hi) (a.low j hj) (fun e => hne (a.inj i j hi hj e)) with z | z
  · exact absurd z h
  · exact z

theorem wp_asc (o : Ord cmp s lt N) {p : Array Nat} (a : Arr N p) {G : Nat → Shared → Prop} : ∀ (f n : Nat), 1 ≤ n → n + f ≤ N → Asc lt p n →
    (∀ m, n ≤ m → m ≤ n + f → Asc lt p m → (m < n + f → lt (at0 p m) (at0 p (m - 1)) = true) → G m s) → (kas_asc p f n).kasWp cmp G s
  | 0, n, _, _, ha, hG => hG n (Nat.le_refl _) (by lia) ha (by lia)
  | f + 1, n, h1, hn, ha, hG => by
    refine o.ask _ _ _ (a.low n (by lia)) (a.low _ (by lia)) ?_
    by_cases hc : lt (at0 p n) (at0 p (n - 1)) = true
    · rw [hc]
      exact hG n (Nat.le_refl _) (by lia) ha fun _ => hc
    · have hc' : lt (at0 p n) (at0 p (n - 1)) = false := by simpa using hc
      rw [hc']
      exact wp_asc o a f (n + 1) (by lia) (by lia) (asc_more o a h1 (by lia) ha (not_lt o a (by lia) (by lia) (by lia) hc)) fun m h2 h3 h4 h5 => hG m (by lia) (by lia) h4 fun h6 => h5 (by lia)

theorem wp_desc (o : Ord cmp s lt N) {p : Array Nat} (a : Arr N p) {G : Array Nat × Nat × Nat → Shared → Prop} : ∀ (f n : Nat), 1 ≤ n → n + f ≤ N → Desc lt p n →
    (∀ m, n ≤ m → m ≤ n + f → Desc lt p m → G (p, m, 0) s) → (kas_desc f p n 0).kasWp cmp G s
  | 0, n, _, _, ha, hG => hG n (Nat.le_refl _) (by lia) ha
  | f + 1, n, h1, hn, ha, hG => by
    refine o.ask _ _ _ (a.low n (by lia)) (a.low _ (by lia)) ?_
    by_cases hc : lt (at0 p n) (at0 p (n - 1)) = true
    · rw [hc]
      exact wp_desc o a f (n + 1) (by lia) (by lia) (desc_more o a h1 (by lia) ha hc) fun m h2 h3 h4 => hG m (by lia) (by lia) h4
    · have hc' : lt (at0 p n) (at0 p (n - 1)) = false := by simpa using hc
      have hd : lt (at0 p (n - 1)) (at0 p n) = true := not_lt o a (by lia) (by lia) (by lia) hc
      rw [hc']
      refine o.ask _ _ _ (a.low _ (by lia)) (a.low n (by lia)) ?_
      rw [hd]
      exact hG n (Nat.le_refl _) (by lia) ha

theorem rev_at {p : Array Nat} {m i : Nat} (hm : m ≤ p.size) (hi : i < m) : at0 (kas_rev p 0 m) i = at0 p (m - 1 - i) := by
  have h := getElem?_mirror_all (xs := p) (i := 0) (j := m) hm i
  rw [if_pos ⟨Nat.zero_le _, hi⟩] at h
  refine at0_of ?_
  show (mirror p 0 m ((m - 0) / 2))[i]? = _
  rw [h, Nat.zero_add]
  exact at0_get (by lia)
theorem rev_arr {p : Array Nat} (a : Arr N p) (m : Nat) : Arr N (kas_rev p 0 m) := arr_of ((mirror_perm _ _ _ _).trans a.perm)
theorem rev_asc {p : Array Nat} {m : Nat} (hm : m ≤ p.size) (h : Desc lt p m) : Asc lt (kas_rev p 0 m) m := by
  intro i j hij hj
  rw [rev_at hm (by lia), rev_at hm hj]
  exact h _ _ (by lia) (by lia)

theorem wp_tail (o : Ord cmp s lt N) {p : Array Nat} (a : Arr N p) {n : Nat} (h1 : 1 ≤ n) (hn : n ≤ N) (hd : Desc lt p n) {G : Nat × Array Nat → Shared → Prop}
    (hG : ∀ m p', 1 ≤ m → m ≤ N → Arr N p' → Asc lt p' m → G (m, p') s) : (kas_tail3 n N p).kasWp cmp G s := by
  unfold kas_tail3
  rw [KasT.kasWp_bind]
  refine wp_asc o (rev_arr a n) (N - n) n h1 (by lia) (rev_asc (by rw [a.size]; exact hn) hd) fun m h2 h3 h4 _ => ?_
  exact hG m _ (by lia) (by lia) (rev_arr a n) h4

theorem wp_count (o : Ord cmp s lt N) {p : Array Nat} (a : Arr N p) (h1 : 1 ≤ N) {G : Nat × Array Nat → Shared → Prop} (hG : ∀ m p', 1 ≤ m → m ≤ N → Arr N p' → Asc lt p' m → G (m, p') s) : (kas_count N p).kasWp cmp G s := by
  unfold kas_count
  rw [KasT.kasWp_bind]
  refine wp_asc o a (N - 1) 1 (Nat.le_refl _) (by lia) (fun i j hij hj => by lia) fun m h2 h3 h4 h5 => ?_
  by_cases e1 : (m == N) = true
  · rw [if_pos e1]
    exact hG m p (by lia) (by lia) a h4
  · rw [if_neg e1]
    have hmN : m ≠ N := fun e => e1 (by rw [e]; exact beq_self_eq_true _)
    by_cases e2 : m > 1
    · rw [if_pos e2]
      refine o.ask _ _ _ (a.low 0 (by lia)) (a.low _ (by lia)) ?_
      rw [h4 0 (m - 1) (by lia) (by lia)]
      exact hG m p (by lia) (by lia) a h4
    · rw [if_neg e2]
      have em : m = 1 := by lia
      subst em
      unfold kas_descPart
      rw [KasT.kasWp_bind]
      have hd : lt (at0 p 1) (at0 p 0) = true := h5 (by lia)
      refine wp_desc o a (N - (1 + 1)) (1 + 1) (by lia) (by lia) (fun i j hij hj => ?_) fun m h6 h7 h8 => ?_
      · have : i = 0 ∧ j = 1 := by lia
        obtain ⟨rfl, rfl⟩ := this
        exact hd
      · show (if 0 > 0 then _ else kas_tail3 m N p : KasT _).kasWp cmp G s
        rw [if_neg (Nat.lt_irrefl 0)]
        exact wp_tail o a (by lia) (by lia) h8 hG

theorem wp_place (o : Ord cmp s lt N) {p : Array Nat} (a : Arr N p) {k : Nat} (hk : k < N) (ha : Asc lt p k) {G : Nat → Shared → Prop} : ∀ (f l r : Nat), l ≤ r → r ≤ k → r ≤ l + f →
    (∀ i, i < l → lt (at0 p i) (at0 p k) = true) → (∀ i, r ≤ i → i < k → lt (at0 p k) (at0 p i) = true) →
    (∀ l, l ≤ k → (∀ i, i < l → lt (at0 p i) (at0 p k) = true) → (∀ i, l ≤ i → i < k → lt (at0 p k) (at0 p i) = true) → G l s) → (kas_place p k f l r).kasWp cmp G s
  | 0, l, r, h1, h2, h3, hl, hr, hG => by
    have e : l = r := by lia
    subst e
    exact hG l h2 hl hr
  | f + 1, l, r, h1, h2, h3, hl, hr, hG => by
    unfold kas_place
    by_cases h : l ≥ r
    · rw [if_pos h]
      have e : l = r := by lia
      subst e
      exact hG l h2 hl hr
    · rw [if_neg h]
      refine o.ask _ _ _ (a.low k hk) (a.low _ (by lia)) ?_
      by_cases hc : lt (at0 p k) (at0 p ((l + r) / 2)) = true
      · rw [hc]
        refine wp_place o a hk ha f l ((l + r) / 2) (by lia) (by lia) (by lia) hl (fun i hi hik => ?_) hG
        by_cases e : i = (l + r) / 2
        · subst e; exact hc
        · exact o.trans _ _ _ (a.low k hk) (a.low ((l + r) / 2) (by lia)) (a.low i (by lia)) hc (ha _ _ (by lia) hik)
      · have hc' : lt (at0 p k) (at0 p ((l + r) / 2)) = false := by simpa using hc
        have hd : lt (at0 p ((l + r) / 2)) (at0 p k) = true := not_lt o a hk (by lia) (by lia) hc
        rw [hc']
        refine wp_place o a hk ha f ((l + r) / 2 + 1) r (by lia) (by lia) (by lia) (fun i hi => ?_) hr hG
        by_cases e : i = (l + r) / 2
        · subst e; exact hd
        · exact o.trans _ _ _ (a.low i (by lia)) (a.low ((l + r) / 2) (by lia)) (a.low k hk) (ha _ _ (by lia) (by lia)) hd

theorem bub_at {p : Array Nat} {k l i : Nat} (hk : k < p.size) (hl : l ≤ k) (hi : i < p.size) : at0 (bubble p k (k - l)) i = if i = l then at0 p k else if l < i ∧ i ≤ k then at0 p (i - 1) else at0 p i := by
  have h := getElem?_bubble hk (k - l) (by lia) i
  have e : k - (k - l) = l := by lia
  rw [e] at h
  refine at0_of ?_
  rw [h]
  by_cases c1 : i = l
  · rw [if_pos c1, if_pos c1]
    exact at0_get hk
  · rw [if_neg c1, if_neg c1]
    by_cases c2 : l < i ∧ i ≤ k
    · rw [if_pos c2, if_pos c2]
      exact at0_get (by lia)
    · rw [if_neg c2, if_neg c2]
      exact at0_get hi
theorem bub_asc {p : Array Nat} (a : Arr N p) {k l : Nat} (hk : k < N) (hl : l ≤ k) (ha : Asc lt p k) (h1 : ∀ i, i < l → lt (at0 p i) (at0 p k) = true) (h2 : ∀ i, l ≤ i → i < k → lt (at0 p k) (at0 p i) = true) :
    Asc lt (bubble p k (k - l)) (k + 1) := by
  have hs := a.size
  intro i j hij hj
  rw [bub_at (by lia) hl (by lia), bub_at (by lia) hl (by lia)]
  by_cases c1 : i = l
  · subst c1
    rw [if_pos rfl, if_neg (by lia), if_pos ⟨hij, by lia⟩]
    exact h2 _ (by lia) (by lia)
  · rw [if_neg c1]
    by_cases c2 : j = l
    · subst c2
      rw [if_neg (by lia), if_pos rfl]
      exact h1 i hij
    · rw [if_neg c2]
      by_cases c3 : l < i ∧ i ≤ k
      · rw [if_pos c3, if_pos ⟨by lia, by lia⟩]
        exact ha _ _ (by lia) (by lia)
      · rw [if_neg c3]
        by_cases c4 : l < j ∧ j ≤ k
        · rw [if_pos c4]
          exact ha _ _ (by lia) (by lia)
        · rw [if_neg c4]
          exact ha _ _ hij (by lia)
theorem bub_arr {p : Array Nat} (a : Arr N p) (k d : Nat) : Arr N (bubble p k d) := arr_of ((bubble_perm _ _ _).trans a.perm)

theorem wp_bin (o : Ord cmp s lt N) {G : Array Nat → Shared → Prop} : ∀ (f : Nat) (p : Array Nat) (k : Nat), Arr N p → k + f = N → Asc lt p k → (∀ p', Arr N p' → Asc lt p' N → G p' s) → (kas_bin f p k).kasWp cmp G s
  | 0, p, k, a, hk, ha, hG => hG p a (by have e : k = N := by lia
                                         subst e; exact ha)
  | f + 1, p, k, a, hk, ha, hG => by
    unfold kas_bin
    rw [KasT.kasWp_bind]
    refine wp_place o a (by lia) ha k 0 k (Nat.zero_le _) (Nat.le_refl _) (by lia) (fun i hi => absurd hi (Nat.not_lt_zero _)) (fun i h1 h2 => by lia) fun l hl h1 h2 => ?_
    exact wp_bin o f _ (k + 1) (bub_arr a k _) (by lia) (bub_asc a (by lia) hl ha h1 h2) hG

theorem wp_sort (o : Ord cmp s lt N) (h1 : 1 ≤ N) {G : Array Nat → Shared → Prop} (hG : ∀ p', Arr N p' → Asc lt p' N → G p' s) : (kas_sort N).kasWp cmp G s := by
  unfold kas_sort
  rw [KasT.kasWp_bind]
  refine wp_count o (arr_range N) h1 fun m p' h2 h3 h4 h5 => ?_
  by_cases hlt : m < N
  · show (if m < N then kas_bin (N - max m 1) p' (max m 1) else KasT.ret p').kasWp cmp G s
    rw [if_pos hlt]
    have e : max m 1 = m := by lia
    rw [e]
    exact wp_bin o _ p' m h4 (by lia) h5 hG
  · show (if m < N then kas_bin (N - max m 1) p' (max m 1) else KasT.ret p').kasWp cmp G s
    rw [if_neg hlt]
    have e : m = N := by lia
    subst e
    exact hG p' h4 h5

theorem wp_count_asc (o : Ord cmp s lt N) {p : Array Nat} (a : Arr N p) (h1 : 1 ≤ N) (ha : Asc lt p N) {G : Nat × Array Nat → Shared → Prop} (hG : G (N, p) s) : (kas_count N p).kasWp cmp G s := by
  unfold kas_count
  rw [KasT.kasWp_bind]
  refine wp_asc o a (N - 1) 1 (Nat.le_refl _) (by lia) (fun i j hij hj => by lia) fun m h2 h3 h4 h5 => ?_
  have e : m = N := by
    rcases Nat.lt_or_ge m (1 + (N - 1)) with hlt | hge
    · have h6 := h5 hlt
      have h7 := ha (m - 1) m (by lia) (by lia)
      rw [o.asym _ _ (a.low _ (by lia)) (a.low _ (by lia)) h7] at h6
      cases h6
    · lia
  subst e
  rw [if_pos (beq_self_eq_true _)]
  exact hG
end

theorem minRun_64 : ∀ (f n r : Nat), r ≤ 1 → n ≤ f → minRun' f n r ≤ 64
  | 0, n, r, hr, hn => by
    show n + r ≤ 64
    lia
  | f + 1, n, r, hr, hn => by
    rw [minRun'_succ]
    split
    · lia
    · exact minRun_64 f _ _ (by lia) (by lia)
theorem minRun_le (n : Nat) (h : 1 ≤ n) : minRun' n n 0 ≤ n := by
  by_cases h64 : n < 64
  · obtain ⟨f, rfl⟩ : ∃ f, n = f + 1 := ⟨n - 1, by lia⟩
    rw [minRun'_succ, if_pos h64]
    lia
  · exact Nat.le_trans (minRun_64 n n 0 (by lia) (Nat.le_refl _)) (by lia)

section
variable {prog : Program} {w : World} {A : Around} {E : Value → Shared → Prop} {κ : SortKind} {it : Array Keyed} {s : Shared} {lt : Nat → Nat → Bool}
theorem run_asc {n : Nat} {Q : Unit → SortSt → Shared → Prop} (h2 : 2 ≤ n) (o : Ord (kas_cmp prog w A κ it) s lt n) (ha : Asc lt (List.toArray (List.range n)) n)
    (hQ : ∀ st', arrOf st' = (List.toArray (List.range n)).map (kas_item it) → failedOf st' = none → Q () st' s) : kasC (model prog w) A E sortRuns' Q (kas_st κ it (List.toArray (List.range n))) s := by
  have hmr := minRun_le n (by lia)
  obtain ⟨r, rfl⟩ : ∃ r, n = r + 2 := ⟨n - 2, by lia⟩
  have hrs : (List.toArray (List.range (r + 2))).size = r + 2 := by simp
  rw [sortRuns'_eq]
  refine kasC_bind (kasC_get ?_)
  dsimp only
  have hsz : (arrOf (kas_st κ it (List.toArray (List.range (r + 2))))).size = r + 2 := by
    show ((List.toArray (List.range (r + 2))).map (kas_item it)).size = _
    rw [Array.size_map, hrs]
  simp only [hsz]
  refine kasC_bind (kasC_range ?_)
  show kasC _ _ _ (forIn (0 :: 1 :: List.range' 2 r) _ _) _ _ _
  refine kasC_cons ?_
  dsimp only
  rw [if_neg (by lia)]
  simp only [Nat.sub_zero, Nat.zero_add]
  refine kasC_bind (kas_count_ (G := fun r' s' => s' = s ∧ r' = (r + 2, List.toArray (List.range (r + 2)))) (by lia) (by rw [hrs]; exact Nat.le_refl _) (fun m p' s' hm1 hm2 hp hg => ?_) (wp_count_asc o (arr_range _) (by lia) ha ⟨rfl, rfl⟩))
  obtain ⟨rfl, e⟩ := hg
  cases e
  dsimp only
  rw [if_neg (by lia)]
  refine kasC_bind (kasC_get ?_)
  rw [show (pendingOf (kas_st κ it (List.toArray (List.range (r + 2))))).back? = none from rfl]
  dsimp only
  refine kasC_bind (kasC_modify (kasC_pure ?_))
  show kasC _ _ _ (forIn (1 :: List.range' 2 r) _ _) _ _ _
  refine kasC_cons ?_
  dsimp only
  rw [if_pos (Nat.le_refl _)]
  refine kasC_pure ?_
  dsimp only
  refine kasC_bind (kasC_range ?_)
  show kasC _ _ _ (forIn (0 :: 1 :: List.range' 2 r) _ _) _ _ _
  refine kasC_cons (kasC_bind (kasC_get ?_))
  rw [if_pos (show (pendingOf (setPending (kas_st κ it (List.toArray (List.range (r + 2)))) ((pendingOf (kas_st κ it (List.toArray (List.range (r + 2))))).push (0, r + 2, 0)))).size ≤ 1 from Nat.le_refl 1)]
  refine kasC_pure ?_
  dsimp only
  exact kasC_pure (hQ _ rfl rfl)
end
end HwSort

set_option maxHeartbeats 1000000

namespace L2
open PySem PySem.Spec PyProof.Rows


structure Cz where
  C : Addr
  s : Shared
  H : Hp
  fp : List Addr


noncomputable def cxComp (X : Cx) (N' : List Str) (scope : Scope) (cl : List (Str × Addr)) (z : Cz) : Cx where
  prog := X.prog
  w := X.w
  K := X.K
  mg := X.mg
  base := X.base
  A := X.A
  N := N'
  s₀ := z.s
  H₀ := z.H
  env := compEnvC scope cl z.C X.env
  outer := X.stack
  stack := X.stack
  ex := z.fp
  fn := fun _ => false
  calm := X.calm
  pn := []
  xe := fun _ _ => False


noncomputable def cloOf (env : Env) (names : List (Str × NameKind)) (acc : List (Str × Addr)) : List (Str × Addr) :=
  match names with
  | [] => acc
  | (n, k) :: r => cloOf env r (if k == .free then (n, (env.cells.lookup n).getD 0) :: acc else acc)

theorem clo_loop {env : Env} : ∀ (names : List (Str × NameKind)) (acc : List (Str × Addr)), (∀ x ∈ names, x.2 = .free → ∃ c, env.cells.lookup x.1 = some c) →
    (forIn (m := Sem) names acc fun x cs => (if x.2 == .free then do let c ← cellOf env x.1; pure (ForInStep.yield ((x.1, c) :: cs)) else pure (ForInStep.yield cs))) = pure (cloOf env names acc)
  | [], acc, _ => rfl
  | (n, k) :: r, acc, h => by
    rw [List.forIn_cons]
    have hr : ∀ x ∈ r, x.2 = .free → ∃ c, env.cells.lookup x.1 = some c := fun x hx => h x (List.mem_cons_of_mem _ hx)
    by_cases hk : k = .free
    · subst hk
      obtain ⟨c, e⟩ := h (n, .free) List.mem_cons_self rfl
      have e2 : cellOf env n = pure c := by unfold cellOf; rw [e]
      simp only [beq_self_eq_true, if_true, e2, pure_bind]
      rw [clo_loop r _ hr]
      simp only [cloOf, beq_self_eq_true, if_true, e, Option.getD_some]
    · have hb : (k == NameKind.free) = false := by simpa using hk
      simp only [hb, Bool.false_eq_true, if_false, pure_bind]
      rw [clo_loop r _ hr]
      simp only [cloOf, hb, Bool.false_eq_true, if_false]

theorem closureFor_eq {scope : Scope} {env : Env} (h : ∀ x ∈ scope.names, x.2 = .free → ∃ c, env.cells.lookup x.1 = some c) : closureFor scope env = pure (cloOf env scope.names []) := by
  have e := clo_loop scope.names [] h
  have e2 : closureFor scope env = (forIn (m := Sem) scope.names ([] : List (Str × Addr)) fun x cs => (if x.2 == .free then do let c ← cellOf env x.1; pure (ForInStep.yield ((x.1, c) :: cs)) else pure (ForInStep.yield cs))) >>= fun r => pure r := rfl
  rw [e2, e, pure_bind]

theorem clo_sub {env : Env} : ∀ (names : List (Str × NameKind)) (acc : List (Str × Addr)) (x : Str) (c : Addr), (∀ y ∈ names, y.2 = .free → ∃ c, env.cells.lookup y.1 = some c) →
    (∀ y d, acc.lookup y = some d → env.cells.lookup y = some d) → (cloOf env names acc).lookup x = some c → env.cells.lookup x = some c
  | [], acc, x, c, _, ha, h => ha x c h
  | (n, k) :: r, acc, x, c, hn, ha, h => by
    have hr : ∀ y ∈ r, y.2 = .free → ∃ c, env.cells.lookup y.1 = some c := fun y hy => hn y (List.mem_cons_of_mem _ hy)
    unfold cloOf at h
    by_cases hk : k = .free
    · subst hk
      obtain ⟨d, e⟩ := hn (n, .free) List.mem_cons_self rfl
      simp only [beq_self_eq_true, if_true] at h
      refine clo_sub r _ x c hr (fun y d' hy => ?_) h
      rw [List.lookup_cons] at hy
      by_cases hyn : (y == n) = true
      · rw [hyn] at hy
        have hy' : (env.cells.lookup n).getD 0 = d' := by simpa using hy
        rw [e] at hy'
        rw [beq_iff_eq.mp hyn, e]
        simpa using hy'
      · have hyn' : (y == n) = false := by simpa using hyn
        rw [hyn'] at hy
        exact ha y d' hy
    · have hb : (k == NameKind.free) = false := by simpa using hk
      simp only [hb, Bool.false_eq_true, if_false] at h
      exact clo_sub r _ x c hr ha h
theorem clo_has {env : Env} : ∀ (names : List (Str × NameKind)) (acc : List (Str × Addr)) (x : Str), ((x, NameKind.free) ∈ names ∨ ∃ c, acc.lookup x = some c) → ∃ c, (cloOf env names acc).lookup x = some c
  | [], acc, x, h => by
    rcases h with h | h
    · cases h
    · exact h
  | (n, k) :: r, acc, x, h => by
    unfold cloOf
    by_cases hk : k = .free
    · subst hk
      simp only [beq_self_eq_true, if_true]
      refine clo_has r _ x ?_
      rcases h with h | ⟨c, h⟩
      · rcases List.mem_cons.mp h with e | e
        · cases e
          exact .inr ⟨_, by rw [List.lookup_cons, beq_self_eq_true]⟩
        · exact .inl e
      · rw [List.lookup_cons]
        by_cases hyn : (x == n) = true
        · exact .inr ⟨_, by rw [hyn]⟩
        · have hyn' : (x == n) = false := by simpa using hyn
          exact .inr ⟨c, by rw [hyn']; exact h⟩
    · have hb : (k == NameKind.free) = false := by simpa using hk
      simp only [hb, Bool.false_eq_true, if_false]
      refine clo_has r _ x ?_
      rcases h with h | h
      · rcases List.mem_cons.mp h with e | e
        · cases e
          exact absurd rfl hk
        · exact .inl e
      · exact .inr h

theorem lookup_relabel {env : Env} (x : Str) : ∀ (names : List (Str × NameKind)),
    (names.map fun (n, k) => if (k == NameKind.free && env.scope.kind == .function && env.kindOf n == some .cell) then (n, NameKind.cell) else (n, k)).lookup x =
      (names.lookup x).map fun k => if (k == NameKind.free && env.scope.kind == .function && env.kindOf x == some .cell) then NameKind.cell else k
  | [] => rfl
  | (n, k) :: r => by
    have ih := lookup_relabel (env := env) x r
    rw [List.map_cons]
    dsimp only
    by_cases hxn : (x == n) = true
    · have e : x = n := beq_iff_eq.mp hxn
      subst e
      by_cases hc : (k == NameKind.free && env.scope.kind == .function && env.kindOf x == some .cell) = true
      · rw [if_pos hc, List.lookup_cons, List.lookup_cons, beq_self_eq_true]
        simp only [Option.map_some, if_pos hc]
      · rw [if_neg hc, List.lookup_cons, List.lookup_cons, beq_self_eq_true]
        simp only [Option.map_some, if_neg hc]
    · have hxn' : (x == n) = false := by simpa using hxn
      by_cases hc : (k == NameKind.free && env.scope.kind == .function && env.kindOf n == some .cell) = true
      · rw [if_pos hc, List.lookup_cons, List.lookup_cons, hxn']
        exact ih
      · rw [if_neg hc, List.lookup_cons, List.lookup_cons, hxn']
        exact ih


noncomputable def chkComp (osc : Scope) (N N' : List Str) (scope : Scope) : Bool :=
  scope.kind == .function &&
  scope.names.all (fun x => x.2 != .cell && (x.2 != .local || scope.names.lookup x.1 == some .local) && (x.2 != .free || osc.names.lookup x.1 == some .cell || osc.names.lookup x.1 == some .free)) &&
  decide (N.length ≤ N'.length) &&
  (List.range N.length).all fun i => match N'[i]? with
    | some x => match scope.names.lookup x with
      | some .local => false
      | some .cell => false
      | some .free => N[i]? == some x
      | _ => true
    | none => true

structure NamesOk (osc : Scope) (N N' : List Str) (scope : Scope) : Prop where
  kind : scope.kind = .function
  cell : ∀ x ∈ scope.names, x.2 ≠ .cell
  loc : ∀ x ∈ scope.names, x.2 = .local → scope.names.lookup x.1 = some .local
  free : ∀ x ∈ scope.names, x.2 = .free → osc.names.lookup x.1 = some .cell ∨ osc.names.lookup x.1 = some .free
  len : N.length ≤ N'.length
  old : ∀ (i : Nat) (x : Str), i < N.length → N'[i]? = some x → scope.names.lookup x ≠ some .local ∧ scope.names.lookup x ≠ some .cell ∧ (scope.names.lookup x = some .free → N[i]? = some x)

theorem names_ok {osc : Scope} {N N' : List Str} {scope : Scope} (h : chkComp osc N N' scope = true) : NamesOk osc N N' scope := by
  unfold chkComp at h
  simp only [Bool.and_eq_true, List.all_eq_true, decide_eq_true_eq, beq_iff_eq, Bool.or_eq_true, bne_iff_ne, List.mem_range] at h
  obtain ⟨⟨⟨h1, h2⟩, h3⟩, h4⟩ := h
  refine ⟨h1, fun x hx => (h2 x hx).1.1, fun x hx e => ?_, fun x hx e => ?_, h3, fun i x hi e => ?_⟩
  · rcases (h2 x hx).1.2 with z | z
    · exact absurd e z
    · exact z
  · rcases (h2 x hx).2 with (z | z) | z
    · exact absurd e z
    · exact .inl z
    · exact .inr z
  · have q := h4 i hi
    rw [e] at q
    cases hl : scope.names.lookup x with
    | none => simp
    | some k =>
      simp only [hl] at q
      cases k <;> simp_all

section
variable {X : Cx} {pins : List (Addr × Obj)} {σ : St} {H : Hp} {s : Shared}


theorem cells_of (I : Inv X pins σ H s) {osc : Scope} {N N' : List Str} {scope : Scope} (ho : X.env.scope = osc) (hn : NamesOk osc N N' scope) : ∀ x ∈ scope.names, x.2 = .free → ∃ c, X.env.cells.lookup x.1 = some c := fun x hx e =>
  I.ok.has x.1 (by have z := hn.free x hx e; rw [← ho] at z; exact z)


theorem inv_comp {osc : Scope} {N' : List Str} {scope : Scope} {fp : List Addr} {h1 : Heap} {tk : Nat} {n0 : Nat} (I : Inv X pins σ H s) (ho : X.env.scope = osc) (hn : NamesOk osc X.N N' scope) (hl : N'.length = X.N.length + n0)
    (hf : ∀ b ∈ fp, FpOk X pins H b) (hthere : ∀ b ∈ fp, b < s.heap.objs.size) {m0 : Str → Option Value} (ns : h1.Ns s.heap.objs.size m0) (keep : ∀ b o, s.heap.get? b = some o → h1.get? b = some o) :
    Inv (cxComp X N' scope (cloOf X.env scope.names []) ⟨s.heap.objs.size, s, H, fp⟩) [] (σ ++ List.replicate n0 none) H { s with heap := h1, toks := tk } := by
  have hc := cells_of I ho hn
  have sub : ∀ x c, (cloOf X.env scope.names []).lookup x = some c → X.env.cells.lookup x = some c := fun x c => clo_sub scope.names [] x c hc fun y d e => by cases e
  have kl : ∀ x, (relabel scope X.env).names.lookup x = (scope.names.lookup x).map fun k => if (k == NameKind.free && X.env.scope.kind == .function && X.env.kindOf x == some .cell) then NameKind.cell else k := fun x => lookup_relabel x scope.names
  have kf : ∀ x, ((relabel scope X.env).names.lookup x = some .cell ∨ (relabel scope X.env).names.lookup x = some .free) → scope.names.lookup x = some .free := fun x hx => by
    rw [kl] at hx
    cases e : scope.names.lookup x with
    | none => rw [e] at hx; simp at hx
    | some k =>
      rw [e] at hx
      cases k with
      | free => rfl
      | cell => exact absurd rfl (hn.cell _ (PySem.mem_of_lookup e))
      | _ => simp at hx
  have fresh : H s.heap.objs.size = none := I.hok.fresh (Nat.le_refl _)
  refine ⟨⟨I.ok.mod, ?kind, I.ok.glob, I.ok.blt, Nat.le_refl _, fun x y c e1 e2 => I.ok.inj x y c (sub x c e1) (sub y c e2), fun x hx => ?has, fun x c e => ?cab, I.ok.hd, I.ok.frames, .inl rfl, fun b hb => ?exf, fun b o e => I.bs b o e,
    Nat.le_trans I.ok.bsz I.sz, fun b o e hb => ?noex, fun b hb hs => ?exfs, I.stack, I.stkFree⟩, rfl, I.bare, Un.kept keep, ⟨m0, ns, fun i x v e1 e2 e3 => ?loc⟩, fun x c e => ?cell, fresh, fun x c e => I.freeC x c (sub x c e), fun p hp => absurd hp (by intro z; cases z), I.hok.kept keep, ?len⟩
  case kind => exact hn.kind
  case has => exact clo_has scope.names [] x (.inl (PySem.mem_of_lookup (kf x hx)))
  case cab => exact absurd e (by intro z; cases z)
  case exf =>
    obtain ⟨_, _, _, _, f4, _⟩ := hf b hb
    exact ⟨Nat.ne_of_lt (hthere b hb), fun x c e => f4 x c (sub x c e)⟩
  case noex =>
    obtain ⟨_, _, _, f3, _, _⟩ := hf b hb
    rcases f3 with f3 | f3
    · exact I.ok.noex b o e f3
    · exact absurd (Nat.lt_of_lt_of_le (Heap.lt_size e) (Nat.le_trans I.ok.bsz f3)) (Nat.lt_irrefl _)
  case exfs =>
    obtain ⟨_, f1, f2, _⟩ := hf b hb
    rcases List.mem_cons.mp (I.stkSub b hs) with z | z
    · exact f1 z
    · exact f2 z
  case loc =>
    have hi : i < σ.length := by
      by_cases hi : i < σ.length
      · exact hi
      · rw [List.getElem?_append_right (by lia), List.getElem?_replicate] at e2
        split at e2 <;> cases e2
    rw [List.getElem?_append_left hi] at e2
    have hiN : i < X.N.length := by rw [← I.len]; exact hi
    obtain ⟨o1, o2, o3⟩ := hn.old i x hiN e1
    have hfr : scope.names.lookup x = some .free := by
      rcases e3 with e3 | e3
      · have e3' : (relabel scope X.env).names.lookup x = some .local := e3
        rw [kl] at e3'
        cases e : scope.names.lookup x with
        | none => rw [e] at e3'; simp at e3'
        | some k =>
          rw [e] at e3'
          cases k with
          | «local» => exact absurd e o1
          | cell => exact absurd e o2
          | free => rfl
          | _ => simp at e3'
      · exact kf x e3
    have hcx : X.env.kindOf x = some .cell ∨ X.env.kindOf x = some .free := by
      have z := hn.free (x, .free) (PySem.mem_of_lookup hfr) rfl
      rw [← ho] at z
      exact z
    obtain ⟨m, hm, hlk⟩ := I.loc
    obtain ⟨u, r, lk⟩ := hlk i x v (o3 hfr) e2 (.inr hcx)
    refine ⟨u, r, .inr ⟨?_, ?_⟩⟩
    · show (relabel scope X.env).names.lookup x = some .cell ∨ (relabel scope X.env).names.lookup x = some .free
      rw [kl, hfr, Option.map_some]
      split
      · exact .inl rfl
      · exact .inr rfl
    · rcases lk with ⟨k1, _⟩ | ⟨_, c, ec, ic⟩
      · rcases hcx with z | z <;> (rw [z] at k1; cases k1)
      · obtain ⟨c', ec'⟩ := clo_has (env := X.env) scope.names [] x (.inl (PySem.mem_of_lookup hfr))
        have e4 := sub x c' ec'
        rw [ec] at e4
        cases e4
        obtain ⟨oc, hoc, hd⟩ := ic
        exact ⟨c, ec', oc, keep c oc hoc, hd⟩
  case cell =>
    obtain ⟨v, oc, hoc, hd⟩ := I.cell x c (sub x c e)
    exact ⟨v, oc, keep c oc hoc, hd⟩
  case len =>
    show (σ ++ List.replicate n0 none).length = N'.length
    rw [List.length_append, List.length_replicate, I.len, hl]
end


noncomputable def PIf (X : Cx) (ifs : List Expr) (t : TT) : Prop :=
  ∀ (pins : List (Addr × Obj)) (s : Shared) (σ : St) (H : Hp) (Q : Bool → Hp → Prop), Inv X pins σ H s → t σ H Q →
    wpAny (model X.prog X.w) X.A (forIn ifs true fun c r => if r = true then do let ok ← isTrue c X.env (eval c X.env); pure (ForInStep.yield ok) else pure (ForInStep.yield r)) (TP X pins σ Q) X.xe s
noncomputable def tYes : TT := fun _ H Q => Q true H
theorem pif_nil {X : Cx} : PIf X [] tYes := fun _ _ _ H _ I h => wpAny_tests_nil ⟨H, I, h⟩
theorem pif_one {X : Cx} {c : Expr} {t : TT} (h : PT X c t) : PIf X [c] t := fun pins s σ H Q I q => wpAny_tests_one (h pins s σ H Q I q)



noncomputable def CompTurn (p : Addr) (J : It) (g : TG) (tt : TT) (te : TE) (W : Nat → Nat → St → Hp → Prop) (i m : Nat) (σ : St) (H : Hp) : Prop :=
  J.go i H ∧ ∃ N : St → Hp → Prop, (∀ σ' H', N σ' H' → ∃ m', m' < m ∧ W (i + 1) m' σ' H') ∧ ∀ x H', J.yld i H x H' → g x σ H' fun σ3 H3 => tt σ3 H3 fun b H4 =>
    if b = true then te σ3 H4 fun v H5 => ∃ ys, H5 p = some (.lst ys) ∧ ys.length < sizeLine ∧ N σ3 (upd H5 p (.lst (ys ++ [v])))
    else N σ3 H4
noncomputable def CompR (n0 : Nat) (g : Cz → TG) (tt : Cz → TT) (te : Cz → TE) (σ : St) (Q : VK) (J : It) (H1 : Hp) : Prop :=
  ∀ p, H1 p = none → ∃ W : Nat → Nat → St → Hp → Prop, (∃ m, W 0 m (σ ++ List.replicate n0 none) (upd H1 p (.lst []))) ∧
    ∀ z i m σ2 H, W i m σ2 H → (J.stop i H ∧ Q (.ref p) H) ∨ CompTurn p J (g z) (tt z) (te z) W i m σ2 H
noncomputable def tComp (n0 : Nat) (wi : TI) (g : Cz → TG) (tt : Cz → TT) (te : Cz → TE) : TE := fun σ H Q => wi σ H fun J H1 => CompR n0 g tt te σ Q J H1

section
variable {X : Cx} {tg elt iter : Expr} {ifs : List Expr} {scope : Scope} {pos : Pos} {osc : Scope} {N' : List Str} {n0 : Nat} {wi : TI} {g : Cz → TG} {tt : Cz → TT} {te : Cz → TE}


theorem comp_block {pins : List (Addr × Obj)} {σ : St} {Q : VK} {s2 : Shared} {H2 : Hp} {it : Addr} {fp : List Addr} {tn : Nat → Heap → Prop} {J : It} {E : Value → Shared → Prop} {RR : Value → Addr → Result → Shared → Prop}
    (hc : X.calm = true) (ho : X.env.scope = osc) (hn : NamesOk osc X.N N' scope) (hl : N'.length = X.N.length + n0)
    (hg : ∀ z, PG (cxComp X N' scope (cloOf X.env scope.names []) z) tg (g z)) (hf : ∀ z, PIf (cxComp X N' scope (cloOf X.env scope.names []) z) ifs (tt z)) (he : ∀ z, PE (cxComp X N' scope (cloOf X.env scope.names []) z) elt (te z))
    (I2 : Inv X pins σ H2 s2) (T : Turn X.prog X.w X.K tg J fp it tn) (st2 : tn 0 s2.heap) (f2 : ∀ b ∈ fp, FpOk X pins H2 b) (h : CompR n0 g tt te σ Q J H2)
    (hRR : ∀ p C s' H', Inv X pins σ H' s' → FpOk X pins H' C → (∃ m, s'.heap.Ns C m) → Q (.ref p) H' → RR (.ref p) C (.ok .next) s') :
    wpAny (model X.prog X.w) X.A (newList []) (fun acc s₃ => wpAny (model X.prog X.w) X.A (newFunctionEnv scope X.env.globals (cloOf X.env scope.names []) [] X.env.qual none .none (some X.env)) (fun cenv s₄ =>
      codeAny (model X.prog X.w) X.A (.compStart (.ListComp elt [⟨tg, iter, ifs, 0⟩] scope pos) 0 (.ref it) acc { cenv with scope := relabel scope X.env }) (RR acc cenv.locals) s₄) E s₃) E s2 := by
  refine wpAny_newList ?_ (Nat.zero_le _)
  have hp : H2 s2.heap.objs.size = none := I2.hok.fresh (Nat.le_refl _)
  obtain ⟨W, ⟨m0, w0⟩, turn⟩ := h s2.heap.objs.size hp
  have I3 : Inv X pins σ (upd H2 s2.heap.objs.size (.lst [])) { s2 with heap := s2.heap.push { cls := .type "list", data := .seq ([] : List Value).toArray }, toks := s2.toks } := I2.lnew (ys := []) .nil (Nat.zero_le _)
  generalize hs3 : ({ s2 with heap := s2.heap.push { cls := .type "list", data := .seq ([] : List Value).toArray }, toks := s2.toks } : Shared) = s3 at I3
  have up3 : ∀ b o, s2.heap.get? b = some o → s3.heap.get? b = some o := fun b o e => by rw [← hs3]; exact Heap.get?_push_of_some _ e
  have st3 : tn 0 s3.heap := T.keep _ _ _ st2 fun b _ o e => up3 b o e
  have ob2 : ∀ b ∈ fp, b < s2.heap.objs.size := fun b hb => by
    obtain ⟨o, e, _⟩ := T.obj _ _ st2 b hb
    exact Heap.lt_size e
  have ob3 : ∀ b ∈ fp, b < s3.heap.objs.size := fun b hb => by
    obtain ⟨o, e, _⟩ := T.obj _ _ st3 b hb
    exact Heap.lt_size e
  have f3 : ∀ b ∈ fp, FpOk X pins (upd H2 s2.heap.objs.size (.lst [])) b := fun b hb => ⟨by rw [upd_ne (Nat.ne_of_lt (ob2 b hb))]; exact (f2 b hb).1, (f2 b hb).2⟩
  refine wpAny_newFunctionEnv hn.cell (by intro y hy; cases hy) (fun h1 ns1 sb1 => ?_) hn.kind
  have up4 : ∀ b o, s3.heap.get? b = some o → h1.get? b = some o := fun b o e => sb1.extBut b o (Nat.ne_of_lt (Heap.lt_size e)) (Heap.get?_push_of_some _ e)
  have st4 : tn 0 h1 := T.keep _ _ _ st3 fun b _ o e => up4 b o e
  have I4 := inv_comp (tk := s3.toks + ([] : List (Str × Value)).length) (n0 := n0) I3 ho hn hl f3 ob3 ns1 up4
  generalize hs4 : ({ s3 with heap := h1, toks := s3.toks + ([] : List (Str × Value)).length } : Shared) = s4 at I4
  have st4' : tn 0 s4.heap := by rw [← hs4]; exact st4
  -- the loop
  have loop : codeAny (model X.prog X.w) X.A (.compLoop (.ListComp elt [⟨tg, iter, ifs, 0⟩] scope pos) 0 (.ref it) (.ref s2.heap.objs.size) (compEnvC scope (cloOf X.env scope.names []) s3.heap.objs.size X.env)) (RR (.ref s2.heap.objs.size) s3.heap.objs.size) s4 := by
    refine codeAny_loop rfl (fun n s' => ∃ i σ' H', Inv (cxComp X N' scope (cloOf X.env scope.names []) ⟨s3.heap.objs.size, s3, upd H2 s2.heap.objs.size (.lst []), fp⟩) [] σ' H' s' ∧ tn i s'.heap ∧ (∀ b ∈ fp, H' b = none) ∧ W i n σ' H')
      (fun n s5 hI => ?_) m0 ⟨0, _, _, I4, st4', fun b hb => (f3 b hb).1, w0⟩
    obtain ⟨i, σ5, H5, I5, st5, fr5, w5⟩ := hI
    show wpAny _ X.A ((compTurn (.ListComp elt [⟨tg, iter, ifs, 0⟩] scope pos) 0 (.ref it) (.ref s2.heap.objs.size) (compEnvC scope (cloOf X.env scope.names []) s3.heap.objs.size X.env)).onRaise (fun x => do noteFrame x (compEnvC scope (cloOf X.env scope.names []) s3.heap.objs.size X.env); theTreesLotGoes x)) _ _ s5
    refine wpAny_noted ?_
    rw [compTurn_list]
    generalize hz : (⟨s3.heap.objs.size, s3, upd H2 s2.heap.objs.size (.lst []), fp⟩ : Cz) = z at I4 I5
    have hzC : z.C = s3.heap.objs.size := by rw [← hz]
    have hzf : z.fp = fp := by rw [← hz]
    have stat : ∀ {H' : Hp}, (∀ b ∈ fp, H' b = none) → ∀ b ∈ fp, FpOk (cxComp X N' scope (cloOf X.env scope.names []) z) [] H' b := fun {H'} hn' b hb => by
      obtain ⟨_, q1, q2, q3, q4, q5⟩ := f3 b hb
      refine ⟨hn' b hb, ?_, fun hs => ?_, .inl (by show b ∈ z.fp; rw [hzf]; exact hb), fun x c e => ?_, fun p hp => absurd hp (by intro z; cases z)⟩
      · show b ≠ z.C
        rw [hzC]
        exact Nat.ne_of_lt (ob3 b hb)
      · rcases List.mem_cons.mp (I3.stkSub b hs) with z' | z'
        · exact q1 z'
        · exact q2 z'
      · exact q4 x c (clo_sub scope.names [] x c (cells_of I3 ho hn) (fun y d e => by cases e) e)
    refine wpAny_bind (wpAny_standAt (wpAny_bind ?_))
    rcases turn z i n σ5 H5 w5 with ⟨stop, qn⟩ | ⟨go, Nx, hNx, step⟩
    · refine wpAny_mono (T.done (cxComp X N' scope (cloOf X.env scope.names []) z) rfl rfl rfl hc i [] s5 σ5 H5 (fun _ _ => False) I5 (stat fr5) st5 stop) (fun r s6 ⟨hr, I6⟩ => ?_) fun _ _ f => f.elim
      subst hr
      have hns : ∃ m, s6.heap.Ns s3.heap.objs.size m := by
        obtain ⟨m, hm, _⟩ := I6.loc
        have hm' : s6.heap.Ns z.C m := hm
        rw [hzC] at hm'
        exact ⟨m, hm'⟩
      refine wpAny_pure (hRR _ _ s6 H5 (I3.call' (ch := fp) ?os ?un I6.hok I6.bare fun b hb => ?ch) ?fp hns qn)
      case os => rw [I6.os]; show z.s.os = s3.os; rw [← hz]
      case un =>
        have u : Un (frs X.stack) z.fp z.H H5 z.s.heap s6.heap := I6.base
        rw [← hz] at u
        exact u
      case ch =>
        obtain ⟨_, q1, q2, q3, q4, q5⟩ := f3 b hb
        exact ⟨q3, q1, q4, q5⟩
      case fp =>
        have q := I3.fpOk (H' := H5) (Nat.le_refl _) (by have z' : H5 z.C = none := I6.free; rw [hzC] at z'; exact z')
        exact q
    · refine wpAny_mono (T.item (cxComp X N' scope (cloOf X.env scope.names []) z) rfl rfl rfl hc i [] s5 σ5 H5 (fun _ _ => False) I5 (stat fr5) st5 go) (fun r s6 ⟨u, hr, h6⟩ => ?_) fun _ _ f => f.elim
      subst hr
      refine wpAny_bind (wpAny_mono h6 (fun _ s7 hh9 => ?_) fun _ _ f => f.elim)
      obtain ⟨x, H7, I7, r7, y7, st7, fr7⟩ := hh9
      have I7' := I7.pinned (stat fr7) (T.obj _ _ st7)
      have hg7 := hg z _ s7 σ5 H7 x u _ I7' r7 (step x H7 y7)
      have envz : (cxComp X N' scope (cloOf X.env scope.names []) z).env = compEnvC scope (cloOf X.env scope.names []) s3.heap.objs.size X.env := by
        show compEnvC scope (cloOf X.env scope.names []) z.C X.env = _
        rw [hzC]
      rw [envz] at hg7
      refine wpAny_bind (wpAny_mono hg7 (fun _ s8 hh9 => ?_) fun _ _ f => f.elim)
      obtain ⟨σ8, H8, I8, q8⟩ := hh9
      have hf8 := hf z _ s8 σ8 H8 _ I8 q8
      rw [envz] at hf8
      refine wpAny_bind (wpAny_mono hf8 (fun b s9 hh9 => ?_) fun _ _ f => f.elim)
      obtain ⟨H9, I9, q9⟩ := hh9
      have back : ∀ {s' : Shared} {H' : Hp}, Inv (cxComp X N' scope (cloOf X.env scope.names []) z) ([] ++ pinsAt fp s7.heap) σ8 H' s' → Nx σ8 H' →
          ∃ m, m < n ∧ ∃ i σ' H', Inv (cxComp X N' scope (cloOf X.env scope.names []) z) [] σ' H' s' ∧ tn i s'.heap ∧ (∀ b ∈ fp, H' b = none) ∧ W i m σ' H' := fun {s' H'} I' nx => by
        obtain ⟨m', hm, w'⟩ := hNx σ8 H' nx
        refine ⟨m', hm, i + 1, σ8, H', I'.unpinned, T.keep _ _ _ st7 fun b hb o e => (I'.pin (b, o) (List.mem_append_right _ (List.mem_append_right _ (mem_pinsAt hb e)))).1, fun b hb => ?_, w'⟩
        obtain ⟨o, e, d⟩ := T.obj _ _ st7 b hb
        exact (I'.pin (b, o) (List.mem_append_right _ (List.mem_append_right _ (mem_pinsAt hb e)))).2.1
      cases b with
      | false =>
        have q9' : Nx σ8 H9 := q9
        simp only [Bool.false_eq_true, if_false]
        have bk := back I9 q9'
        exact wpAny_pure ⟨rfl, bk⟩
      | true =>
        have he9 := he z _ s9 σ8 H9 _ I9 q9
        rw [envz] at he9
        simp only [if_true]
        refine wpAny_bind (wpAny_bind (wpAny_mono he9 (fun v s10 hh9 => ?_) fun _ _ f => f.elim))
        obtain ⟨y, H10, I10, r10, ys, hy, hyl, nx⟩ := hh9
        have ap := mt_append (X := cxComp X N' scope (cloOf X.env scope.names []) z) _ s10 σ8 H10 (.ref s2.heap.objs.size) [y] (.ref s2.heap.objs.size) [v] (fun _ H' => H' = upd H10 s2.heap.objs.size (.lst (ys ++ [y]))) I10 rfl (.cons r10 .nil) ⟨_, ys, y, rfl, rfl, hy, hyl, rfl⟩
        refine wpAny_bind (wpAny_mono ap (fun _ s11 hh9 => ?_) fun _ _ f => f.elim)
        obtain ⟨_, H11, I11, _, e11⟩ := hh9
        subst e11
        have bk := back I11 nx
        exact wpAny_pure (wpAny_pure ⟨rfl, bk⟩)
  have fin := codeAny_compStart_list (ifs := ifs) (rest := []) (target := tg) loop (T.self _ _ _ _ _ st4' loop)
  exact fin


theorem pe_comp (hi : PI X tg iter wi) (hg : ∀ z, PG (cxComp X N' scope (cloOf X.env scope.names []) z) tg (g z)) (hf : ∀ z, PIf (cxComp X N' scope (cloOf X.env scope.names []) z) ifs (tt z)) (he : ∀ z, PE (cxComp X N' scope (cloOf X.env scope.names []) z) elt (te z))
    (hc : X.calm = true) (ho : X.env.scope = osc) (hn : NamesOk osc X.N N' scope) (hl : N'.length = X.N.length + n0) (hs : ∀ x, foldedSetIterable iter X.env x = pure x := by intro _; rfl) :
    PE X (.ListComp elt [⟨tg, iter, ifs, 0⟩] scope pos) (tComp n0 wi g tt te) := by
  intro pins s σ H Q I h
  rw [eval_ListComp]
  refine wpAny_comprehension_free (use := none) rfl hs (closureFor_eq (cells_of I ho hn)) hn.kind hn.loc (thn (hi pins s σ H _ I h) fun v s1 h1 => thn h1 fun itv s2 h2 => ?_)
  obtain ⟨it, fp, tn, J, H2, rfl, I2, T, st2, f2, h3⟩ := h2
  refine comp_block (RR := fun acc C => compPost (model X.prog X.w) X.A X.xe none (EP X pins σ Q) acc C) hc ho hn hl hg hf he I2 T st2 f2 h3 fun p C s' H' I' fC hns q => ?_
  obtain ⟨m, hm⟩ := hns
  refine ⟨m, hm, fun h' sb => ⟨.ref p, H', ?_, rfl, q⟩⟩
  obtain ⟨q0, q1, q2, q3, q4, q5⟩ := fC
  exact I'.turned (t' := s'.toks) (fun b o hb e => sb.extBut b o hb e) q0 q1 q3 q4 q5


theorem ps_setComp {i : Nat} {x : Str} {pos' spos : Pos} (hN : X.N.Nodup) (hi' : X.N[i]? = some x) (hx : Loc X.env.scope x) (hi : PI X tg iter wi) (hg : ∀ z, PG (cxComp X N' scope (cloOf X.env scope.names []) z) tg (g z)) (hf : ∀ z, PIf (cxComp X N' scope (cloOf X.env scope.names []) z) ifs (tt z)) (he : ∀ z, PE (cxComp X N' scope (cloOf X.env scope.names []) z) elt (te z))
    (hc : X.calm = true) (ho : X.env.scope = osc) (hn : NamesOk osc X.N N' scope) (hl : N'.length = X.N.length + n0)
    (hsw : swapsWith (.ListComp elt [⟨tg, iter, ifs, 0⟩] scope pos) (some (.Name x pos')) spos.line X.env = pure true := by rfl) (hs : ∀ x, foldedSetIterable iter X.env x = pure x := by intro _; rfl) (hfn : X.fn x = true ∨ X.env.scope.names.lookup x = some .local := by first | exact .inl rfl | exact .inr rfl | assumption) :
    PS X (.Assign [.Name x pos'] (.ListComp elt [⟨tg, iter, ifs, 0⟩] scope pos) spos) (tAsg (tComp n0 wi g tt te) (gName i)) := by
  intro pins s σ H D I h
  rw [exec_Assign_Name_used _ _ _ _ hsw]
  refine wpAny_bind (wpAny_standAt (wpAny_bind ?_))
  show wpAny _ X.A (do let _ ← comprehension (.ListComp elt [⟨tg, iter, ifs, 0⟩] scope pos) scope X.env _ (newList []) false (eval iter X.env) (some (assign (.Name x pos') X.env))) _ _ s
  refine wpAny_bind (wpAny_mono (wpAny_comprehension_free (use := some (assign (.Name x pos') X.env)) (Q := fun _ s' => SP X pins D .next s') rfl hs (closureFor_eq (cells_of I ho hn)) hn.kind hn.loc
    (thn (hi pins s σ H _ I h) fun v s1 h1 => thn h1 fun itv s2 h2 => ?_)) (fun _ s' hq => wpAny_pure (wpAny_pure hq)) fun _ _ e => e)
  obtain ⟨it, fp, tn, J, H2, rfl, I2, T, st2, f2, h3⟩ := h2
  refine comp_block (RR := fun acc C => compPost (model X.prog X.w) X.A X.xe (some (assign (.Name x pos') X.env)) (fun _ s' => SP X pins D .next s') acc C) hc ho hn hl hg hf he I2 T st2 f2 h3 fun p C s' H' I' fC hns q => ?_
  obtain ⟨m, hm⟩ := hns
  obtain ⟨q0, q1, q2, q3, q4, q5⟩ := fC
  refine wpAny_assign_Name (store_ok2 I' hN hi' hx (v := .ref p) rfl (fun s'' I'' ⟨a, sa, ha⟩ => ⟨m, hm.sameBut sa ?_, fun h' sb => ⟨_, H', ?_, q⟩⟩) hfn)
  · rcases ha with ha | ha
    · rw [ha]; exact q1
    · exact fun e => q4 x a ha e.symm
  · exact I''.turned (t' := s''.toks) (fun b o hb e => sb.extBut b o hb e) q0 q1 q3 q4 q5
end


section
variable {K : PySem.W.Frag} {g : Cz → TG} {tt : Cz → TT} {te : Cz → TE} {σ : St} {Q : VK} {H1 : Hp} {n0 : Nat}
theorem comp_list {a : Addr} {xs : List V} (Pv : Addr → Nat → St → Hp → Prop) (h0 : ∀ p, H1 p = none → Pv p 0 (σ ++ List.replicate n0 none) (upd H1 p (.lst [])))
    (hl : ∀ p i σ H, H1 p = none → i ≤ xs.length → Pv p i σ H → SqL K H a xs)
    (hs : ∀ p z i x σ H, H1 p = none → xs[i]? = some x → Pv p i σ H → g z x σ H fun σ3 H3 => tt z σ3 H3 fun b H4 =>
      if b = true then te z σ3 H4 fun v H5 => ∃ ys, H5 p = some (.lst ys) ∧ ys.length < sizeLine ∧ Pv p (i + 1) σ3 (upd H5 p (.lst (ys ++ [v]))) else Pv p (i + 1) σ3 H4)
    (hd : ∀ p σ H, H1 p = none → Pv p xs.length σ H → Q (.ref p) H) : CompR n0 g tt te σ Q (Itl K a) H1 := by
  intro p hp
  refine ⟨fun i m σ H => m = xs.length - i ∧ i ≤ xs.length ∧ Pv p i σ H, ⟨xs.length, by simp, Nat.zero_le _, h0 p hp⟩, ?_⟩
  rintro z i m σ2 H ⟨rfl, hi, pv⟩
  have q := hl p i σ2 H hp hi pv
  by_cases hlt : i < xs.length
  · refine .inr ⟨⟨xs, xs[i], q, by simp [hlt]⟩, Pv p (i + 1), fun σ' H' p' => ⟨xs.length - (i + 1), by lia, rfl, hlt, p'⟩, fun x H' y => ?_⟩
    obtain ⟨e, y⟩ := y
    subst e
    exact hs p z i x σ2 _ hp (y xs q) pv
  · have e : i = xs.length := by lia
    subst e
    exact .inl ⟨⟨xs, q, Nat.le_refl _⟩, hd p σ2 H hp pv⟩
theorem comp_range {lo : Int} {n : Nat} (Pv : Addr → Nat → St → Hp → Prop) (h0 : ∀ p, H1 p = none → Pv p 0 (σ ++ List.replicate n0 none) (upd H1 p (.lst [])))
    (hs : ∀ p z i σ H, H1 p = none → i < n → Pv p i σ H → g z (.int (lo + i)) σ H fun σ3 H3 => tt z σ3 H3 fun b H4 =>
      if b = true then te z σ3 H4 fun v H5 => ∃ ys, H5 p = some (.lst ys) ∧ ys.length < sizeLine ∧ Pv p (i + 1) σ3 (upd H5 p (.lst (ys ++ [v]))) else Pv p (i + 1) σ3 H4)
    (hd : ∀ p σ H, H1 p = none → Pv p n σ H → Q (.ref p) H) : CompR n0 g tt te σ Q (Itr lo n) H1 := by
  intro p hp
  refine ⟨fun i m σ H => m = n - i ∧ i ≤ n ∧ Pv p i σ H, ⟨n, by simp, Nat.zero_le _, h0 p hp⟩, ?_⟩
  rintro z i m σ2 H ⟨rfl, hi, pv⟩
  by_cases hlt : i < n
  · refine .inr ⟨hlt, Pv p (i + 1), fun σ' H' p' => ⟨n - (i + 1), by lia, rfl, hlt, p'⟩, fun x H' y => ?_⟩
    obtain ⟨e, y⟩ := y
    subst e y
    exact hs p z i σ2 _ hp hlt pv
  · have e : i = n := by lia
    subst e
    exact .inl ⟨Nat.le_refl _, hd p σ2 H hp pv⟩
end
end L2

set_option maxHeartbeats 1000000

namespace L2
open PySem PySem.Spec PyProof.Rows


section
variable {prog : Program} {w : World} {K : Type} [DecidableEq K] (knd : HeapKind prog w K) (d a : Addr)
end

section
variable {X : Cx} {pins : List (Addr × Obj)} {σ : St} {H : Hp} {s : Shared} {a b : Addr} {kvs : List (List Key × V)} {k : List Key} {A : Around} {E : Value → Shared → Prop}
end


noncomputable def RawD (h : Heap) (d : Addr) (es : Array DictEntry) (ep : Nat) : Prop := ∃ o, h.get? d = some o ∧ o.ExactDict ∧ o.data = .dict es ep
theorem RawD.typeIs {s : Shared} {d : Addr} {es : Array DictEntry} {ep : Nat} (r : RawD s.heap d es ep) : s.TypeIs (.ref d) "dict" := let ⟨o, ho, hc, _⟩ := r; ⟨o, ho, hc.1⟩
theorem RawD.at {h h' : Heap} {d : Addr} {es : Array DictEntry} {ep : Nat} (r : RawD h d es ep) (k : ∀ o, h.get? d = some o → h'.get? d = some o) : RawD h' d es ep := let ⟨o, ho, x⟩ := r; ⟨o, k o ho, x⟩
theorem RawD.lt {h : Heap} {d : Addr} {es : Array DictEntry} {ep : Nat} (r : RawD h d es ep) : d < h.objs.size := let ⟨_, ho, _⟩ := r; Heap.lt_size ho

section
variable {prog : Program} {w : World} {A : Around} {E : Value → Shared → Prop} {s : Shared} {d : Addr} {es : Array DictEntry} {ep : Nat}
theorem raw_len {Q : Value → Shared → Prop} (hd : (d == sysModules) = false) (r : RawD s.heap d es ep) (hfit : es.size ≤ sizeLine) (h : ∀ t tk, Q (.int es.size t) { s with toks := tk }) :
    wpAny (model prog w) A (call (.builtin "len") [.ref d]) Q E s := by
  have hf63 : es.size < 2 ^ 63 := Nat.lt_of_le_of_lt hfit line63
  have hlen : MeetsIn prog w (Builtin.«dict.__len__» ⟨[.ref d], []⟩) (fun _ R s => RawD s.heap d es ep ∧ R (.ok (.ret (.int es.size s.toks))) { s with toks := s.toks + 1 }) :=
    .of_wp fun A R s ⟨⟨o, ho, _, hdat⟩, h⟩ => by
      show wpAny _ _ (dictSize d >>= _) _ _ s
      unfold dictSize
      refine wpAny_bind (wpAny_bind (wpAny_dictEntries ho hdat (wpAny_pure ?_)))
      show wpAny _ _ (Builtin.Dict.pendingCount d >>= _) _ _ s
      refine wpAny_bind (wpAny_pendingCount_other hd (wpAny_ret_mkInt ?_))
      rw [Nat.add_zero]
      exact h
  refine Calls.call_function_entry kind_len plain_len entry_len (args_len1 _) ?_
  unfold Builtin.«len»
  refine wpAny_bind (m := oneArg "len" _) (wpAny_pure ?_)
  refine wpAny_bind (m := callSpecial? (.ref d) (Str.ofString "__len__")) (wpAny_callSpecial?_slot (name := Str.ofString "__len__") r.typeIs F.slot_dict_len
    (call_meetsIn F.slot_dict_len r.typeIs F.entry_dict_len (F.args_dict_len_1 _) hlen ⟨r, ?_⟩))
  show wpAny _ _ _ _ _ { s with toks := s.toks + 1 }
  refine wpAny_bind (wpAny_holding (wpAny_pure (wpAny_bind (wpAny_letGo ?_))))
  show wpAny _ _ (if ((es.size : Nat) : Int) < 0 then _ else _) _ _ _
  rw [if_neg (by lia)]
  show wpAny _ _ (if ((es.size : Nat) : Int) ≥ 2 ^ 63 then _ else _) _ _ _
  rw [if_neg (by lia)]
  exact wpAny_bind (wpAny_mkInt (wpAny_pure ⟨_, rfl, h _ _⟩))


theorem raw_iter {Q : Value → Shared → Prop} (hd : (d == sysModules) = false) (r : RawD s.heap d es ep)
    (hQ : Q (.ref s.heap.objs.size) { s with heap := s.heap.push { cls := .type "dict_keyiterator", data := .fields #[.ref d, .int 0 0, .int es.size 0, .int ep 0] } }) : wpAny (model prog w) A (pyIter (.ref d)) Q E s := by
  obtain ⟨o, ho, hc, hdat⟩ := id r
  refine wpAny_pyIter_slot r.typeIs F.slot_dict_iter (wpAny_call_entry F.slot_dict_iter r.typeIs F.entry_dict_iter ?_ (F.args_dict_iter_1 _))
  unfold Builtin.«dict.__iter__»
  refine wpAny_bind ?_
  unfold Builtin.Dict.dictSlotNone
  refine wpAny_bind (wpAny_notOrdered_dict r.typeIs ?_)
  show wpAny _ _ (pure (Value.ref d)) _ _ s
  refine wpAny_pure ?_
  show wpAny _ _ (Builtin.Dict.showsAll d >>= _) _ _ s
  unfold Builtin.Dict.showsAll
  rw [if_neg (by rw [hd]; exact Bool.false_ne_true)]
  refine wpAny_bind (wpAny_pure (wpAny_bind (wpAny_dictEntries ho hdat (wpAny_bind (wpAny_dictEpoch ho hdat ?_)))))
  refine wpAny_bind (wpAny_newObj_type (wpAny_pure ⟨_, rfl, "dict_keyiterator", _, ⟨_, Heap.get?_push_size _ rfl, rfl⟩, F.slot_dict_keyiterator_next.lookup, ?_⟩))
  simpa [rawInt] using hQ

theorem raw_next {it : Addr} {i : Nat} {Q : Option Value → Shared → Prop} (hh : A.handled = none) (hit : s.heap.IsKeyIter it d i es.size ep) (r : RawD s.heap d es ep)
    (hi : ∀ h e, es[i]? = some e → h.IsKeyIter it d (i + 1) es.size ep → Heap.SameBut it s.heap h → Q (some e.key) { s with heap := h })
    (hn : es.size ≤ i → ∀ h, Heap.ExtBut it s.heap h → Q none { s with heap := h }) : wpAny (model prog w) A (pyNext (.ref it)) Q E s := by
  obtain ⟨o, ho, hc, hd⟩ := id hit
  obtain ⟨od, hod, hcd, hdd⟩ := id r
  unfold pyNext
  refine wpAny_bind (wpAny_attempt (wpAny_callSpecial?_slot (name := Str.ofString "__next__") hit.typeIs F.slot_dict_keyiterator_next
    (wpAny_call_entry F.slot_dict_keyiterator_next hit.typeIs F.entry_dict_keyiterator_next ?_ (F.args_dict_keyiterator_next_1 _))))
  refine wpAny_bind (wpAny_pure (wpAny_bind (wpAny_bind ?_)))
  first | refine wpAny_bind (wpAny_typeNameOfWhole_keyiter hit.typeIs (wpAny_pure ?_)) | refine wpAny_bind (wpAny_typeNameOf_keyiter hit.typeIs (wpAny_pure ?_))
  refine wpAny_bind (wpAny_fieldsOf ho hd ?_)
  simp only [show Builtin.Dict_items.ownsTuple "dict_keyiterator" = false by decide, Bool.false_eq_true, if_false]
  show wpAny _ _ (if (Value.ref d == Value.none) = true then _ else _) _ _ s
  rw [if_neg (show ¬ ((Value.ref d == Value.none) = true) from Bool.false_ne_true)]
  refine wpAny_bind (wpAny_pure (wpAny_bind (wpAny_dictEntries hod hdd ?_)))
  rw [if_neg (by simp)]
  refine wpAny_bind (wpAny_pure (wpAny_bind (wpAny_dictEpoch hod hdd ?_)))
  rw [if_neg (by simp)]
  refine wpAny_pure ?_
  by_cases hlt : i < es.size
  · simp only [show ¬ ((i : Int) < 0) from by lia, if_false, Int.toNat_natCast, Array.getElem?_eq_getElem hlt]
    refine wpAny_bind ?_
    first | refine wpAny_bind (wpAny_typeNameOfWhole_keyiter hit.typeIs (wpAny_pure ?_)) | refine wpAny_bind (wpAny_typeNameOf_keyiter hit.typeIs (wpAny_pure ?_))
    refine wpAny_bind (wpAny_isOneOf_keyiter hit.typeIs ?_)
    show wpAny _ _ (setField (.ref it) 1 (rawInt ((i : Int) + 1)) >>= _) _ _ s
    refine wpAny_bind (wpAny_setField ho hd (by simp) ?_)
    have hit' : (s.heap.update it (Obj.mapFields (·.setIfInBounds 1 (rawInt ((i : Int) + 1))))).IsKeyIter it d (i + 1) es.size ep :=
      ⟨_, Heap.get?_update_self _ ho (Obj.isFreed_of_fields (Obj.data_mapFields hd _)), (Obj.cls_mapFields ..).trans hc, by rw [Obj.data_mapFields hd]; simp [rawInt]⟩
    refine wpAny_bind (wpAny_holding (wpAny_bind (wpAny_isOneOf_keyiter (s := { s with heap := s.heap.update it (Obj.mapFields (·.setIfInBounds 1 (rawInt ((i : Int) + 1)))) }) hit'.typeIs ?_)))
    show wpAny _ _ (pure es[i].key) _ _ _
    exact wpAny_pure (wpAny_pure ⟨_, rfl, wpAny_pure (hi _ es[i] (by simp [hlt]) hit' (Heap.SameBut.update ..))⟩)
  · have hge : es.size ≤ i := Nat.le_of_not_lt hlt
    simp only [show ¬ ((i : Int) < 0) from by lia, if_false, Int.toNat_natCast, Array.getElem?_eq_none hge]
    refine wpAny_bind ?_
    first | refine wpAny_bind (wpAny_typeNameOfWhole_keyiter hit.typeIs (wpAny_pure ?_)) | refine wpAny_bind (wpAny_typeNameOf_keyiter hit.typeIs (wpAny_pure ?_))
    show wpAny _ _ (setField (.ref it) 0 .none >>= _) _ _ s
    refine wpAny_bind (wpAny_setField ho hd (by simp) ?_)
    show wpAny _ _ (newExc (.type "StopIteration") [] >>= _) _ _ _
    refine wpAny_bind ?_
    simp only [newExc, newTuple]
    refine wpAny_bind (wpAny_newObj_type ?_ (by size_fits))
    refine wpAny_bind (m := firstArgMember _ _) (wpAny_of_eq (a := Value.none) (by first | rfl | (simp only [firstArgMember]; rfl)) ?_)
    refine wpAny_newObj_type ?_ (by size_fits)
    simp only [raiseNew]
    refine wpAny_bind (wpAny_handled ?_)
    rw [show A.in1.handled = none from hh]
    refine wpAny_bind (wpAny_pure (wpAny_throw ?_))
    refine wpAny_bind (wpAny_isInstance (T := "StopIteration") (b := true) ⟨_, Heap.get?_push_size _ rfl, rfl⟩ isSubtype_stop ?_)
    exact wpAny_pure (hn hge _ (((Heap.SameBut.update ..).extBut.push _).push _))

theorem raw_walks (hh : A.handled = none) (I : Addr) (hne : d ≠ I) : Walks prog w A I [I, d] [I] es.size (fun i v => ∃ e, es[i]? = some e ∧ v = e.key) (fun i h => h.IsKeyIter I d i es.size ep ∧ RawD h d es ep) where
  sub := fun b hb => by simp at hb; simp [hb]
  frame := fun _ _ _ st hk => ⟨st.1.at fun o e => hk I (by simp) o e, st.2.at fun o e => hk d (by simp) o e⟩
  item := fun i s Q E hi st hQ => raw_next hh st.1 st.2 (fun h e he hit' hs' => hQ _ _ s.toks ⟨e, he, rfl⟩ ⟨hit', st.2.at fun o q => hs'.extBut d o hne q⟩ fun b o hb q => hs'.extBut b o (fun z => hb (by simp [z])) q) fun hge => absurd hi (Nat.not_lt.mpr hge)
  done := fun s Q E st hQ => raw_next hh st.1 st.2 (fun h e he => absurd (Array.getElem?_eq_some_iff.mp he).1 (Nat.lt_irrefl _)) fun _ h' he' => hQ h' s.toks fun b o hb q => he' b o (fun z => hb (by simp [z])) q
  self := fun _ _ _ _ st hQ => wpAny_pyIter_keyiter st.1 hQ

theorem raw_src (lo : (d == sysModules) = false) : PySem.W.KdlSrc prog w "dict" d d es.size (fun i v => ∃ e, es[i]? = some e ∧ v = e.key) (fun h => RawD h d es ep) where
  type := fun _ hm => hm.typeIs
  there := fun _ hm => ⟨hm.lt, hm.lt⟩
  keep := fun _ _ hm hk => hm.at fun o e => hk d (.inl rfl) o e
  notList := by decide
  notTuple := by decide
  hint := fun _ _ _ _ hm hq => PySem.W.kdl_hint_dict hm.typeIs hq
  iter := fun _ _ hh hm => ⟨_, _, (fun _ _ hq => raw_iter lo hm hq), raw_walks hh _ (Nat.ne_of_lt hm.lt), ⟨⟨_, Heap.get?_push_size _ rfl, rfl, rfl⟩, hm.at fun o e => Heap.get?_push_of_some _ e⟩⟩
end


theorem refs_vals : ∀ xs : List (List Key × Addr × Value), Vals (xs.map fun x => V.ref x.2.1) (xs.map fun x => Value.ref x.2.1)
  | [] => .nil
  | _ :: r => .cons rfl (refs_vals r)

noncomputable def KeyRefs (H : Hp) (kvs : List (List Key × V)) (bs : List V) : Prop := Paired (fun (p : List Key × V) (y : V) => ∃ b, y = .ref b ∧ H b = some (.tup (p.1.map kV))) kvs bs
theorem KT.refs {H : Hp} {kvs : List (List Key × V)} {xs : List (List Key × Addr × Value)} (h : KT H kvs xs) : KeyRefs H kvs (xs.map fun x => V.ref x.2.1) := by
  induction h with
  | nil => exact .nil
  | cons h t ih => exact .cons ⟨_, rfl, h.2.1⟩ ih
section
variable {X : Cx} {pins : List (Addr × Obj)} {σ : St} {H : Hp} {s : Shared} {a : Addr} {kvs : List (List Key × V)} {A : Around} {E : Value → Shared → Prop}
theorem dt_raw (I : Inv X pins σ H s) (e : Rd H a (.dT kvs)) : ∃ es ep, (a == sysModules) = false ∧ RawD s.heap a es ep ∧ es.size = kvs.length ∧ kvs.length ≤ sizeLine ∧
    ∀ vs : List Value, vs.length = es.size → (∀ (j : Nat) (v : Value), vs[j]? = some v → ∃ e, es[j]? = some e ∧ v = e.key) → ∃ bs, KeyRefs H kvs bs ∧ Vals bs vs := by
  obtain ⟨z, hd, xs, rel, o, es, ep, ho, hc, hdat, he, _, _⟩ := dt_rd I.hok e
  have hsz := size_of_entries he
  have hl := Paired.length rel
  refine ⟨es, ep, hd, ⟨o, ho, hc, hdat⟩, by lia, z, fun vs hv hk => ?_⟩
  have hvs : vs = xs.map fun x => Value.ref x.2.1 := by
    apply List.ext_getElem?
    intro j
    rw [List.getElem?_map]
    cases q : vs[j]? with
    | none =>
      have h1 : vs.length ≤ j := List.getElem?_eq_none_iff.mp q
      rw [List.getElem?_eq_none (by lia), Option.map_none]
    | some v =>
      obtain ⟨en, h1, rfl⟩ := hk j v q
      rw [entry_at he j] at h1
      cases q2 : xs[j]? with
      | none => rw [q2] at h1; cases h1
      | some x =>
        rw [q2] at h1
        cases h1
        rfl
  subst hvs
  exact ⟨xs.map fun x => V.ref x.2.1, KT.refs rel, refs_vals xs⟩

theorem d_lenT {Q : Value → Shared → Prop} (I : Inv X pins σ H s) (e : Rd H a (.dT kvs)) (h : ∀ t s', Inv X pins σ H s' → Q (.int kvs.length t) s') : wpAny (model X.prog X.w) A (call (.builtin "len") [.ref a]) Q E s := by
  obtain ⟨es, ep, hd, r, hs, z, _⟩ := dt_raw I e
  refine raw_len hd r (by lia) fun t tk => ?_
  rw [hs]
  exact h t _ (I.tok tk)
end

theorem call_lenT {X : Cx} : CallR X (.builtin "len") (fun xs H Q => ∃ a kvs, xs = [V.ref a] ∧ H a = some (.dT kvs) ∧ Q (.int kvs.length) H) := by
  intro pins s σ H xs us Q I r h
  obtain ⟨a, kvs, rfl, ha, q⟩ := h
  obtain ⟨u, rfl, ru⟩ := vals1 r
  cases ru
  exact d_lenT I (.inl ha) fun t s' I' => ⟨.int kvs.length, H, I', ⟨t, rfl⟩, q⟩


end L2

set_option maxHeartbeats 1000000

namespace HwSort
open PySem PySem.W PySem.Spec PyProof.Rows HT


theorem lex_irr : ∀ a : List Int, HT.lexLt a a = false
  | [] => rfl
  | x :: r => by rw [lexLt_cons, if_pos rfl]; exact lex_irr r
theorem lex_trans : ∀ a b c : List Int, HT.lexLt a b = true → HT.lexLt b c = true → HT.lexLt a c = true
  | [], [], _, h, _ => by simp [HT.lexLt] at h
  | [], _ :: _, [], _, h => by simp [HT.lexLt] at h
  | [], _ :: _, _ :: _, _, _ => rfl
  | _ :: _, [], _, h, _ => by simp [HT.lexLt] at h
  | _ :: _, _ :: _, [], _, h => by simp [HT.lexLt] at h
  | x :: a, y :: b, z :: c, h1, h2 => by
    rw [lexLt_cons] at h1 h2 ⊢
    by_cases e1 : x = y
    · subst e1
      rw [if_pos rfl] at h1
      by_cases e2 : x = z
      · subst e2
        rw [if_pos rfl] at h2 ⊢
        exact lex_trans a b c h1 h2
      · rw [if_neg e2] at h2 ⊢
        exact h2
    · rw [if_neg e1] at h1
      have l1 : x < y := of_decide_eq_true h1
      by_cases e2 : y = z
      · subst e2
        rw [if_neg e1]
        exact h1
      · rw [if_neg e2] at h2
        have l2 : y < z := of_decide_eq_true h2
        rw [if_neg (by lia)]
        exact decide_eq_true (by lia)
theorem lex_asym (a b : List Int) (h : HT.lexLt a b = true) : HT.lexLt b a = false := by
  cases e : HT.lexLt b a with
  | false => rfl
  | true =>
    have := lex_trans a b a h e
    rw [lex_irr] at this
    cases this
theorem lex_tot : ∀ a b : List Int, a ≠ b → HT.lexLt a b = true ∨ HT.lexLt b a = true
  | [], [], h => absurd rfl h
  | [], _ :: _, _ => .inl rfl
  | _ :: _, [], _ => .inr rfl
  | x :: a, y :: b, h => by
    rw [lexLt_cons, lexLt_cons]
    by_cases e : x = y
    · subst e
      rw [if_pos rfl, if_pos rfl]
      exact lex_tot a b fun q => h (by rw [q])
    · rw [if_neg e, if_neg (fun q => e q.symm)]
      rcases Int.lt_or_lt_of_ne e with l | l
      · exact .inl (decide_eq_true l)
      · exact .inr (decide_eq_true l)

theorem lex_unique : ∀ {a b : List (List Int)}, a.Perm b → a.Pairwise (fun x y => HT.lexLt x y = true) → b.Pairwise (fun x y => HT.lexLt x y = true) → a = b
  | [], b, p, _, _ => (List.Perm.nil_eq p)
  | x :: a, [], p, _, _ => by have := p.length_eq; simp at this
  | x :: a, y :: b, p, ha, hb => by
    rw [List.pairwise_cons] at ha hb
    have e : x = y := by
      have m1 : x ∈ y :: b := p.mem_iff.mp List.mem_cons_self
      have m2 : y ∈ x :: a := p.mem_iff.mpr List.mem_cons_self
      rcases List.mem_cons.mp m1 with e | m1
      · exact e
      · rcases List.mem_cons.mp m2 with e | m2
        · exact e.symm
        · have h1 := hb.1 x m1
          have h2 := ha.1 y m2
          rw [lex_asym _ _ h1] at h2
          cases h2
    subst e
    rw [lex_unique (List.Perm.cons_inv p) ha.2 hb.2]


section
variable {prog : Program} {w : World} {A : Around} {E : Value → Shared → Prop} {s : Shared}
theorem lex_walk {b fin : Bool} {Q : Bool → Shared → Prop} {xs ys : List Value} {ns ms : List Int} (hx : IntsAre xs ns) (hy : IntsAre ys ms) (hf : fin = decide (ns.length < ms.length)) (i : Nat) (h : Q (HT.lexLt ns ms) s) : KatLex prog w A b fin Q (xs.zip ys) i s := by
  induction hx generalizing ys ms i with
  | nil =>
    rw [List.zip_nil_left]
    exact kat_nil (by cases hy <;> (rw [hf]; simpa [HT.lexLt] using h))
  | cons n t r ih =>
    cases hy with
    | nil =>
      rw [List.zip_nil_right]
      exact kat_nil (by rw [hf]; simpa [HT.lexLt] using h)
    | cons m u r' =>
      rw [List.zip_cons_cons]
      refine kat_cons (wpAny_eqBool_int ?_)
      rw [lexLt_cons] at h
      by_cases e : n = m
      · subst e
        rw [if_pos rfl] at h
        rw [beq_self_eq_true]
        refine kat_yes (ih r' ?_ (i + 1) h)
        rw [hf]
        simp
      · rw [if_neg e] at h
        have e' : (n == m) = false := by simpa using e
        rw [e']
        refine kat_no ?_
        cases hb : (b && i == 0) with
        | true => exact oneLt_int h
        | false => exact kat_one _ _ (lt_int h)
noncomputable def TupsAre (h : Heap) (a : Addr) : List Value → List (List Int) → Prop := Paired fun v ks => ∃ b o xs n, v = Value.ref b ∧ b ≠ a ∧ h.get? b = some o ∧ o.cls = .type "tuple" ∧ o.data = .seq xs n ∧ IntsAre xs.toList ks ∧ ks ≠ []
theorem TupsAre.keeps {h h' : Heap} {a : Addr} {vs : List Value} {kss : List (List Int)} (t : TupsAre h a vs kss) (k : ∀ b o, b ≠ a → h.get? b = some o → h'.get? b = some o) : TupsAre h' a vs kss :=
  L2.Paired.mapP t fun v ks hh9 => by obtain ⟨b, o, xs, n, e, hb, ho, r⟩ := hh9; exact ⟨b, o, xs, n, e, hb, k b o hb ho, r⟩
theorem TupsAre.get {h : Heap} {a : Addr} {vs : List Value} {kss : List (List Int)} (x : TupsAre h a vs kss) (i : Nat) (hi : i < vs.length) : ∃ b o xs n, vs.getD i Value.none = Value.ref b ∧ h.get? b = some o ∧ o.data = .seq xs n ∧ IntsAre xs.toList (kss.getD i []) := by
  induction x generalizing i with
  | nil => exact absurd hi (Nat.not_lt_zero _)
  | cons x t ih =>
    cases i with
    | zero =>
      obtain ⟨b, o, xs, n, e, _, ho, _, hd, hi, _⟩ := x
      exact ⟨b, o, xs, n, by simp [e], ho, hd, by simpa using hi⟩
    | succ i =>
      obtain ⟨b, o, xs, n, e, r⟩ := ih i (by simpa using hi)
      exact ⟨b, o, xs, n, by simpa using e, by simpa using r⟩
theorem TupsAre.firsts {h : Heap} {a : Addr} : ∀ {vs : List Value} {kss : List (List Int)}, TupsAre h a vs kss → ∃ fs, KatTups h vs fs ∧ fs.length = vs.length ∧ ∀ v ∈ fs, ∃ n t, v = Value.int n t
  | _, _, .nil => ⟨[], trivial, rfl, fun _ h => by cases h⟩
  | _, _, .cons hx9 t => by
    obtain ⟨b, o, xs, n, e, _, ho, hc, hd, hi, hne⟩ := hx9
    obtain ⟨fs, h1, h2, h3⟩ := TupsAre.firsts t
    obtain ⟨xs⟩ := xs
    cases hi with
    | nil => exact absurd rfl hne
    | cons m u r =>
      subst e
      refine ⟨.int m u :: fs, ⟨⟨b, o, _, n, rfl, ho, hc, hd, by simp⟩, h1⟩, by simp [h2], fun v hv => ?_⟩
      rcases List.mem_cons.mp hv with rfl | hv
      · exact ⟨m, u, rfl⟩
      · exact h3 v hv
noncomputable def kLt (kss : List (List Int)) (i j : Nat) : Bool := HT.lexLt (kss.getD i []) (kss.getD j [])
theorem getD_inj {α : Type} {l : List α} {d : α} (hn : l.Nodup) {i j : Nat} (hi : i < l.length) (hj : j < l.length) (e : l.getD i d = l.getD j d) : i = j := by
  have e1 : l.getD i d = l[i] := by simp [hi]
  have e2 : l.getD j d = l[j] := by simp [hj]
  rw [e1, e2] at e
  exact (List.getElem_inj hn).mp e
theorem tup_ord {a : Addr} {vs : List Value} {kss : List (List Int)} {b : Bool} (t : TupsAre s.heap a vs kss) (hn : kss.Nodup) : Ord (kas_ask prog w A (tuples' b) vs) s (kLt kss) vs.length := by
  have hl : vs.length = kss.length := Paired.length t
  refine ⟨fun i j C hi hj h => ?_, fun i j k _ _ _ h1 h2 => lex_trans _ _ _ h1 h2, fun i j _ _ h => lex_asym _ _ h, fun i j hi hj hne => lex_tot _ _ fun e => hne (getD_inj hn (by lia) (by lia) e)⟩
  obtain ⟨x, ox, xs, n, ex, hx, dx, ix⟩ := t.get i hi
  obtain ⟨y, oy, ys, k, ey, hy, dy, iy⟩ := t.get j hj
  unfold kas_ask
  rw [ex, ey]
  refine kat_lt hx dx hy dy (lex_walk ix iy ?_ 0 h)
  rw [← ix.length, ← iy.length]
  simp


structure Sorted (vs : List Value) (kss : List (List Int)) (out : List Value) (oss : List (List Int)) : Prop where
  perm : oss.Perm kss
  rise : oss.Pairwise fun x y => HT.lexLt x y = true
  same : ∃ ps : List Nat, ps.Perm (List.range vs.length) ∧ out = ps.map (fun i => vs.getD i Value.none) ∧ oss = ps.map fun i => kss.getD i []
theorem map_getD_range {α : Type} (l : List α) (d : α) : (List.range l.length).map (fun i => l.getD i d) = l := by
  apply List.ext_getElem?
  intro j
  rw [List.getElem?_map]
  by_cases h : j < l.length
  · rw [List.getElem?_range h]
    simp [h]
  · rw [List.getElem?_eq_none (by simpa using h), List.getElem?_eq_none (by simpa using h)]
    rfl
theorem sorted_of {vs : List Value} {kss : List (List Int)} (hl : vs.length = kss.length) {p : Array Nat} (a : Arr vs.length p) (h : Asc (kLt kss) p vs.length) :
    Sorted vs kss (p.toList.map fun i => vs.getD i Value.none) (p.toList.map fun i => kss.getD i []) := by
  have hp : p.toList.Perm (List.range vs.length) := by simpa using a.perm.toList
  refine ⟨?_, ?_, p.toList, hp, rfl, rfl⟩
  · have := hp.map fun i => kss.getD i []
    rw [hl, map_getD_range] at this
    exact this
  · rw [List.pairwise_map, List.pairwise_iff_getElem]
    intro i j hi hj hij
    rw [Array.length_toList, a.size] at hi hj
    have := h i j hij hj
    unfold kLt at this
    have e1 : at0 p i = p.toList[i] := by simp [at0, Array.getD, a.size, hi]
    have e2 : at0 p j = p.toList[j] := by simp [at0, Array.getD, a.size, hj]
    rw [e1, e2] at this
    exact this

theorem range_at {n i : Nat} (h : i < n) : at0 (List.toArray (List.range n)) i = i := by
  refine at0_of ?_
  simp [h]

theorem tup_run {a : Addr} {vs : List Value} {kss : List (List Int)} {b : Bool} {Q : SortSt → Shared → Prop} (t : TupsAre s.heap a vs kss) (hn : kss.Nodup) (h2 : 2 ≤ vs.length) (hb : vs.length < 64 ∨ kss.Pairwise fun x y => HT.lexLt x y = true)
    (hQ : ∀ st' out oss, Sorted vs kss out oss → (arrOf st').map (·.2) = out.toArray → failedOf st' = none → Q st' s) :
    wpAny (model prog w) A ((sortRuns').run (SortSt.mk' (tuples' b) (vs.toArray.zip vs.toArray) #[] 7 none)) (fun r s' => Q r.2 s') E s := by
  have hl : vs.length = kss.length := Paired.length t
  rcases hb with h64 | hr
  · exact kat_run (ks := vs) (Q := Q) (G := fun p s' => s' = s ∧ Arr vs.length p ∧ Asc (kLt kss) p vs.length) rfl h2 h64 (fun p st' s' hp har hf hg => by
      obtain ⟨rfl, ar, as⟩ := hg
      exact hQ st' _ _ (sorted_of hl ar as) (kat_snds rfl har) hf) (wp_sort (tup_ord t hn) (by lia) fun p' ar as => ⟨rfl, ar, as⟩)
  · have as : Asc (kLt kss) (List.toArray (List.range vs.length)) vs.length := by
      intro i j hij hj
      rw [range_at (by lia), range_at hj]
      unfold kLt
      have h1 : i < kss.length := by lia
      have h3 : j < kss.length := by lia
      have e1 : kss.getD i [] = kss[i] := by simp [h1]
      have e2 : kss.getD j [] = kss[j] := by simp [h3]
      rw [e1, e2]
      exact List.pairwise_iff_getElem.mp hr i j h1 h3 hij
    have o := tup_ord (prog := prog) (w := w) (A := A) (b := b) t hn
    rw [kat_ask_eq (ks := vs) (vs := vs) rfl] at o
    have run := run_asc (E := E) (Q := fun _ st' s' => Q st' s') h2 o as fun st' har hf => hQ st' _ _ (sorted_of hl (arr_range _) as) (kat_snds (ks := vs) rfl har) hf
    have est : SortSt.mk' (tuples' b) (vs.toArray.zip vs.toArray) #[] 7 none = kas_st (tuples' b) (vs.toArray.zip vs.toArray) (List.toArray (List.range vs.length)) := by
      have e := kas_range (vs.toArray.zip vs.toArray)
      rw [show (vs.toArray.zip vs.toArray).size = vs.length by simp] at e
      show SortSt.mk' (tuples' b) (vs.toArray.zip vs.toArray) #[] 7 none = SortSt.mk' (tuples' b) ((List.toArray (List.range vs.length)).map (kas_item (vs.toArray.zip vs.toArray))) #[] 7 none
      rw [e]
    rw [est]
    exact run


noncomputable def Runner (prog : Program) (w : World) (A : Around) (E : Value → Shared → Prop) (kss : List (List Int)) : Prop :=
  ∀ {s : Shared} {a : Addr} {vs : List Value} {b : Bool} {Q : SortSt → Shared → Prop}, TupsAre s.heap a vs kss → 2 ≤ vs.length → (∀ st' out oss, Sorted vs kss out oss → (arrOf st').map (·.2) = out.toArray → failedOf st' = none → Q st' s) →
    wpAny (model prog w) A ((sortRuns').run (SortSt.mk' (tuples' b) (vs.toArray.zip vs.toArray) #[] 7 none)) (fun r s' => Q r.2 s') E s
theorem runner_few {kss : List (List Int)} (hn : kss.Nodup) (hb : kss.length < 64 ∨ kss.Pairwise fun x y => HT.lexLt x y = true) : Runner prog w A E kss := fun t h2 hQ => tup_run t hn h2 (hb.imp (fun z => by have := Paired.length t; lia) fun z => z) hQ

theorem tup_list_sort {a : Addr} {vs : List Value} {n : Nat} {kss : List (List Int)} {P : PySem.Fin → Shared → Prop} (ho : s.heap.get? a = some (seqObj "list" vs.toArray n)) (t : TupsAre s.heap a vs kss) (hn : kss.Nodup) (hb : Runner prog w A E kss) (hz0 : vs.length ≤ sizeLine)
    (h : ∀ out oss, Sorted vs kss out oss → P (.done (.ret .none)) { s with heap := sortedHeap s.heap a vs out.toArray }) : wpAny (model prog w) A (Builtin.«list.sort» ⟨[.ref a], []⟩) P E s := by
  have hl : vs.length = kss.length := Paired.length t
  have ha : a < s.heap.objs.size := Heap.lt_size ho
  rw [list_sort_plain]
  refine wpAny_bind (listItems_at ho rfl (wpAny_bind (listUpdate_at ho rfl ?_ (by rw [List.size_toArray]; exact hz0) (Nat.zero_le _))))
  obtain ⟨e1, ho1⟩ : ∃ e1, (s.heap.update a (Obj.mapSeq fun _ => (#[] : Array Value))).get? a = some (seqObj "list" #[] e1) := ⟨_, get?_update_seq ho fun _ => #[]⟩
  refine wpAny_bind (seqEpoch_at ho1 rfl (wpAny_bind (wpAny_newTuple (wpAny_bind (wpAny_newList (wpAny_holding ?_) (Nat.zero_le _))) (by show vs.length ≤ _; exact hz0))))
  have ho6 : (((s.heap.update a (Obj.mapSeq fun _ => (#[] : Array Value))).push (seqObj "tuple" vs.toArray 0)).push (seqObj "list" #[] 0)).get? a = some (seqObj "list" #[] e1) := Heap.get?_push_of_some _ (Heap.get?_push_of_some _ ho1)
  have t6 : TupsAre (((s.heap.update a (Obj.mapSeq fun _ => (#[] : Array Value))).push (seqObj "tuple" vs.toArray 0)).push (seqObj "list" #[] 0)) a vs kss :=
    t.keeps fun b o hb e => Heap.get?_push_of_some _ (Heap.get?_push_of_some _ ((Heap.get?_update_ne _ _ _ _ hb).trans e))
  show wpAny (model prog w) A _ P E { s with heap := ((s.heap.update a (Obj.mapSeq fun _ => (#[] : Array Value))).push (seqObj "tuple" vs.toArray 0)).push (seqObj "list" #[] 0) }
  dsimp only
  -- what stands behind the sort itself
  have fin : ∀ (st' : SortSt) (out : List Value) (oss : List (List Int)), Sorted vs kss out oss → (arrOf st').map (·.2) = out.toArray → failedOf st' = none →
      wpAny (model prog w) A (do
        let touched := (← seqEpoch a) != e1
        Builtin.List.listUpdate (.ref a) fun _ => (arrOf st').map (·.2)
        if let some e := failedOf st' then rule "list.sort.comparison-raised"; throw e
        if touched then rule "list.sort.modified"; raiseError "ValueError" "list modified during sort"
        ret .none) P E { s with heap := ((s.heap.update a (Obj.mapSeq fun _ => (#[] : Array Value))).push (seqObj "tuple" vs.toArray 0)).push (seqObj "list" #[] 0) } := by
    intro st' out oss hS hout hf
    have hz : out.length = vs.length := by obtain ⟨ps, hp, rfl, _⟩ := hS.same; rw [List.length_map, hp.length_eq, List.length_range]
    refine wpAny_bind (seqEpoch_at ho6 rfl ?_)
    refine wpAny_bind (listUpdate_at ho6 rfl ?_ (Nat.zero_le _) (by show ((arrOf st').map (·.2)).size ≤ _; rw [hout, List.size_toArray, hz]; lia))
    rw [hf]
    simp only [bne_self_eq_false, Bool.false_eq_true, if_false]
    rw [hout]
    exact wpAny_pure (h out oss hS)
  by_cases h2 : vs.toArray.size < 2
  · rw [if_pos h2, if_pos h2]
    refine wpAny_bind (wpAny_pure ?_)
    rw [StateT.run_pure]
    refine wpAny_bind (wpAny_pure ?_)
    rw [List.size_toArray] at h2
    refine fin (SortSt.mk' general' (vs.toArray.zip vs.toArray) #[] 7 none) vs kss ⟨List.Perm.refl _, ?_, List.range vs.length, List.Perm.refl _, (map_getD_range _ _).symm, ?_⟩ ?_ rfl
    · rw [hl] at h2
      match kss, h2 with
      | [], _ => exact .nil
      | [x], _ => exact List.pairwise_singleton _ _
    · rw [hl]; exact (map_getD_range _ _).symm
    · show (vs.toArray.zip vs.toArray).map (·.2) = vs.toArray
      apply Array.toList_inj.mp
      simp only [Array.toList_map, Array.toList_zip, List.map_snd_zip (Nat.le_refl _)]
  · rw [if_neg h2, if_neg h2]
    rw [List.size_toArray] at h2
    obtain ⟨fs, g1, g2, g3⟩ := t6.firsts
    refine wpAny_bind (kat_kind (s := { s with heap := ((s.heap.update a (Obj.mapSeq fun _ => (#[] : Array Value))).push (seqObj "tuple" vs.toArray 0)).push (seqObj "list" #[] 0) }) (T := .type "int") g1 (by lia) (fun v hv => ?_) (by decide) ?_)
    · obtain ⟨m, u, rfl⟩ := g3 v hv
      exact Looks.of_pure rfl
    · refine wpAny_bind (wpAny_mono (hb (s := { s with heap := ((s.heap.update a (Obj.mapSeq fun _ => (#[] : Array Value))).push (seqObj "tuple" vs.toArray 0)).push (seqObj "list" #[] 0) })
        (Q := fun st' s' => s' = { s with heap := ((s.heap.update a (Obj.mapSeq fun _ => (#[] : Array Value))).push (seqObj "tuple" vs.toArray 0)).push (seqObj "list" #[] 0) } ∧ failedOf st' = none ∧ ∃ out oss, Sorted vs kss out oss ∧ (arrOf st').map (·.2) = out.toArray) t6 (by lia)
        fun st' out oss hS hout hf => ⟨rfl, hf, out, oss, hS, hout⟩) ?_ fun _ _ e => e)
      rintro ⟨⟨⟩, st'⟩ s' ⟨rfl, hf, out, oss, hS, hout⟩
      exact fin st' out oss hS hout hf
end
end HwSort

namespace L2
open PySem PySem.Spec PyProof.Rows HwSort


noncomputable def TupRefs (H : Hp) : List V → List (List Int) → Prop := Paired fun y ks => ∃ b, y = V.ref b ∧ H b = some (.tup (ks.map V.int))
theorem TupRefs.keeps {H H' : Hp} {bs : List V} {kss : List (List Int)} (t : TupRefs H bs kss) (k : ∀ b xs, H b = some (.tup xs) → H' b = some (.tup xs)) : TupRefs H' bs kss :=
  Paired.mapP t fun _ _ hh9 => by obtain ⟨b, e, h⟩ := hh9; exact ⟨b, e, k b _ h⟩
theorem TupRefs.same {H H' : Hp} {bs : List V} {kss : List (List Int)} (t : TupRefs H bs kss) (k : Same H H') : TupRefs H' bs kss := t.keeps fun b _ h => k b _ h
theorem TupRefs.get {H : Hp} {bs : List V} {kss : List (List Int)} (t : TupRefs H bs kss) {i : Nat} {y : V} (hy : bs[i]? = some y) : ∃ b ks, y = V.ref b ∧ kss[i]? = some ks ∧ H b = some (.tup (ks.map V.int)) := by
  induction t generalizing i with
  | nil => simp at hy
  | cons h t ih =>
    cases i with
    | zero =>
      obtain ⟨b, e, h⟩ := h
      rw [List.getElem?_cons_zero] at hy
      exact ⟨b, _, (Option.some.inj hy).symm.trans e, rfl, h⟩
    | succ i => exact ih hy
theorem TupRefs.pick {H : Hp} {bs : List V} {kss : List (List Int)} (t : TupRefs H bs kss) : ∀ (ps : List Nat), (∀ i ∈ ps, i < bs.length) → TupRefs H (ps.map fun i => bs.getD i .non) (ps.map fun i => kss.getD i [])
  | [], _ => .nil
  | i :: r, h => by
    have hi := h i List.mem_cons_self
    obtain ⟨b, ks, e, h1, h2⟩ := t.get (i := i) (y := bs[i]) (by simp [hi])
    refine .cons ⟨b, by simp [hi, e], ?_⟩ (t.pick r fun j hj => h j (List.mem_cons_of_mem _ hj))
    have : kss.getD i [] = ks := by simp [List.getD, h1]
    show H b = some (.tup ((kss.getD i []).map V.int))
    rw [this]
    exact h2

section
variable {X : Cx} {pins : List (Addr × Obj)} {σ : St} {H : Hp} {s : Shared}
theorem tups_are (I : Inv X pins σ H s) {h' : Heap} {a : Addr} (k : ∀ b o, s.heap.get? b = some o → h'.get? b = some o) (ha : s.heap.objs.size ≤ a) {bs : List V} {kss : List (List Int)} {us : List Value} (x : TupRefs H bs kss) (y : Vals bs us) (hne : ∀ ks ∈ kss, ks ≠ []) : TupsAre h' a us kss := by
  induction x generalizing us with
  | nil => cases y; exact .nil
  | cons h t ih =>
    cases y with
    | cons r q =>
      obtain ⟨b, e, hb⟩ := h
      subst e
      cases r
      obtain ⟨its, rv, ⟨o, ho, hc, n, hd⟩, _⟩ := I.tuple (SqT.of hb)
      exact .cons ⟨b, o, its.toArray, n, rfl, Nat.ne_of_lt (Nat.lt_of_lt_of_le (Heap.lt_size ho) ha), k b o ho, hc, hd, by simpa using intsAre_of rv, hne _ List.mem_cons_self⟩ (ih q fun ks h => hne ks (List.mem_cons_of_mem _ h))
theorem vals_pick {bs : List V} {us : List Value} (r : Vals bs us) : ∀ ps : List Nat, (∀ i ∈ ps, i < bs.length) → Vals (ps.map fun i => bs.getD i .non) (ps.map fun i => us.getD i Value.none)
  | [], _ => .nil
  | i :: t, h => by
    have hi := h i List.mem_cons_self
    obtain ⟨u, hu, ru⟩ := r.get (i := i) (x := bs[i]) (by simp [hi])
    refine .cons ?_ (vals_pick r t fun j hj => h j (List.mem_cons_of_mem _ hj))
    have e1 : bs.getD i .non = bs[i] := by simp [hi]
    have e2 : us.getD i Value.none = u := by simp [List.getD, hu]
    show RelV (bs.getD i .non) (us.getD i Value.none)
    rw [e1, e2]
    exact ru


theorem sort_tail {A : Around} {E : Value → Shared → Prop} {Q : VK} {bs : List V} {us : List Value} {kss : List (List Int)} (I : Inv X pins σ H s) (t : TupRefs H bs kss) (rv : Vals bs us) (hne : ∀ ks ∈ kss, ks ≠ []) (hn : kss.Nodup) (h64 : ∀ A E, Runner X.prog X.w A E kss) (hz0 : bs.length ≤ sizeLine)
    (q : ∀ l cs oss, H l = none → TupRefs H cs oss → oss.Perm kss → oss.Pairwise (fun x y => HT.lexLt x y = true) → Q (.ref l) (upd H l (.lst cs))) :
    wpAny (model X.prog X.w) A (newList us >>= fun v => holding [v] (call (.builtin "list.sort") [v]) >>= fun _ => ret v) (fun fin s' => ∃ r, fin = .done (.ret r) ∧ EP X pins σ Q r s') E s := by
  have hlu := rv.length
  refine wpAny_bind (wpAny_newList ?_ (by lia))
  have hoL : (s.heap.push (seqObj "list" us.toArray 0)).get? s.heap.objs.size = some (seqObj "list" us.toArray 0) := Heap.get?_push_size _ rfl
  have k2 : ∀ b o, s.heap.get? b = some o → (s.heap.push (seqObj "list" us.toArray 0)).get? b = some o := fun b o e => Heap.get?_push_of_some _ e
  refine wpAny_bind (wpAny_holding (wpAny_call_entry slot_list_sort ⟨_, hoL, rfl⟩ entry_list_sort (tup_list_sort hoL (tups_are I k2 (Nat.le_refl _) t rv hne) hn (h64 _ _) (by lia) fun out oss hS => ⟨_, rfl, ?_⟩) (args_list_sort _)))
  obtain ⟨ps, hp, rfl, rfl⟩ := hS.same
  have hps : ∀ i ∈ ps, i < bs.length := fun i hi => by rw [hlu]; exact List.mem_range.mp (hp.mem_iff.mp hi)
  refine wpAny_pure ⟨_, rfl, .ref s.heap.objs.size, upd H s.heap.objs.size (.lst (ps.map fun i => bs.getD i .non)), ?_, rfl, q _ _ _ (I.hok.fresh (Nat.le_refl _)) (t.pick ps hps) hS.perm hS.rise⟩
  obtain ⟨e, he⟩ := sortedHeap_at (out := (ps.map fun i => us.getD i Value.none).toArray) hoL
  refine I.laid (t' := s.toks) (fun b u hb => ?_) (Nat.le_refl _) ⟨?_, ps.map fun i => us.getD i Value.none, e, vals_pick rv ps hps, he⟩
  · have hlt : b < s.heap.objs.size := Heap.lt_size hb
    rw [sortedHeap_old (Nat.ne_of_lt hlt) (by rw [size_push']; exact Nat.lt_succ_of_lt hlt)]
    exact k2 b u hb
  · rw [List.length_map, hp.length_eq, List.length_range]
    lia
end


noncomputable def rSortD : List V → Hp → VK → Prop := fun xs H Q => ∃ a kvs kss, xs = [V.ref a] ∧ H a = some (.dT kvs) ∧ kvs.map (·.1) = kss.map (fun ks => ks.map Sum.inl) ∧ (∀ ks ∈ kss, ks ≠ []) ∧ kss.Nodup ∧ (kvs.length < 64 ∨ kss.Pairwise fun x y => HT.lexLt x y = true) ∧
  ∀ l cs oss, H l = none → TupRefs H cs oss → oss.Perm kss → oss.Pairwise (fun x y => HT.lexLt x y = true) → Q (.ref l) (upd H l (.lst cs))

theorem kV_inl (ks : List Int) : (ks.map (Sum.inl : Int → Key)).map kV = ks.map V.int := by rw [List.map_map]; rfl
theorem keyRefs_tup {H : Hp} {kvs : List (List Key × V)} {bs : List V} {kss : List (List Int)} (h : KeyRefs H kvs bs) (e : kvs.map (·.1) = kss.map (fun ks => ks.map Sum.inl)) : TupRefs H bs kss := by
  induction h generalizing kss with
  | nil =>
    cases kss with
    | nil => exact .nil
    | cons a r => cases e
  | cons h t ih =>
    cases kss with
    | nil => cases e
    | cons ks kss =>
      obtain ⟨b, e1, h⟩ := h
      rw [List.map_cons, List.map_cons] at e
      obtain ⟨e2, e3⟩ := List.cons.inj e
      rw [e2, kV_inl] at h
      exact .cons ⟨b, e1, h⟩ (ih e3)
theorem call_sortD {X : Cx} (hc : X.calm = true) : CallR X (.builtin "sorted") rSortD := by
  intro pins s σ H xs us Q I r h
  obtain ⟨a, kvs, kss, rfl, ha, ek, hne, hn, h64, q⟩ := h
  obtain ⟨u, rfl, ru⟩ := vals1 r
  cases ru
  obtain ⟨es, ep, hd, r, hs, z, hk⟩ := dt_raw I (.inl ha)
  refine Calls.call_function_entry kind_sorted plain_sorted entry_sorted (args_sorted1 _) ?_
  unfold Builtin.«sorted»
  refine wpAny_bind (m := checkCount "sorted" 1 1 _) (wpAny_pure ?_)
  refine wpAny_bind (PySem.W.kdu_collect (raw_src (es := es) (ep := ep) hd) (show X.A.in1.handled = none from I.ok.hd hc) r (by lia) fun h' tk acc keep hacc => ?_)
  obtain ⟨bs, hb, hv⟩ := hk acc.toList (by rw [Array.length_toList]; exact hacc.1) (fun j v e => hacc.2 j v (by rw [← Array.getElem?_toList]; exact e))
  have hl : bs.length = kvs.length := (Paired.length hb).symm
  exact sort_tail (I.kept (t' := tk) keep) (keyRefs_tup hb ek) hv hne hn (fun _ _ => runner_few hn (h64.imp (fun z => by have := congrArg List.length ek; rw [List.length_map, List.length_map] at this; lia) fun z => z)) (by lia) q

end L2

set_option maxHeartbeats 1000000

namespace Hw
open PySem L2 HwSort

noncomputable abbrev Pr := Int × Int

noncomputable abbrev Cs := List (Pr × Int)
noncomputable def encK (k : Pr) : List Key := [Sum.inl k.1, Sum.inl k.2]
noncomputable def enc (cs : Cs) : List (List Key × V) := cs.map fun e => (encK e.1, V.int e.2)
noncomputable def lookC (cs : Cs) (k : Pr) : Option Int := (cs.find? fun e => decide (e.1 = k)).map (·.2)
noncomputable def putC (cs : Cs) (k : Pr) (v : Int) : Cs := if (cs.any fun e => decide (e.1 = k)) = true then cs.map (fun e => if e.1 = k then (e.1, v) else e) else cs ++ [(k, v)]
noncomputable def optV : Option Int → V
  | none => .non
  | some i => .int i
noncomputable def tri (e : Pr × Int) : List Int := [e.1.1, e.1.2, e.2]
noncomputable def two (k : Pr) : List Int := [k.1, k.2]

theorem encK_inj {a b : Pr} (h : encK a = encK b) : a = b := by
  obtain ⟨a1, a2⟩ := a
  obtain ⟨b1, b2⟩ := b
  simp only [encK, List.cons.injEq, Sum.inl.injEq, and_true] at h
  rw [h.1, h.2]
theorem encK_iff {a b : Pr} : encK a = encK b ↔ a = b := ⟨encK_inj, fun e => by rw [e]⟩
theorem enc_len (cs : Cs) : (enc cs).length = cs.length := by simp [enc]
theorem val_enc (k : Pr) : ∀ cs : Cs, valV (enc cs) (encK k) = (lookC cs k).map V.int
  | [] => rfl
  | e :: r => by
    have ih := val_enc k r
    by_cases h : e.1 = k
    · have h2 : (encK e.1, V.int e.2).1 = encK k := by rw [h]
      show valV ((encK e.1, V.int e.2) :: enc r) (encK k) = _
      rw [valV_pos h2]
      simp [lookC, List.find?_cons, h]
    · have h2 : ¬ (encK e.1, V.int e.2).1 = encK k := fun z => h (encK_inj z)
      show valV ((encK e.1, V.int e.2) :: enc r) (encK k) = _
      rw [valV_neg h2, ih]
      simp [lookC, List.find?_cons, h]
theorem put_enc (cs : Cs) (k : Pr) (v : Int) : putK (enc cs) (encK k) (V.int v) = enc (putC cs k v) := by
  have e : ((enc cs).any fun kv => decide (kv.1 = encK k)) = (cs.any fun e => decide (e.1 = k)) := by
    simp only [enc, List.any_map]
    congr 1
    funext x
    simp only [Function.comp, encK_iff]
  unfold putK putC
  rw [e]
  split
  · simp only [enc, List.map_map]
    apply List.map_congr_left
    intro x _
    simp only [Function.comp, encK_iff]
    split <;> rfl
  · simp [enc]
noncomputable def keysC (cs : Cs) : List Pr := cs.map (·.1)
theorem look_some_mem {cs : Cs} {k : Pr} {v : Int} (h : lookC cs k = some v) : (k, v) ∈ cs := by
  unfold lookC at h
  obtain ⟨e, he, rfl⟩ := Option.map_eq_some_iff.mp h
  have h1 := List.find?_some he
  have h2 := List.mem_of_find?_eq_some he
  have h3 : e.1 = k := of_decide_eq_true h1
  rw [← h3]
  exact h2
theorem look_none {cs : Cs} {k : Pr} (h : lookC cs k = none) : k ∉ keysC cs := by
  intro hk
  obtain ⟨e, he, e2⟩ := List.mem_map.mp hk
  unfold lookC at h
  rw [Option.map_eq_none_iff, List.find?_eq_none] at h
  exact h e he (decide_eq_true e2)
theorem look_mem {cs : Cs} (hn : (keysC cs).Nodup) {k : Pr} {v : Int} (h : (k, v) ∈ cs) : lookC cs k = some v := by
  induction cs with
  | nil => cases h
  | cons e r ih =>
    have hn' : e.1 ∉ keysC r ∧ (keysC r).Nodup := List.nodup_cons.mp hn
    unfold lookC
    rw [List.find?_cons]
    rcases List.mem_cons.mp h with h | h
    · subst h
      simp
    · have hne : ¬ e.1 = k := fun z => hn'.1 (List.mem_map.mpr ⟨(k, v), h, z.symm⟩)
      rw [decide_eq_false hne]
      exact ih hn'.2 h
theorem two_inj {a b : Pr} (h : two a = two b) : a = b := by
  obtain ⟨a1, a2⟩ := a
  obtain ⟨b1, b2⟩ := b
  simp only [two, List.cons.injEq, and_true] at h
  rw [h.1, h.2]
theorem enc_keys (cs : Cs) : (enc cs).map (·.1) = ((keysC cs).map two).map (fun ks => ks.map Sum.inl) := by
  simp only [enc, keysC, List.map_map]
  rfl
theorem two_ne (cs : Cs) : ∀ ks ∈ (keysC cs).map two, ks ≠ [] := by
  intro ks h
  obtain ⟨k, _, rfl⟩ := List.mem_map.mp h
  simp [two]
theorem nodup_map {α β : Type} {f : α → β} (hf : ∀ a b, f a = f b → a = b) : ∀ {l : List α}, l.Nodup → (l.map f).Nodup
  | [], _ => List.nodup_nil
  | a :: r, h => by
    obtain ⟨h1, h2⟩ := List.nodup_cons.mp h
    rw [List.map_cons, List.nodup_cons]
    refine ⟨fun m => ?_, nodup_map hf h2⟩
    obtain ⟨b, hb, e⟩ := List.mem_map.mp m
    exact h1 (hf _ _ e ▸ hb)
theorem two_nodup {cs : Cs} (hn : (keysC cs).Nodup) : ((keysC cs).map two).Nodup := nodup_map (fun _ _ => two_inj) hn

noncomputable def triC (cs : Cs) (ks : List Int) : List Int := ks ++ [(lookC cs (ks.getD 0 0, ks.getD 1 0)).getD 0]
theorem triC_two (cs : Cs) (k : Pr) {c : Int} (h : lookC cs k = some c) : triC cs (two k) = [k.1, k.2, c] := by
  simp [triC, two, h]
theorem key_of_mem {cs : Cs} (hn : (keysC cs).Nodup) {oss : List (List Int)} (pm : oss.Perm ((keysC cs).map two)) {i : Nat} {ks : List Int} (h : oss[i]? = some ks) : ∃ (k : Pr) (c : Int), ks = two k ∧ lookC cs k = some c := by
  have m1 : ks ∈ (keysC cs).map two := pm.mem_iff.mp (List.mem_of_getElem? h)
  obtain ⟨k, hk, rfl⟩ := List.mem_map.mp m1
  obtain ⟨e, he, rfl⟩ := List.mem_map.mp hk
  exact ⟨e.1, e.2, rfl, look_mem hn he⟩
theorem len_one {α : Type} {l : List α} (h : l.length = 1) : ∃ a, l = [a] := by
  match l, h with
  | [a], _ => exact ⟨a, rfl⟩
theorem len_two {α : Type} {l : List α} (h : l.length = 2) : ∃ a b, l = [a, b] := by
  match l, h with
  | [a, b], _ => exact ⟨a, b, rfl⟩
theorem tri_perm {cs : Cs} (hn : (keysC cs).Nodup) {oss : List (List Int)} (pm : oss.Perm ((keysC cs).map two)) : (oss.map (triC cs)).Perm (cs.map tri) := by
  have e : ((keysC cs).map two).map (triC cs) = cs.map tri := by
    unfold keysC
    rw [List.map_map, List.map_map]
    apply List.map_congr_left
    intro x hx
    have hl : lookC cs x.1 = some x.2 := look_mem hn hx
    exact triC_two cs x.1 hl
  rw [← e]
  exact pm.map _
theorem lex_tri {cs : Cs} {a b : Pr} {c d : Int} (ha : lookC cs a = some c) (hb : lookC cs b = some d) (h : HT.lexLt (two a) (two b) = true) : HT.lexLt (triC cs (two a)) (triC cs (two b)) = true := by
  rw [triC_two cs a ha, triC_two cs b hb]
  simp only [two, HT.lexLt_cons, HT.lexLt_nil_nil] at h ⊢
  by_cases e1 : a.1 = b.1
  · rw [if_pos e1] at h ⊢
    by_cases e2 : a.2 = b.2
    · rw [if_pos e2] at h
      cases h
    · rw [if_neg e2] at h ⊢
      exact h
  · rw [if_neg e1] at h ⊢
    exact h
theorem tri_rise {cs : Cs} (hn : (keysC cs).Nodup) {oss : List (List Int)} (pm : oss.Perm ((keysC cs).map two)) (pw : oss.Pairwise fun x y => HT.lexLt x y = true) : (oss.map (triC cs)).Pairwise fun x y => HT.lexLt x y = true := by
  rw [List.pairwise_map]
  rw [List.pairwise_iff_getElem] at pw ⊢
  intro i j hi hj hij
  obtain ⟨k1, c1, e1, l1⟩ := key_of_mem hn pm (i := i) (ks := oss[i]) (by simp)
  obtain ⟨k2, c2, e2, l2⟩ := key_of_mem hn pm (i := j) (ks := oss[j]) (by simp)
  have h := pw i j hi hj hij
  rw [e1, e2] at h ⊢
  exact lex_tri l1 l2 h
theorem map_getD {α β : Type} (f : α → β) (l : List α) (d : α) : (List.range l.length).map (fun i => f (l.getD i d)) = l.map f := by
  have := congrArg (List.map f) (map_getD_range l d)
  rw [List.map_map] at this
  exact this


noncomputable def flds (many : Int) (d : Addr) : List (Str × V) := putF "costs" (.ref d) (putF "tellers" (.int many) [])
theorem tc : ¬ (("tellers" : Str) = "costs") := by decide +kernel
theorem flds_many (many : Int) (d : Addr) : (flds many d).lookup ("tellers" : Str) = some (.int many) := by
  unfold flds
  rw [lookup_putF, if_neg tc, lookup_putF, if_pos rfl]
theorem flds_costs (many : Int) (d : Addr) : (flds many d).lookup ("costs" : Str) = some (.ref d) := by
  unfold flds
  rw [lookup_putF, if_pos rfl]
theorem flds_no (many : Int) (d : Addr) {m : Str} (h1 : ¬ m = "costs") (h2 : ¬ m = "tellers") : (flds many d).lookup m = none := by
  unfold flds
  rw [lookup_putF, if_neg h1, lookup_putF, if_neg h2]
  rfl
structure BookAt (C : Addr) (H : Hp) (p d : Addr) (many : Int) (cs : Cs) : Prop where
  ob : ∃ dx, H p = some (.ins C dx (flds many d))
  dc : H d = some (.dT (enc cs))

noncomputable def KeepBut (d : Addr) (H H' : Hp) : Prop := ∀ b o, H b = some o → b ≠ d → H' b = some o
theorem BookAt.same {C : Addr} {H H' : Hp} {p d : Addr} {many : Int} {cs : Cs} (b : BookAt C H p d many cs) (h : Same H H') : BookAt C H' p d many cs :=
  ⟨let ⟨dx, e⟩ := b.ob; ⟨dx, h _ _ e⟩, h _ _ b.dc⟩
theorem BookAt.ne {C : Addr} {H : Hp} {p d : Addr} {many : Int} {cs : Cs} (b : BookAt C H p d many cs) : p ≠ d := by
  obtain ⟨dx, e⟩ := b.ob
  exact ne_of e b.dc (fun z => nomatch z)
theorem same_upd {H : Hp} {p : Addr} {o : HO} (h : H p = none) : Same H (upd H p o) := fun b u e => by rw [upd_ne (ne_of_none e h)]; exact e
noncomputable def Ok2 (many one other : Int) : Prop := 0 ≤ one ∧ one < many ∧ 0 ≤ other ∧ other < many ∧ one ≠ other ∧ other ≠ 0


inductive sp_check (vs : List V) (H : Hp) (Q : VK) (E : XK) : Prop
  | mk (many : _) (one : _) (other : _) (h09 : vs = [.int many, .int one, .int other]) (h19 : Ok2 many one other) (h29 : Q .non H) : sp_check vs H Q E
inductive sp_init (C : Addr) (vs : List V) (H : Hp) (Q : VK) (E : XK) : Prop
  | mk (p dx : Addr) (many : Int) (h09 : vs = [.ref p, .int many]) (h19 : H p = some (.ins C dx [])) (h29 : 1 ≤ many) (h39 : many ≤ 12) (h49 : ∀ (d : Addr) (H' : Hp), H d = none → BookAt C H' p d many [] → (∀ b o, H b = some o → b ≠ p → H' b = some o) → Q .non H') : sp_init C vs H Q E
inductive sp_many (C : Addr) (vs : List V) (H : Hp) (Q : VK) (E : XK) : Prop
  | mk (p d : Addr) (many : Int) (cs : Cs) (h09 : vs = [.ref p]) (h19 : BookAt C H p d many cs) (h29 : Q (.int many) H) : sp_many C vs H Q E
inductive sp_let (C : Addr) (vs : List V) (H : Hp) (Q : VK) (E : XK) : Prop
  | mk (p d : Addr) (many : Int) (cs : Cs) (one other cost : Int) (h09 : vs = [.ref p, .int one, .int other, .int cost]) (h19 : BookAt C H p d many cs) (h29 : Ok2 many one other) (h39 : cs.length < 1000) (h49 : ∀ H', BookAt C H' p d many (putC cs (one, other) cost) → KeepBut d H H' → Q (.int (putC cs (one, other) cost).length) H') : sp_let C vs H Q E
inductive sp_cost (C : Addr) (vs : List V) (H : Hp) (Q : VK) (E : XK) : Prop
  | mk (p d : Addr) (many : Int) (cs : Cs) (one other : Int) (h09 : vs = [.ref p, .int one, .int other]) (h19 : BookAt C H p d many cs) (h29 : Ok2 many one other) (h39 : ∀ H', Same H H' → Q (optV (lookC cs (one, other))) H') : sp_cost C vs H Q E
end Hw

set_option maxHeartbeats 1000000

namespace L2
open PySem PySem.Spec PyProof.Rows


theorem boot_len : bootBuiltins "len" = some (.builtin "len") := by decide +kernel
theorem boot_min : bootBuiltins "min" = some (.builtin "min") := by decide +kernel
theorem boot_isinstance : bootBuiltins "isinstance" = some (.builtin "isinstance") := by decide +kernel
theorem boot_sorted : bootBuiltins "sorted" = some (.builtin "sorted") := by decide +kernel
theorem boot_sum : bootBuiltins "sum" = some (.builtin "sum") := by decide +kernel
theorem boot_list : bootBuiltins "list" = some (.type "list") := by decide +kernel
theorem boot_tuple : bootBuiltins "tuple" = some (.type "tuple") := by decide +kernel
theorem boot_int : bootBuiltins "int" = some (.type "int") := by decide +kernel
theorem boot_bool : bootBuiltins "bool" = some (.type "bool") := by decide +kernel
theorem boot_dict : bootBuiltins "dict" = some (.type "dict") := by decide +kernel


section
variable (P : Program) (w : World) (K : PySem.W.Frag) (mg : Str → Option Value) (base : Heap)
noncomputable def Def (k : Nat) (x : Str) (ps : List Str) (sp : Sp) : Prop := ∃ f fd, FnOk P w K mg base CX0 k f fd ps sp ∧ mg x = some (.ref f) ∧ PySem.W.keepIn K (.ref f) = true ∧ Binds K fd ps []
noncomputable def MetD (C : Addr) (k : Nat) (m : Str) (ps : List Str) (sp : Sp) : Prop := ∃ f fd, FnOk P w K mg base CX0 k f fd ps sp ∧ Meth K C m f ∧ Binds K fd ps []
noncomputable def MakD (C : Addr) (k : Nat) (x : Str) (ps : List Str) (sp : Sp) : Prop := ∃ f fd, FnOk P w K mg base CX0 k f fd ps sp ∧ Mk K C f ∧ mg x = some (.ref C) ∧ Binds K fd ps []

noncomputable def FunAt (x qual : Str) (st : Stmt) : Prop := ∃ f fd, Fun K x qual st f fd ∧ mg x = some (.ref f)
noncomputable def MetAt (C : Addr) (x qual : Str) (st : Stmt) : Prop := ∃ f fd, Fun K x qual st f fd ∧ Meth K C x f
noncomputable def MakAt (C : Addr) (c x qual : Str) (st : Stmt) : Prop := ∃ f fd, Fun K x qual st f fd ∧ Mk K C f ∧ mg c = some (.ref C)
end
section
variable {P : Program} {w : World} {K : PySem.W.Frag} {mg : Str → Option Value} {base : Heap} {C : Addr}

noncomputable def BodyOk (P : Program) (w : World) (K : PySem.W.Frag) (mg : Str → Option Value) (base : Heap) (qual : Str) (st : Stmt) (N : List Str) (k : Nat) (sp : Sp) : Prop :=
  ∀ (f : Addr) (cdv : Value) (A : Around) (outer : List Env) (s : Shared) (H : Hp) (vs : List V) (Q : VK) (E : XK), Room k (A.deeper (envOfC qual (defScope st) s.heap.objs.size f cdv)) → sp vs H Q E →
    ∃ t, PSs (cxOf CX0 P w K mg base N qual (defScope st) f cdv A outer s H E).nox (defBody st) t ∧ t { nx := fun _ H' => Q .non H', rt := Q } (start N vs) H
noncomputable def BindOk (x qual : Str) (st : Stmt) (ps : List Str) : Prop := ∀ (kV doc pm : Value) (an : Option Addr) (cdv ct : Value) (us : List Value), us.length = ps.length → bindArgs (PySem.W.fnOf x qual (defArgs st) (defBody st) (defScope st) .none kV doc pm an cdv ct) ⟨us, []⟩ = pure (ps.zip us)
theorem FunAt.def {x qual : Str} {st : Stmt} {N ps : List Str} {k : Nat} {sp : Sp} (F : FunAt K mg x qual st) (S : FnScope N ps (defScope st)) (hb : BindOk x qual st ps) (len : ∀ vs H Q E, sp vs H Q E → vs.length = ps.length) (h : BodyOk P w K mg base qual st N k sp) : Def P w K mg base (k + 1) x ps sp := by
  obtain ⟨f, fd, F, e⟩ := F
  exact ⟨f, fd, F.ok S len (h f), e, F.kp, F.binds hb⟩
theorem MetAt.def {x qual : Str} {st : Stmt} {N ps : List Str} {k : Nat} {sp : Sp} (F : MetAt K C x qual st) (S : FnScope N ps (defScope st)) (hb : BindOk x qual st ps) (len : ∀ vs H Q E, sp vs H Q E → vs.length = ps.length) (h : BodyOk P w K mg base qual st N k sp) : MetD P w K mg base C (k + 1) x ps sp := by
  obtain ⟨f, fd, F, e⟩ := F
  exact ⟨f, fd, F.ok S len (h f), e, F.binds hb⟩
theorem MakAt.def {c x qual : Str} {st : Stmt} {N ps : List Str} {k : Nat} {sp : Sp} (F : MakAt K mg C c x qual st) (S : FnScope N ps (defScope st)) (hb : BindOk x qual st ps) (len : ∀ vs H Q E, sp vs H Q E → vs.length = ps.length) (h : BodyOk P w K mg base qual st N k sp) : MakD P w K mg base C (k + 1) c ps sp := by
  obtain ⟨f, fd, F, e, e2⟩ := F
  exact ⟨f, fd, F.ok S len (h f), e, e2, F.binds hb⟩
end
section
variable {X : Cx} {k : Nat} {C : Addr} {ps : List Str} {sp : Sp} {x m : Str} {p pos apos : Pos} {e o : Expr} {es : List Expr} {ta : TE} {t : TA}
theorem pe_callD (D : Def X.prog X.w X.K X.mg X.base k x ps sp) (hr : Room k X.A) (ha : PA X (e :: es) t) (hg : Gl X x := by rfl) (hdb : (x == ("__debug__" : Str)) = false := by decide)
    (he : starEach (e :: es) X.env = (false, eval e X.env) :: starEach es X.env := by rfl) (hpl : (backTo pos (starEach es X.env)).any (·.1) = false := by rfl) : PE X (.Call (.Name x p) (e :: es) [] pos) (tCall sp [] E0 t) := by
  obtain ⟨f, fd, F, hm, hk, hb⟩ := D
  exact pe_call F hr hg hm hk hb .nil pass0 ha hdb he hpl
theorem pe_methD {pl : Sem Bool} (D : MetD X.prog X.w X.K X.mg X.base C k m ps sp) (c : Cls X.K C) (hr : Room k X.A) (he : PE X o ta) (ha : PA X (e :: es) t)
    (hst : starEach (e :: es) X.env = (false, eval e X.env) :: starEach es X.env := by rfl) (hpl : (backTo pos (starEach es X.env)).any (·.1) = false := by rfl)
    (ht : eval (.Call (.Attribute o m apos) (e :: es) [] pos) X.env = (do
      let ov ← eval o X.env
      standAt apos.atName
      let (f, first) ← holding [ov] (getMethod ov m pl)
      callWith pos f first (backTo pos (starEach (e :: es) X.env)) (backToKw pos (keywordEach [] X.env))) := by rfl) :
    PE X (.Call (.Attribute o m apos) (e :: es) [] pos) (tMeth C m sp [] E0 ta t) := by
  obtain ⟨f, fd, F, hm, hb⟩ := D
  exact pe_meth (pl := pl) he c hm F hr hb .nil pass0 ha hst hpl ht
theorem pe_methD0 {pl : Sem Bool} (D : MetD X.prog X.w X.K X.mg X.base C k m ps sp) (c : Cls X.K C) (hr : Room k X.A) (he : PE X o ta)
    (ht : eval (.Call (.Attribute o m apos) [] [] pos) X.env = (do
      let ov ← eval o X.env
      standAt apos.atName
      let (f, first) ← holding [ov] (getMethod ov m pl)
      callWith pos f first (backTo pos (starEach [] X.env)) (backToKw pos (keywordEach [] X.env))) := by rfl) :
    PE X (.Call (.Attribute o m apos) [] [] pos) (tMeth C m sp [] E0 ta tNil) := by
  obtain ⟨f, fd, F, hm, hb⟩ := D
  exact pe_meth0 (pl := pl) he c hm F hr hb .nil pass0 ht
theorem pe_makeD (D : MakD X.prog X.w X.K X.mg X.base C k x ps sp) (hr : Room (k + 1) X.A) (ha : PA X (e :: es) t) (hg : Gl X x := by rfl) (hdb : (x == ("__debug__" : Str)) = false := by decide)
    (he : starEach (e :: es) X.env = (false, eval e X.env) :: starEach es X.env := by rfl) (hpl : (backTo pos (starEach es X.env)).any (·.1) = false := by rfl) : PE X (.Call (.Name x p) (e :: es) [] pos) (tMake C sp [] E0 t) := by
  obtain ⟨f, fd, F, hm, e2, hb⟩ := D
  exact pe_make hm F hr hg e2 hb .nil pass0 ha hdb he hpl
end


theorem call_isi {X : Cx} : CallR X (.builtin "isinstance") (fun xs H Q => ∃ x n t b, xs = [x, V.ty n] ∧ TyOf X.K H x t ∧ PySem.W.kitOne X.K t (.type n) = some b ∧ Q (.bl b) H) := by
  intro pins s σ H xs us Q I r h
  obtain ⟨x, n, t, b, rfl, ty, e, q⟩ := h
  obtain ⟨u, v, rfl, ru, rv⟩ := vals2 r
  cases rv
  exact isinst_ok I ru ty e fun tk => ⟨.bl b, H, I.tok tk, rfl, q⟩

theorem isi_int_int {K : PySem.W.Frag} : PySem.W.kitOne K (.type "int") (.type "int") = some true := rfl
theorem isi_int_bool {K : PySem.W.Frag} : PySem.W.kitOne K (.type "int") (.type "bool") = some false := rfl
theorem isi_list_list {K : PySem.W.Frag} : PySem.W.kitOne K (.type "list") (.type "list") = some true := rfl
theorem isi_tuple_tuple {K : PySem.W.Frag} : PySem.W.kitOne K (.type "tuple") (.type "tuple") = some true := rfl
theorem TupRefs.length {H : Hp} {bs : List V} {kss : List (List Int)} (t : TupRefs H bs kss) : bs.length = kss.length := Paired.length t
end L2

set_option maxHeartbeats 1000000

namespace L2
open PySem PySem.Spec PyProof.Rows
section
variable {K : PySem.W.Frag} {σ : St} {H : Hp} {Q : VK}
theorem rI0_int {g : Int → Int → V} {i j : Int} : rI0 g (.int i) (.int j) H Q ↔ Q (g i j) H := ⟨fun ⟨_, _, e1, e2, q⟩ => by cases e1; cases e2; exact q, fun q => ⟨i, j, rfl, rfl, q⟩⟩
theorem rI_int {C : Int → Int → Prop} {g : Int → Int → V} {i j : Int} : rI C g (.int i) (.int j) H Q ↔ C i j ∧ Q (g i j) H := ⟨fun ⟨_, _, e1, e2, c, q⟩ => by cases e1; cases e2; exact ⟨c, q⟩, fun hh9 => by obtain ⟨c, q⟩ := hh9; exact ⟨i, j, rfl, rfl, c, q⟩⟩
theorem rU_int {g : Int → V} {i : Int} : rU g (.int i) H Q ↔ Q (g i) H := ⟨fun ⟨_, e1, q⟩ => by cases e1; exact q, fun q => ⟨i, rfl, q⟩⟩
theorem rEq_int {i j : Int} : rEq (.int i) (.int j) H Q ↔ Q (.bl (decide (i = j))) H := by
  unfold rEq
  have e : decide (V.int i = V.int j) = decide (i = j) := by
    by_cases h : i = j
    · subst h; simp
    · rw [decide_eq_false h, decide_eq_false fun z => h (V.int.inj z)]
  rw [e]
  exact ⟨fun h => h.2, fun h => ⟨rfl, h⟩⟩
theorem rNe_int {i j : Int} : rNe (.int i) (.int j) H Q ↔ Q (.bl (!decide (i = j))) H := by
  unfold rNe
  have e : decide (V.int i = V.int j) = decide (i = j) := by
    by_cases h : i = j
    · subst h; simp
    · rw [decide_eq_false h, decide_eq_false fun z => h (V.int.inj z)]
  rw [e]
  exact ⟨fun h => h.2, fun h => ⟨rfl, h⟩⟩

theorem rd_fld {i : Nat} {p C dx : Addr} {fs : List (Str × V)} {v : V} {f : Str} (h1 : H p = some (.ins C dx fs)) (cl : Cls K C) (na : NoAttr K C f) (l : fs.lookup f = some v) (q : Q v H) (hσ : σ[i]? = some (some (.ref p)) := by rfl) : tFld K (tVar i) f σ H Q :=
  ⟨_, hσ, p, C, dx, fs, v, rfl, h1, cl, na, l, q⟩

end
end L2

namespace L2
open PySem PySem.Spec PyProof.Rows

noncomputable def KeepNL (H H' : Hp) : Prop := ∀ b o, H b = some o → (∀ ys, o ≠ .lst ys) → H' b = some o
theorem Same.nl {H H' : Hp} (h : Same H H') : KeepNL H H' := fun b o e _ => h b o e
theorem KeepNL.trans {H H1 H2 : Hp} (a : KeepNL H H1) (b : KeepNL H1 H2) : KeepNL H H2 := fun c o e n => b c o (a c o e n) n
theorem nl_upd {H : Hp} {p : Addr} {ys zs : List V} (h : H p = some (.lst ys)) : KeepNL H (upd H p (.lst zs)) := fun b o e n => by
  rw [upd_ne (fun z => by subst z; rw [h] at e; exact n ys (Option.some.inj e).symm)]
  exact e
section
variable {K : PySem.W.Frag} {g : Cz → TG} {te : Cz → TE} {σ : St} {Q : VK} {H1 : Hp} {n0 : Nat}

theorem comp_list_map {a : Addr} {xs : List V} (Rel : Nat → V → Hp → Prop) (hR : ∀ i v H H', Rel i v H → KeepNL H H' → Rel i v H') (hl : SqL K H1 a xs) (hlen : xs.length ≤ 100000)
    (turn : ∀ z i x ws H (F : St → V → Hp → Prop), xs[i]? = some x → ws.length = n0 → Same H1 H → (∀ ws' v H5, ws'.length = n0 → Same H H5 → Rel i v H5 → F (σ ++ ws') v H5) → g z x (σ ++ ws) H fun σ3 H3 => te z σ3 H3 fun v H5 => F σ3 v H5)
    (q : ∀ p vs H', H1 p = none → Same H1 H' → H' p = some (.lst vs) → vs.length = xs.length → (∀ i v, vs[i]? = some v → Rel i v H') → Q (.ref p) H') : CompR n0 g (fun _ => tYes) te σ Q (Itl K a) H1 := by
  refine comp_list (xs := xs) (fun p i σ' H' => ∃ ws vs, σ' = σ ++ ws ∧ ws.length = n0 ∧ Same H1 H' ∧ H' p = some (.lst vs) ∧ vs.length = i ∧ ∀ j v, vs[j]? = some v → Rel j v H')
    (fun p hp => ⟨_, [], rfl, List.length_replicate, fun b o e => by rw [upd_ne (ne_of_none e hp)]; exact e, upd_same, rfl, fun j v h => by simp at h⟩) (fun p i σ' H' hp hi hh9 => by obtain ⟨_, _, _, _, s, _⟩ := hh9; exact s.seq hl) ?_ ?_
  · rintro p z i x σ' H' hp hx ⟨ws, vs, rfl, hw, s, hv, rfl, hr⟩
    refine turn z vs.length x ws H' (fun σ3 v H5 => ∃ ys, H5 p = some (.lst ys) ∧ ys.length < sizeLine ∧ ∃ ws vs', σ3 = σ ++ ws ∧ ws.length = n0 ∧ Same H1 (upd H5 p (.lst (ys ++ [v]))) ∧ upd H5 p (.lst (ys ++ [v])) p = some (.lst vs') ∧ vs'.length = vs.length + 1 ∧
      ∀ j w, vs'[j]? = some w → Rel j w (upd H5 p (.lst (ys ++ [v])))) hx hw s fun ws' v H5 hw' s5 r => ?_
    have hi : vs.length < xs.length := (List.getElem?_eq_some_iff.mp hx).1
    have h5 : H5 p = some (.lst vs) := s5 _ _ hv
    refine ⟨vs, h5, by rw [sizeLine_eq]; lia, ws', vs ++ [v], rfl, hw', fun b o e => ?_, upd_same, by simp, fun j w hj => ?_⟩
    · rw [upd_ne (ne_of_none e hp)]
      exact s5 _ _ (s _ _ e)
    · have k5 : KeepNL H5 (upd H5 p (.lst (vs ++ [v]))) := nl_upd h5
      by_cases hjl : j < vs.length
      · rw [List.getElem?_append_left hjl] at hj
        exact hR j w _ _ (hr j w hj) (s5.nl.trans k5)
      · rw [List.getElem?_append_right (by lia)] at hj
        have e0 : j - vs.length = 0 := by
          have := (List.getElem?_eq_some_iff.mp hj).1
          simp at this
          lia
        rw [e0] at hj
        have ej : j = vs.length := by lia
        subst ej
        cases hj
        exact hR _ _ _ _ r k5
  · rintro p σ' H' hp ⟨ws, vs, rfl, hw, s, hv, hl', hr⟩
    exact q p vs H' hp s hv hl' hr

theorem comp_range_map {lo : Int} {n : Nat} (Rel : Nat → V → Hp → Prop) (hR : ∀ i v H H', Rel i v H → KeepNL H H' → Rel i v H') (hlen : n ≤ 100000)
    (turn : ∀ z i ws H (F : St → V → Hp → Prop), i < n → ws.length = n0 → Same H1 H → (∀ ws' v H5, ws'.length = n0 → Same H H5 → Rel i v H5 → F (σ ++ ws') v H5) → g z (.int (lo + i)) (σ ++ ws) H fun σ3 H3 => te z σ3 H3 fun v H5 => F σ3 v H5)
    (q : ∀ p vs H', H1 p = none → Same H1 H' → H' p = some (.lst vs) → vs.length = n → (∀ i v, vs[i]? = some v → Rel i v H') → Q (.ref p) H') : CompR n0 g (fun _ => tYes) te σ Q (Itr lo n) H1 := by
  refine comp_range (fun p i σ' H' => ∃ ws vs, σ' = σ ++ ws ∧ ws.length = n0 ∧ Same H1 H' ∧ H' p = some (.lst vs) ∧ vs.length = i ∧ ∀ j v, vs[j]? = some v → Rel j v H')
    (fun p hp => ⟨_, [], rfl, List.length_replicate, fun b o e => by rw [upd_ne (ne_of_none e hp)]; exact e, upd_same, rfl, fun j v h => by simp at h⟩) ?_ ?_
  · rintro p z i σ' H' hp hi ⟨ws, vs, rfl, hw, s, hv, rfl, hr⟩
    refine turn z vs.length ws H' (fun σ3 v H5 => ∃ ys, H5 p = some (.lst ys) ∧ ys.length < sizeLine ∧ ∃ ws vs', σ3 = σ ++ ws ∧ ws.length = n0 ∧ Same H1 (upd H5 p (.lst (ys ++ [v]))) ∧ upd H5 p (.lst (ys ++ [v])) p = some (.lst vs') ∧ vs'.length = vs.length + 1 ∧
      ∀ j w, vs'[j]? = some w → Rel j w (upd H5 p (.lst (ys ++ [v])))) hi hw s fun ws' v H5 hw' s5 r => ?_
    have h5 : H5 p = some (.lst vs) := s5 _ _ hv
    refine ⟨vs, h5, by rw [sizeLine_eq]; lia, ws', vs ++ [v], rfl, hw', fun b o e => ?_, upd_same, by simp, fun j w hj => ?_⟩
    · rw [upd_ne (ne_of_none e hp)]
      exact s5 _ _ (s _ _ e)
    · have k5 : KeepNL H5 (upd H5 p (.lst (vs ++ [v]))) := nl_upd h5
      by_cases hjl : j < vs.length
      · rw [List.getElem?_append_left hjl] at hj
        exact hR j w _ _ (hr j w hj) (s5.nl.trans k5)
      · rw [List.getElem?_append_right (by lia)] at hj
        have e0 : j - vs.length = 0 := by
          have := (List.getElem?_eq_some_iff.mp hj).1
          simp at this
          lia
        rw [e0] at hj
        have ej : j = vs.length := by lia
        subst ej
        cases hj
        exact hR _ _ _ _ r k5
  · rintro p σ' H' hp ⟨ws, vs, rfl, hw, s, hv, hl', hr⟩
    exact q p vs H' hp s hv hl' hr
end

noncomputable def RelT (f : Nat → List Int) (i : Nat) (v : V) (H : Hp) : Prop := ∃ t, v = .ref t ∧ H t = some (.tup ((f i).map V.int))
theorem relT_keep {f : Nat → List Int} : ∀ i v H H', RelT f i v H → KeepNL H H' → RelT f i v H' := fun _ _ _ _ ⟨t, e, h⟩ k => ⟨t, e, k t _ h fun ys z => nomatch z⟩
theorem relT_refs {H : Hp} : ∀ {vs : List V} {f : Nat → List Int}, (∀ i v, vs[i]? = some v → RelT f i v H) → TupRefs H vs ((List.range vs.length).map f)
  | [], _, _ => .nil
  | v :: r, f, h => by
    rw [List.length_cons, List.range_succ_eq_map, List.map_cons, List.map_map]
    exact .cons (h 0 v (by simp)) (relT_refs fun i w hw => h (i + 1) w (by simpa using hw))
end L2

set_option maxHeartbeats 1000000

namespace L2
open PySem PySem.Spec PyProof.Rows
section
variable {X : Cx} {pins : List (Addr × Obj)} {σ : St} {H : Hp} {s : Shared} {a : Addr} {u u' : HO}
theorem Inv.relabel (I : Inv X pins σ H s) (ha : H a = some u) (hnt : ∀ xs, u ≠ .tup xs) (hno : ∀ y, u ≠ .own y) (htb : ∀ ps, u ≠ .tbl ps) (hfz : ∀ o v, X.H₀ a ≠ some (.frz o v)) (new : ObjOk X.prog X.w (upd H a u') s.heap a u') :
    Inv X pins σ (upd H a u') s := by
  have ne : ∀ {b : Addr}, H b = none → b ≠ a := fun {b} h z => by rw [z, ha] at h; cases h
  refine ⟨I.ok, I.os, I.bare, ⟨I.base.keep, I.base.slot, fun b o e n hx => ?_, I.base.there, fun b xs e => ?_, fun b o v e => ?_, fun b ps e => ?_⟩, I.loc, I.cell, ?_, fun x c e => ?_, fun p hp => ?_, fun b o e => ?_, I.len⟩
  · have h0 := I.base.free b o e n hx
    rw [upd_ne (ne h0)]
    exact h0
  · have h0 := I.base.tups b xs e
    have : b ≠ a := fun z => by rw [z, ha] at h0; exact hnt xs (Option.some.inj h0)
    rw [upd_ne this]
    exact h0
  · have : b ≠ a := fun z => hfz o v (z ▸ e)
    rw [upd_ne this]
    exact I.base.frzs b o v e
  · obtain ⟨more, h0⟩ := I.base.tbls b ps e
    have : b ≠ a := fun z => by rw [z, ha] at h0; exact htb _ (Option.some.inj h0)
    exact ⟨more, by rw [upd_ne this]; exact h0⟩
  · rw [upd_ne (ne I.free)]
    exact I.free
  · rw [upd_ne (ne (I.freeC x c e))]
    exact I.freeC x c e
  · obtain ⟨h1, h2, h3⟩ := I.pin p hp
    exact ⟨h1, by rw [upd_ne (ne h2)]; exact h2, h3⟩
  · by_cases hb : b = a
    · subst hb
      rw [upd_same] at e
      cases e
      exact new
    · rw [upd_ne hb] at e
      refine (I.hok b o e).stay (fun _ _ _ q => q) (fun c q => ?_) fun c xs q => ?_
      · have : c ≠ a := fun z => by rw [z, ha] at q; exact hno _ (Option.some.inj q)
        rw [upd_ne this]
        exact q
      · have : c ≠ a := fun z => by rw [z, ha] at q; exact hnt _ (Option.some.inj q)
        rw [upd_ne this]
        exact q
theorem objOk_dT {P : Program} {w : World} {H : Hp} {h : Heap} {a b : Addr} {kvs : List (List Key × V)} {v : HO} (x : ObjOk P w H h a (.dT kvs)) (hb : ∀ xs, H b ≠ some (.tup xs)) : ObjOk P w (upd H b v) h a (.dT kvs) := by
  obtain ⟨z, y, xs, r, ob, es, ep, e, c⟩ := x
  refine ⟨z, y, xs, Paired.mapP r fun p q z => ⟨z.1, ?_, z.2.2⟩, ob, es, ep, e, c⟩
  have : q.2.1 ≠ b := fun e => hb _ (e ▸ z.2.1)
  rw [upd_ne this]
  exact z.2.1
theorem Inv.nofrz {kvs : List (List Key × V)} (I : Inv X pins σ H s) (ha : H a = some (.dT kvs)) : ∀ o v, X.H₀ a ≠ some (.frz o v) := fun o v e => by
  have := I.base.frzs a o v e
  rw [ha] at this
  cases this
theorem Inv.freeze {kvs : List (List Key × V)} {o : Obj} (I : Inv X pins σ H s) (ha : H a = some (.dT kvs)) (ho : s.heap.get? a = some o) : Inv X pins σ (upd H a (.frz o (.dT kvs))) s :=
  I.relabel ha (fun _ z => nomatch z) (fun _ z => nomatch z) (fun _ z => nomatch z) (I.nofrz ha) ⟨ho, objOk_dT (show ObjOk X.prog X.w H s.heap a (.dT kvs) from I.hok a _ ha) fun xs e => by rw [ha] at e; cases e⟩
theorem Inv.thaw {kvs : List (List Key × V)} {o : Obj} (I : Inv X pins σ H s) (ha : H a = some (.frz o (.dT kvs))) (hfz : ∀ o v, X.H₀ a ≠ some (.frz o v)) : Inv X pins σ (upd H a (.dT kvs)) s := by
  refine I.relabel ha (fun _ z => nomatch z) (fun _ z => nomatch z) (fun _ z => nomatch z) hfz ?_
  have x : ObjOk X.prog X.w H s.heap a (.dT kvs) := (show ObjOk X.prog X.w H s.heap a (.frz o (.dT kvs)) from I.hok a _ ha).2
  exact objOk_dT x fun xs e => by rw [ha] at e; cases e
end

noncomputable def Itd (a : Addr) (o : Obj) (kvs : List (List Key × V)) (bs : List V) : It :=
  ⟨fun i H => H a = some (.frz o (.dT kvs)) ∧ i < bs.length, fun i H x H' => H' = H ∧ bs[i]? = some x, fun i H => H a = some (.frz o (.dT kvs)) ∧ bs.length ≤ i⟩
theorem turn_dict {P : Program} {w : World} {K : PySem.W.Frag} {tg : Expr} {a it : Addr} {o : Obj} {kvs : List (List Key × V)} {bs : List V} {es : Array DictEntry} {ep : Nat} (hx : o.ExactDict) (hd : o.data = .dict es ep) (hv : Vals bs (es.toList.map (·.key))) :
    Turn P w K tg (Itd a o kvs bs) [it] it (fun i h => h.IsKeyIter it a i es.size ep) where
  mem := by simp
  obj := fun i h st b hb => by
    have e : b = it := by simpa using hb
    subst e
    obtain ⟨o, e, c, d⟩ := st
    exact ⟨o, e, fun v z => by rw [d] at z; cases z⟩
  keep := fun i h h' st k => st.at fun o e => k it (by simp) o e
  item := by
    intro X hP hw hK hc i pins s σ H E I hf st hg
    subst hP hw hK
    obtain ⟨hz, hi⟩ := hg
    have hl : bs.length = es.size := by rw [hv.length]; simp
    have r : RawD s.heap a es ep := ⟨o, (show ObjOk X.prog X.w H s.heap a (.frz o (.dT kvs)) from I.hok a _ hz).1, hx, hd⟩
    obtain ⟨f0, f1, f2, f3, f4, f5⟩ := hf it (by simp)
    refine raw_next (I.ok.hd hc) st r (fun h e he hit sb => ?_) fun hge => absurd hi (by lia)
    have I1 : Inv X pins σ H { s with heap := h } := I.turned (t' := s.toks) (fun b o hb e => (sb.2 b hb).trans e) f0 f1 f3 f4 f5
    obtain ⟨o', e', c, d⟩ := id hit
    have hk : (es.toList.map (·.key))[i]? = some e.key := by
      rw [List.getElem?_map, Array.getElem?_toList, he]
      rfl
    obtain ⟨y, hy⟩ : ∃ y, bs[i]? = some y := ⟨bs[i], by simp [hi]⟩
    obtain ⟨u, hu, ru⟩ := hv.get hy
    rw [hk] at hu
    cases hu
    exact ⟨e.key, rfl, go_of (s := { s with heap := h }) e' c d (by decide) ⟨y, H, I1, ru, ⟨rfl, hy⟩, hit, fun b hb => (hf b hb).1⟩⟩
  done := by
    intro X hP hw hK hc i pins s σ H E I hf st hg
    subst hP hw hK
    obtain ⟨hz, hi⟩ := hg
    have hl : bs.length = es.size := by rw [hv.length]; simp
    have r : RawD s.heap a es ep := ⟨o, (show ObjOk X.prog X.w H s.heap a (.frz o (.dT kvs)) from I.hok a _ hz).1, hx, hd⟩
    obtain ⟨f0, f1, f2, f3, f4, f5⟩ := hf it (by simp)
    exact raw_next (I.ok.hd hc) st r (fun h e he => absurd (Array.getElem?_eq_some_iff.mp he).1 (by lia)) fun _ h' eb => ⟨rfl, I.turned (t' := s.toks) (fun b o hb e => eb b o hb e) f0 f1 f3 f4 f5⟩
  self := fun _ _ _ _ _ st h => wpAny_pyIter_keyiter st h
noncomputable def iDict (tl : TE) : TI := fun σ H R => tl σ H fun x H1 => ∃ a kvs, x = .ref a ∧ H1 a = some (.dT kvs) ∧ ∀ o bs, KeyRefs H1 kvs bs → R (Itd a o kvs bs) (upd H1 a (.frz o (.dT kvs)))
theorem pi_dict {X : Cx} {tg l : Expr} {tl : TE} (hl : PE X l tl) : PI X tg l (iDict tl) := by
  intro pins s σ H R I h
  refine thn (hl pins s σ H _ I h) fun v s1 hh9 => ?_
  obtain ⟨x, H1, I1, r1, q1⟩ := hh9
  obtain ⟨a, kvs, e, ha, q⟩ := q1
  subst e
  cases r1
  obtain ⟨es, ep, hd, r, hs, z, hk⟩ := dt_raw I1 (.inl ha)
  obtain ⟨bs, hb, hv⟩ := hk (es.toList.map (·.key)) (by simp) (fun j v e => by
    rw [List.getElem?_map, Array.getElem?_toList] at e
    cases he : es[j]? with
    | none => rw [he] at e; cases e
    | some en => rw [he] at e; exact ⟨en, rfl, (Option.some.inj e).symm⟩)
  obtain ⟨o, ho, hx, hdat⟩ := id r
  refine raw_iter hd r ?_
  have I2 := I1.freeze ha ho
  refine ⟨s1.heap.objs.size, [s1.heap.objs.size], _, _, upd H1 a (.frz o (.dT kvs)), rfl, I2.kept (t' := s1.toks) fun b o e => Heap.get?_push_of_some _ e, turn_dict hx hdat hv, ⟨_, Heap.get?_push_size _ rfl, rfl, rfl⟩, fun b hb' => ?_, q o bs hb⟩
  have e : b = s1.heap.objs.size := by simpa using hb'
  subst e
  exact I2.fpOk (Nat.le_refl _) (I2.hok.fresh (Nat.le_refl _))

noncomputable def tThaw (t : TS) : TS := fun D σ H => ∃ a kvs, H a = some (.dT kvs) ∧ t { D with nx := fun σ' H' => (∃ o, H' a = some (.frz o (.dT kvs))) ∧ D.nx σ' (upd H' a (.dT kvs)) } σ H
theorem ps_thaw {X : Cx} {st : Stmt} {t : TS} (h : PS X st t) : PS X st (tThaw t) := by
  intro pins s σ H D I ⟨a, kvs, ha, q⟩
  refine wpAny_mono (h pins s σ H _ I q) (fun f s1 q1 => ?_) fun _ _ e => e
  cases f with
  | next =>
    obtain ⟨σ', H', I', ⟨o, hz⟩, z⟩ := q1
    exact ⟨σ', _, I'.thaw hz (I.nofrz ha), z⟩
  | brk => exact q1
  | cont => exact q1
  | ret v => exact q1
section
variable {g : Cz → TG} {tt : Cz → TT} {te : Cz → TE} {σ : St} {Q : VK} {H1 : Hp} {n0 : Nat}
theorem comp_dict {a : Addr} {o : Obj} {kvs : List (List Key × V)} {xs : List V} (Pv : Addr → Nat → St → Hp → Prop) (h0 : ∀ p, H1 p = none → Pv p 0 (σ ++ List.replicate n0 none) (upd H1 p (.lst [])))
    (hl : ∀ p i σ H, H1 p = none → i ≤ xs.length → Pv p i σ H → H a = some (.frz o (.dT kvs)))
    (hs : ∀ p z i x σ H, H1 p = none → xs[i]? = some x → Pv p i σ H → g z x σ H fun σ3 H3 => tt z σ3 H3 fun b H4 =>
      if b = true then te z σ3 H4 fun v H5 => ∃ ys, H5 p = some (.lst ys) ∧ ys.length < sizeLine ∧ Pv p (i + 1) σ3 (upd H5 p (.lst (ys ++ [v]))) else Pv p (i + 1) σ3 H4)
    (hd : ∀ p σ H, H1 p = none → Pv p xs.length σ H → Q (.ref p) H) : CompR n0 g tt te σ Q (Itd a o kvs xs) H1 := by
  intro p hp
  refine ⟨fun i m σ H => m = xs.length - i ∧ i ≤ xs.length ∧ Pv p i σ H, ⟨xs.length, by simp, Nat.zero_le _, h0 p hp⟩, ?_⟩
  rintro z i m σ2 H ⟨rfl, hi, pv⟩
  have q := hl p i σ2 H hp hi pv
  by_cases hlt : i < xs.length
  · refine .inr ⟨⟨q, hlt⟩, Pv p (i + 1), fun σ' H' p' => ⟨xs.length - (i + 1), by lia, rfl, hlt, p'⟩, fun x H' y => ?_⟩
    obtain ⟨e, y⟩ := y
    subst e
    exact hs p z i x σ2 _ hp y pv
  · have e : i = xs.length := by lia
    subst e
    exact .inl ⟨⟨q, Nat.le_refl _⟩, hd p σ2 H hp pv⟩
end
end L2

set_option maxHeartbeats 1000000

namespace L2
open PySem PySem.Spec PyProof.Rows
noncomputable abbrev Kp (h h' : Heap) : Prop := ∀ b o, h.get? b = some o → h'.get? b = some o
noncomputable abbrev kwD : List (Str × Value) := [(Str.ofString "default", .none)]
section
variable {prog : Program} {w : World} {A : Around} {E : Value → Shared → Prop} {s : Shared} {h₀ : Heap} {l I S : Addr} {vs : List Value} {R : Result → Shared → Prop} {Q : Value → Shared → Prop}

noncomputable def LenOf (h₀ : Heap) (vs : List Value) (kf : Nat → Int) : Prop := ∀ i v, vs[i]? = some v → ∃ (g : Addr) (items : Array Value), v = .ref g ∧ h₀.IsList g items ∧ kf i = (items.size : Int) ∧ (items.size : Int) < 2 ^ 63
theorem isList_kp {h h' : Heap} {g : Addr} {items : Array Value} (x : h.IsList g items) (k : Kp h h') : h'.IsList g items := let ⟨o, e, r⟩ := x; ⟨o, k _ _ e, r⟩
theorem len_any {g : Addr} {items : Array Value} (hg : s.heap.IsList g items) (hfit : (items.size : Int) < 2 ^ 63) :
    wpAny (model prog w) A (call (.builtin "len") [.ref g]) (fun v s' => ∃ (t : Tok) (tk : Nat), v = .int (items.size : Int) t ∧ s' = { s with toks := tk }) (fun _ _ => False) s := Calls.call_len_list hg hfit ⟨_, _, rfl, rfl⟩
theorem minlen_loop (kf : Nat → Int) (hh : A.handled = none) (hl : h₀.IsList l vs.toArray) (hk : LenOf h₀ vs kf) (hlI : l ≠ I) (hSI : S ≠ I) (hI0 : h₀.get? I = none) (hS0 : h₀.get? S = none)
    (hR : ∀ i v h' tk', vs[i]? = some v → (∀ j, j < vs.length → kf i ≤ kf j ∧ (j < i → kf i < kf j)) → Kp h₀ h' → R (.ok (.ret v)) { s with heap := h', toks := tk' }) :
    ∀ (r j i : Nat) (h : Heap) (tk : Nat) (vb : Value) (tb : Tok) (c : Nat), vs.length - (j + 1) = r → j + 1 ≤ vs.length → Kp h₀ h →
      h.get? S = some (seqObj "list" #[vb, .int (kf i) tb] c) → h.IsListIter I l (j + 1) → vs[i]? = some vb → i ≤ j → (∀ j', j' ≤ j → kf i ≤ kf j' ∧ (j' < i → kf i < kf j')) →
      codeAny (model prog w) A (.builtin "min.loop" ⟨[.ref I, .builtin "len", .ref S], kwD⟩) R { s with heap := h, toks := tk } := by
  have hname : (toString "min" ++ toString ".loop" : String) = "min.loop" := by decide
  have W := Walks.list (prog := prog) (w := w) (A := A.in1) hh I l hlI vs.toArray
  have hsz : vs.toArray.size = vs.length := List.size_toArray ..
  have neI : ∀ {b : Addr} {o : Obj}, h₀.get? b = some o → b ∉ [I] := fun {b o} e q => by rw [List.mem_singleton.mp q, hI0] at e; cases e
  have kpS : ∀ {h : Heap} {x : Array Value → Array Value}, Kp h₀ h → Kp h₀ (h.update S (Obj.mapSeq x)) := fun {h x} k b o e =>
    (Heap.get?_update_other _ _ (fun z => by rw [← z, hS0] at e; cases e)).trans (k b o e)
  intro r
  induction r with
  | zero =>
    intro j i h tk vb tb c hr hj K hS hit hvb hij hbest
    have hin : j + 1 = vs.length := by lia
    refine codeAny_builtin PySem.F.entry_min_loop ?_
    rw [Around.under_plainId PySem.F.plain_min_loop _]
    show wpAny _ A.in1 (seqItems? (.ref S) >>= _) _ _ _
    refine wpAny_bind (wpAny_seqItems hS rfl ?_)
    show wpAny _ A.in1 (tryCatch (pyNext (.ref I)) _ >>= _) _ _ _
    refine wpAny_bind (wpAny_tryCatch (W.done _ _ _ ⟨by rw [hsz, ← hin]; exact hit, isList_kp hl K⟩ fun h' tk' hk' => ?_))
    have K1 : Kp h₀ h' := fun b o e => hk' b o (neI e) (K b o e)
    have hS' := hk' S _ (by simpa using hSI) hS
    show wpAny _ A.in1 (updateSeq S (fun _ => #[]) >>= _) _ _ _
    refine wpAny_bind ?_
    refine wpAny_updateSeq hS' rfl (wpAny_bind (wpAny_letGo (wpAny_pure ?_)))
    exact hR i vb _ _ hvb (fun j' hj' => hbest j' (by lia)) (kpS K1)
  | succ r ih =>
    intro j i h tk vb tb c hr hj K hS hit hvb hij hbest
    have hlt : j + 1 < vs.length := by lia
    refine codeAny_builtin PySem.F.entry_min_loop ?_
    rw [Around.under_plainId PySem.F.plain_min_loop _]
    show wpAny _ A.in1 (seqItems? (.ref S) >>= _) _ _ _
    refine wpAny_bind (wpAny_seqItems hS rfl ?_)
    show wpAny _ A.in1 (tryCatch (pyNext (.ref I)) _ >>= _) _ _ _
    refine wpAny_bind (wpAny_tryCatch (W.item (j + 1) _ _ _ (by rw [hsz]; exact hlt) ⟨hit, isList_kp hl K⟩ fun v h' tk' hP hst' hk' => ?_))
    have hv : vs[j + 1]? = some v := by simpa using hP
    have K1 : Kp h₀ h' := fun b o e => hk' b o (neI e) (K b o e)
    have hS' := hk' S _ (by simpa using hSI) hS
    obtain ⟨g, items, rfl, hg, hkf, hfit⟩ := hk (j + 1) v hv
    show wpAny _ A.in1 (tryCatch (holding [.ref g] (call (.builtin "len") [.ref g])) _ >>= _) _ _ _
    refine wpAny_bind (wpAny_tryCatch (wpAny_holding (wpAny_mono (len_any (isList_kp hg K1) hfit) (fun x s'' he => ?_) fun _ _ hF => hF.elim)))
    obtain ⟨t2, tk2, rfl, rfl⟩ := he
    rw [← hkf]
    show wpAny _ A.in1 (tryCatch (holding [.ref g, .int (kf (j + 1)) t2] (richCompare .Lt (.int (kf (j + 1)) t2) (.int (kf i) tb) >>= _)) _ >>= _) _ _ _
    refine wpAny_bind (wpAny_tryCatch (wpAny_holding (wpAny_bind (CmpOf.ints_lt (prog := prog) (w := w) (A := A.in1) (P := fun i v => ∃ t, v = .int (kf i) t) kf (fun i v h => h) (j + 1) i _ _ _ _ _ ⟨t2, rfl⟩ ⟨tb, rfl⟩ ?_))))
    refine wpAny_bind (wpAny_holding (wpAny_truthy_bool ?_))
    refine wpAny_bind (wpAny_letGo (wpAny_pure ?_))
    by_cases hb' : kf (j + 1) < kf i
    · obtain ⟨c2, hc2⟩ : ∃ c2, (h'.update S (Obj.mapSeq fun _ => #[.ref g, .int (kf (j + 1)) t2])).get? S = some (seqObj "list" #[.ref g, .int (kf (j + 1)) t2] c2) := ⟨_, get?_update_seq hS' fun _ => #[.ref g, .int (kf (j + 1)) t2]⟩
      have s1 := Heap.SameBut.update h' S (Obj.mapSeq fun _ => #[.ref g, .int (kf (j + 1)) t2])
      simp only [hb', decide_true, if_true]
      refine wpAny_bind ?_
      refine wpAny_updateSeq hS' rfl (wpAny_bind (wpAny_letGo ?_))
      rw [hname]
      obtain ⟨oI', hoI', hoc, hod⟩ := id hst'.1
      refine wpAny_pure ⟨plainId_quiet PySem.F.plain_min_loop _, ih (j + 1) (j + 1) _ _ (.ref g) t2 c2 (by lia) hlt (kpS K1) hc2 ⟨oI', (s1.2 I hSI.symm).trans hoI', hoc, hod⟩ hv (Nat.le_refl _) fun j' hj' => ?_⟩
      by_cases e : j' = j + 1
      · subst e
        exact ⟨by lia, fun _ => by lia⟩
      · have hb1 := hbest j' (by lia)
        have hb2 := hb1.1
        exact ⟨by lia, fun _ => by lia⟩
    · simp only [hb', decide_false, Bool.false_eq_true, if_false]
      refine wpAny_bind (wpAny_letGo ?_)
      rw [hname]
      refine wpAny_pure ⟨plainId_quiet PySem.F.plain_min_loop _, ih (j + 1) i _ _ vb tb c (by lia) hlt K1 hS' hst'.1 hvb (by lia) fun j' hj' => ?_⟩
      by_cases e : j' = j + 1
      · subst e
        exact ⟨by lia, fun _ => by lia⟩
      · exact hbest j' (by lia)
theorem minlen_args (a : Value) : argsOk "min" ⟨[a], [(Str.ofString "key", .builtin "len"), (Str.ofString "default", .none)]⟩ := by unfold argsOk; kernel_rfl
theorem minlen_call (kf : Nat → Int) (hh : A.handled = none) (hl : s.heap.IsList l vs.toArray) (hk : LenOf s.heap vs kf)
    (hQ : ∀ i v h' tk', vs[i]? = some v → (∀ j, j < vs.length → kf i ≤ kf j ∧ (j < i → kf i < kf j)) → Kp s.heap h' → Q v { s with heap := h', toks := tk' })
    (hQ0 : vs = [] → ∀ h' tk', Kp s.heap h' → Q .none { s with heap := h', toks := tk' }) :
    wpAny (model prog w) A (call (.builtin "min") [.ref l] [(Str.ofString "key", .builtin "len"), (Str.ofString "default", .none)]) Q E s := by
  have hname : (toString "min" ++ toString ".loop" : String) = "min.loop" := by decide
  obtain ⟨ol, hol, _⟩ := id hl
  have hll : l < s.heap.objs.size := Heap.lt_size hol
  refine kmb_tree PySem.F.kind_min PySem.F.plain_min PySem.F.entry_min (minlen_args _) ?_
  show wpAny _ A.in1 (Builtin.Builtins.bindParams "min" ["key", "default"] 0 ⟨[], [(Str.ofString "key", .builtin "len"), (Str.ofString "default", .none)]⟩ >>= _) _ _ s
  refine wpAny_bind (wpAny_of_eq (show Builtin.Builtins.bindParams "min" ["key", "default"] 0 ⟨[], [(Str.ofString "key", .builtin "len"), (Str.ofString "default", .none)]⟩ = pure [some (.builtin "len"), some .none] from rfl) ?_)
  refine wpAny_bind (wpAny_pure ?_)
  refine wpAny_bind (wpAny_pyIter_list hl ?_)
  refine wpAny_bind (wpAny_newList ?_ (Nat.zero_le _))
  rw [hname]
  generalize hh1 : s.heap.push { cls := .type "list_iterator", data := .fields #[.ref l, .int 0 0] } = h1
  have z1 : h1.objs.size = s.heap.objs.size + 1 := by rw [← hh1]; exact size_push' ..
  have hlI : l ≠ s.heap.objs.size := Nat.ne_of_lt hll
  have hSI : h1.objs.size ≠ s.heap.objs.size := by lia
  have k1 : Kp s.heap h1 := fun b o e => by rw [← hh1]; exact Heap.get?_push_of_some _ e
  have K2 : Kp s.heap (h1.push (seqObj "list" #[] 0)) := fun b o e => Heap.get?_push_of_some _ (k1 b o e)
  have gI : (h1.push (seqObj "list" #[] 0)).get? s.heap.objs.size = some { cls := .type "list_iterator", data := .fields #[.ref l, .int 0 0] } := Heap.get?_push_of_some _ (by rw [← hh1]; exact Heap.get?_push_size _ rfl)
  have gS : (h1.push (seqObj "list" #[] 0)).get? h1.objs.size = some (seqObj "list" #[] 0) := Heap.get?_push_size _ rfl
  have hI0 : s.heap.get? s.heap.objs.size = none := Heap.get?_none_of_le (Nat.le_refl _)
  have hS0 : s.heap.get? h1.objs.size = none := Heap.get?_none_of_le (by lia)
  refine wpAny_pure ⟨plainId_quiet PySem.F.plain_min_loop _, ?_⟩
  have W := Walks.list (prog := prog) (w := w) (A := A.in1) hh s.heap.objs.size l hlI vs.toArray
  have hsz : vs.toArray.size = vs.length := List.size_toArray ..
  have neI : ∀ {b : Addr} {o : Obj}, s.heap.get? b = some o → b ∉ [s.heap.objs.size] := fun {b o} e q => by rw [List.mem_singleton.mp q, hI0] at e; cases e
  refine codeAny_builtin PySem.F.entry_min_loop ?_
  rw [Around.under_plainId PySem.F.plain_min_loop _]
  show wpAny _ A.in1 (seqItems? (.ref h1.objs.size) >>= _) _ _ _
  refine wpAny_bind (wpAny_seqItems gS rfl ?_)
  show wpAny _ A.in1 (tryCatch (pyNext (.ref s.heap.objs.size)) _ >>= _) _ _ _
  by_cases hne : 0 < vs.length
  · refine wpAny_bind (wpAny_tryCatch (W.item 0 _ _ _ (by rw [hsz]; exact hne) ⟨⟨_, gI, rfl, rfl⟩, isList_kp hl K2⟩ fun v h' tk' hP hst' hk' => ?_))
    have hv : vs[0]? = some v := by simpa using hP
    have K3 : Kp s.heap h' := fun b o e => hk' b o (neI e) (K2 b o e)
    have hS' := hk' h1.objs.size _ (by simpa using hSI) gS
    obtain ⟨g, items, rfl, hg, hkf, hfit⟩ := hk 0 v hv
    show wpAny _ A.in1 (tryCatch (holding [.ref g] (call (.builtin "len") [.ref g])) _ >>= _) _ _ _
    refine wpAny_bind (wpAny_tryCatch (wpAny_holding (wpAny_mono (len_any (isList_kp hg K3) hfit) (fun x s'' he => ?_) fun _ _ hF => hF.elim)))
    obtain ⟨t2, tk2, rfl, rfl⟩ := he
    rw [← hkf]
    obtain ⟨c2, hc2⟩ : ∃ c2, (h'.update h1.objs.size (Obj.mapSeq fun _ => #[.ref g, .int (kf 0) t2])).get? h1.objs.size = some (seqObj "list" #[.ref g, .int (kf 0) t2] c2) := ⟨_, get?_update_seq hS' fun _ => #[.ref g, .int (kf 0) t2]⟩
    have s1 := Heap.SameBut.update h' h1.objs.size (Obj.mapSeq fun _ => #[.ref g, .int (kf 0) t2])
    show wpAny _ A.in1 (updateSeq h1.objs.size (fun _ => #[.ref g, .int (kf 0) t2]) >>= _) _ _ _
    refine wpAny_bind ?_
    refine wpAny_updateSeq hS' rfl ?_
    rw [hname]
    obtain ⟨oI', hoI', hoc, hod⟩ := id hst'.1
    refine wpAny_pure ⟨plainId_quiet PySem.F.plain_min_loop _, minlen_loop kf hh hl hk hlI hSI hI0 hS0 hQ _ 0 0 _ _ (.ref g) t2 c2 rfl hne (fun b o e => (s1.2 b (fun z => by rw [z, hS0] at e; cases e)).trans (K3 b o e)) hc2 ⟨oI', (s1.2 _ hSI.symm).trans hoI', hoc, hod⟩ hv (Nat.le_refl _) fun j' hj' => ?_⟩
    have e : j' = 0 := by lia
    subst e
    exact ⟨by lia, fun z => absurd z (by lia)⟩
  · have e0 : vs = [] := List.eq_nil_of_length_eq_zero (by lia)
    refine wpAny_bind (wpAny_tryCatch (W.done _ _ _ ⟨by rw [hsz, show vs.length = 0 by lia]; exact ⟨_, gI, rfl, rfl⟩, isList_kp hl K2⟩ fun h' tk' hk' => ?_))
    have K3 : Kp s.heap h' := fun b o e => hk' b o (neI e) (K2 b o e)
    show wpAny _ A.in1 (rule _ >>= _) _ _ _
    refine wpAny_bind (wpAny_rule ?_)
    exact wpAny_pure (hQ0 e0 _ _ K3)
end
end L2

set_option maxHeartbeats 1000000

namespace L2
open PySem PySem.Spec PyProof.Rows
section
variable {X : Cx}
theorem call_minI (hc : X.calm = true) : CallR X (.builtin "min") (fun xs H Q => ∃ (l : Addr) (ns : List Int), xs = [.ref l] ∧ SqL X.K H l (ns.map V.int) ∧ ns ≠ [] ∧ ∀ M, M ∈ ns → (∀ a ∈ ns, M ≤ a) → Q (.int M) H) := by
  intro pins s σ H xs us Q I r h
  obtain ⟨l, ns, rfl, hl, hne, q⟩ := h
  obtain ⟨u, rfl, ru⟩ := vals1 r
  cases ru
  obtain ⟨its, rv, pl, z⟩ := I.list hl
  have hi : IntsAre its ns := intsAre_of rv
  obtain ⟨xs, e⟩ := hi.allInts.items
  have hns : ns = xs.toList.map (·.1) := by
    rw [← hi.numsOf, ← nums_intItems, ← e]
  have hsz : 0 < xs.size := by
    have h3 : 0 < ns.length := List.length_pos_iff.mpr hne
    rw [hns, List.length_map, Array.length_toList] at h3
    exact h3
  have pl' := pl.isList
  rw [e] at pl'
  refine min_intList (I.ok.hd hc) pl' hsz fun v h' tk hv hk => ?_
  obtain ⟨t, rfl⟩ := intItems_at hv
  obtain ⟨h1, h2⟩ := argBest_lt (numAt xs) (xs.size - 1)
  refine ⟨V.int _, H, I.kept (t' := tk) hk, ⟨t, rfl⟩, q _ ?_ fun a ha => ?_⟩
  · rw [hns, numAt_eq]; exact getD_mem (by rw [List.length_map, Array.length_toList]; lia)
  · rw [hns] at ha
    obtain ⟨j, hj, rfl⟩ := mem_getD ha
    rw [List.length_map, Array.length_toList] at hj
    rw [← numAt_eq]; exact h2 j (by lia)
theorem preSum_map (f : Nat → Int) : ∀ n, preSum f n = ((List.range n).map f).sum
  | 0 => rfl
  | n + 1 => by
    rw [List.range_succ, List.map_append, List.sum_append, ← preSum_map f n]
    simp [preSum]
theorem call_sumI (hc : X.calm = true) : CallR X (.builtin "sum") (fun xs H Q => ∃ (l : Addr) (ns : List Int), xs = [.ref l] ∧ SqL X.K H l (ns.map V.int) ∧ Q (.int ns.sum) H) := by
  intro pins s σ H xs us Q I r h
  obtain ⟨l, ns, rfl, hl, q⟩ := h
  obtain ⟨u, rfl, ru⟩ := vals1 r
  cases ru
  obtain ⟨its, rv, pl, z⟩ := I.list hl
  have hi : IntsAre its ns := intsAre_of rv
  obtain ⟨xs, e⟩ := hi.allInts.items
  have hns : ns = xs.toList.map (·.1) := by
    rw [← hi.numsOf, ← nums_intItems, ← e]
  have pl' := pl.isList
  rw [e] at pl'
  refine sum_intListG (I.ok.hd hc) pl' fun h' tk t' hk => ⟨.int ns.sum, H, I.kept (t' := tk) hk, ⟨t', ?_⟩, q⟩
  rw [preSum_map]
  have : (List.range xs.size).map (numAt xs) = ns := by
    rw [hns]
    apply List.ext_getElem
    · simp
    · intro i h1 h2
      simp only [List.length_map, List.length_range] at h1
      rw [List.getElem_map, List.getElem_range, numAt_eq, List.getElem_map]
      simp [h1]
  rw [this]

theorem call_sortK (hc : X.calm = true) : CallR X (.builtin "sorted") (fun xs H Q => ∃ (a : Addr) (kvs : List (Key × V)) (ns : List Int), xs = [.ref a] ∧ H a = some (.dK kvs) ∧ kvs.map (·.1) = ns.map Sum.inl ∧ kvs.length < 64 ∧ ∀ (l : Addr) (ns' : List Int), H l = none → ns'.Perm ns → ns'.Pairwise (· ≤ ·) → Q (.ref l) (upd H l (.lst (ns'.map V.int)))) := by
  intro pins s σ H xs us Q I r h
  obtain ⟨a, kvs, ns, rfl, ha, hk, h64, q⟩ := h
  obtain ⟨u, rfl, ru⟩ := vals1 r
  cases ru
  obtain ⟨z, hd, vs, rk, o, es, ep, ho, hx, hdat, hko, hp, hnd⟩ := dk_of I.hok ha
  have r : RawD s.heap a es ep := ⟨o, ho, hx, hdat⟩
  have len : es.size = kvs.length := by
    rw [rk.length, ← Array.length_toList]
    exact hp.length
  have keys : ∀ {es : List DictEntry} {vs : List (Key × Value)} {kvs : List (Key × V)} {ns : List Int}, Pairs (mixKind X.prog X.w) es vs → KV kvs vs → kvs.map (·.1) = ns.map Sum.inl → IntsAre (es.map (·.key)) ns := by
    intro es vs kvs ns hp
    induction hp generalizing kvs ns with
    | nil =>
      intro rk hk
      cases rk
      cases ns with
      | nil => exact .nil
      | cons _ _ => simp at hk
    | @cons e kv es vs h1 h2 h3 ih =>
      intro rk hk
      cases rk with
      | cons p t =>
        cases ns with
        | nil => simp at hk
        | cons n ns =>
          simp only [List.map_cons, List.cons.injEq] at hk
          rw [List.map_cons]
          have e1 : kv.1 = Sum.inl n := by rw [← p.1]; exact hk.1
          rw [mixKind_is, e1] at h1
          rcases keyIs_shape h1 with ⟨i, t0, e2, e3⟩ | ⟨x, t0, e2, e3⟩
          · cases e2
            rw [e3]
            exact .cons _ _ (ih t hk.2)
          · cases e2
  refine Calls.call_function_entry kind_sorted plain_sorted entry_sorted (args_sorted1 _) ?_
  unfold Builtin.«sorted»
  refine wpAny_bind (m := checkCount "sorted" 1 1 _) (wpAny_pure ?_)
  refine wpAny_bind (PySem.W.kdu_collect (raw_src (es := es) (ep := ep) hd) (show X.A.in1.handled = none from I.ok.hd hc) r (by lia) fun h' tk acc keep hacc => ?_)
  have hacc' : acc.toList = es.toList.map (·.key) := by
    apply List.ext_getElem?
    intro j
    rw [List.getElem?_map, Array.getElem?_toList, Array.getElem?_toList]
    cases q1 : acc[j]? with
    | none =>
      have : acc.size ≤ j := Array.getElem?_eq_none_iff.mp q1
      rw [Array.getElem?_eq_none (by have := hacc.1; lia)]
      rfl
    | some v =>
      obtain ⟨e, h1, h2⟩ := hacc.2 j v q1
      rw [h1, h2]
      rfl
  have hI : IntsAre acc.toList ns := by rw [hacc']; exact keys hp rk hk
  have I1 : Inv X pins σ H { s with heap := h', toks := tk } := I.kept (t' := tk) keep
  have hln : acc.toList.length = ns.length := hI.length
  have hkn : kvs.length = ns.length := by have := congrArg List.length hk; simpa using this
  refine wpAny_bind (wpAny_newList ?_ (by rw [sizeLine_eq]; lia))
  have hoL : (h'.push (seqObj "list" acc.toList.toArray 0)).get? h'.objs.size = some (seqObj "list" acc.toList.toArray 0) := Heap.get?_push_size _ rfl
  have k2 : ∀ b o, h'.get? b = some o → (h'.push (seqObj "list" acc.toList.toArray 0)).get? b = some o := fun b o e => Heap.get?_push_of_some _ e
  refine wpAny_bind (wpAny_holding (wpAny_call_entry slot_list_sort ⟨_, hoL, rfl⟩ entry_list_sort (list_sort_tree hoL hI (by lia) fun out ns' a1 a2 a3 => ⟨_, rfl, ?_⟩) (args_list_sort _)))
  refine wpAny_pure ⟨_, rfl, .ref h'.objs.size, upd H h'.objs.size (.lst (ns'.map V.int)), ?_, rfl, q _ _ (I1.hok.fresh (Nat.le_refl _)) a2 a3⟩
  obtain ⟨e, he⟩ := sortedHeap_at (out := out) hoL
  refine I1.laid (t' := tk) (fun b u hb => ?_) (Nat.le_refl _) ⟨?_, out.toList, e, vals_ints a1, by simpa using he⟩
  · have hlt : b < h'.objs.size := Heap.lt_size hb
    rw [sortedHeap_old (Nat.ne_of_lt hlt) (by rw [size_push']; exact Nat.lt_succ_of_lt hlt)]
    exact k2 b u hb
  · rw [List.length_map, a2.length_eq, sizeLine_eq]
    lia
end

noncomputable def ListRefs (H : Hp) : List V → List (List Int) → Prop := Paired fun y ns => ∃ b, y = V.ref b ∧ H b = some (.lst (ns.map V.int))
theorem ListRefs.get {H : Hp} {bs : List V} {kss : List (List Int)} (t : ListRefs H bs kss) {i : Nat} {y : V} (hy : bs[i]? = some y) : ∃ b ks, y = V.ref b ∧ kss[i]? = some ks ∧ H b = some (.lst (ks.map V.int)) := by
  induction t generalizing i with
  | nil => simp at hy
  | cons h t ih =>
    cases i with
    | zero =>
      obtain ⟨b, e, h⟩ := h
      rw [List.getElem?_cons_zero] at hy
      exact ⟨b, _, (Option.some.inj hy).symm.trans e, rfl, h⟩
    | succ i => exact ih hy
theorem ListRefs.same {H H' : Hp} {bs : List V} {kss : List (List Int)} (t : ListRefs H bs kss) (k : Same H H') : ListRefs H' bs kss := Paired.mapP t fun _ _ hh9 => by obtain ⟨b, e, h⟩ := hh9; exact ⟨b, e, k _ _ h⟩
theorem ListRefs.length {H : Hp} {bs : List V} {kss : List (List Int)} (t : ListRefs H bs kss) : bs.length = kss.length := Paired.length t
noncomputable def tMinLen (K : PySem.W.Frag) (t : TA) : TE := fun σ H Q => t σ H fun vs H1 => ∃ (l : Addr) (gs : List V) (gss : List (List Int)), vs = [V.ref l] ∧ SqL K H1 l gs ∧ ListRefs H1 gs gss ∧ (gss = [] → Q .non H1) ∧
  ∀ (i : Nat) (v : V) (ns : List Int), gs[i]? = some v → gss[i]? = some ns → (∀ j ms, gss[j]? = some ms → ns.length ≤ ms.length ∧ (j < i → ns.length < ms.length)) → Q v H1
theorem pe_minLen {X : Cx} {e : Expr} {t : TA} {p q c pos kp1 kp2 : Pos} {j : Nat} (hc : X.calm = true) (hg : Gl X "min") (hm : X.mg "min" = none) (hgl : Gl X "len") (hml : X.mg "len" = none) (ha : PA X [e] t)
    (hst : starEach [e] X.env = [(false, eval e X.env)] := by rfl) :
    PE X (.Call (.Name "min" p) [e] [⟨some "key", .Name "len" q, kp1⟩, ⟨some "default", .Constant .none j c, kp2⟩] pos) (tMinLen X.K t) := by
  intro pins s σ H Q I h
  refine wpAny_Call_Name_kw (ld_blt I hg hm L2.boot_min ?_ (by decide) (by decide))
  refine PyProof.Rows.callWith_kw ?_ (by rw [hst]; rfl) (by rw [hst]; rfl)
  refine thn (ha pos pins s σ H _ I h) fun us s1 hh9 => ?_
  obtain ⟨vs, H1, I1, r, l, gs, gss, ev, hl, hgs, q0, q1⟩ := hh9
  · subst ev
    obtain ⟨u, rfl, ru⟩ := vals1 r
    cases ru
    show wpAny _ _ (evalAll [(do let v ← eval (.Name "len" q) X.env; standAt pos; pure v), (do let v ← eval (.Constant .none j c) X.env; standAt pos; pure v)]) _ _ s1
    refine wpAny_evalAll_cons (wpAny_bind (ld_blt I1 hgl hml L2.boot_len (wpAny_bind (wpAny_standAt (wpAny_pure ?_))) (by decide) (by decide)))
    refine wpAny_evalAll_cons (wpAny_bind (Constant_none (wpAny_bind (wpAny_standAt (wpAny_pure (wpAny_evalAll_nil ?_))))))
    obtain ⟨its, rv, pl, z⟩ := I1.list hl
    have hlen := rv.length
    have hlr := hgs.length
    have hat : ∀ (i : Nat) (v : Value), its[i]? = some v → ∃ (g : Addr) (ns : List Int), gs[i]? = some (V.ref g) ∧ v = .ref g ∧ gss[i]? = some ns ∧ H1 g = some (.lst (ns.map V.int)) := fun i v hv => by
      have hi : i < gs.length := by rw [hlen]; exact (List.getElem?_eq_some_iff.mp hv).1
      obtain ⟨b, ks, e1, e2, e3⟩ := hgs.get (i := i) (y := gs[i]) (by simp [hi])
      obtain ⟨u, e4, r4⟩ := rv.get (i := i) (x := gs[i]) (by simp [hi])
      rw [e4] at hv
      cases hv
      rw [e1] at r4
      cases r4
      exact ⟨b, ks, by rw [← e1]; simp [hi], rfl, e2, e3⟩
    refine minlen_call (l := l) (vs := its) (fun i => ((gss.getD i []).length : Int)) (I1.ok.hd hc) pl.isList (fun i v hv => ?_) (fun i v h' tk' hv hb kp => ?_) fun e0 h' tk' kp => ?_
    · obtain ⟨g, ns, e1, rfl, e2, e3⟩ := hat i v hv
      obtain ⟨z2, its2, n2, rv2, e4⟩ := I1.hok g _ e3
      have l2 := rv2.length
      refine ⟨g, its2.toArray, rfl, ⟨_, e4, rfl, _, rfl⟩, ?_, ?_⟩
      · rw [List.size_toArray, ← l2, List.length_map]
        simp [List.getD, e2]
      · rw [List.size_toArray, ← l2]
        have := line63
        lia
    · obtain ⟨g, ns, e1, rfl, e2, e3⟩ := hat i v hv
      refine ⟨.ref g, H1, I1.kept (t' := tk') kp, rfl, q1 i _ ns e1 e2 fun j ms hj => ?_⟩
      have hjl : j < its.length := by rw [← hlen, hlr]; exact (List.getElem?_eq_some_iff.mp hj).1
      have := hb j hjl
      simp only [List.getD, e2, hj, Option.getD_some] at this
      exact ⟨by lia, fun h => by have := this.2 h; lia⟩
    · refine ⟨.non, H1, I1.kept (t' := tk') kp, rfl, q0 ?_⟩
      apply List.eq_nil_of_length_eq_zero
      rw [← hlr, hlen, e0]
      rfl
end L2

set_option maxHeartbeats 1000000

namespace L2
open PySem PySem.Spec PyProof.Rows


section
variable {prog : Program} {w : World} {A : Around} {E : Value → Shared → Prop} {s : Shared} {K : PySem.W.Frag} {a C : Addr}
end
end L2

set_option maxHeartbeats 1000000

namespace L2
open PySem PySem.Spec

noncomputable def TrC (h base : Heap) (e : Addr) (cls a0 c fl : Value) : Prop :=
  ∃ (o : Obj) (vs : Array Value) (T : Addr) (oT : Obj) (ts : Array Value), h.get? e = some o ∧ (o.cls = cls ∧ vs[0]? = some a0 ∧ vs[2]? = some c) ∧ o.data = .fields vs ∧ vs[1]? = some (.ref T) ∧ base.get? T = none ∧ T ≠ e ∧ h.get? T = some oT ∧ oT.data = .fields ts ∧ ts[3]? = some fl
noncomputable def FlyC (base : Heap) (l : List Env) (e : Addr) (cls a0 c fl : Value) (h : Heap) : Prop := base.StaysIn h ∧ base.get? e = none ∧ h.FunFrames base l ∧ TrC h base e cls a0 c fl
theorem FlyC.there {base h : Heap} {l : List Env} {e : Addr} {cls a0 c fl : Value} (x : FlyC base l e cls a0 c fl h) : ∃ ob, h.get? e = some ob ∧ ob.cls = cls := by
  obtain ⟨_, _, _, o, _, _, _, _, he, hc, _⟩ := x
  exact ⟨o, he, hc.1⟩
section
variable {M : Model} {A : Around} {E : Value → Shared → Prop} {s : Shared} {base : Heap} {env : Env} {outer : List Env} {L e : Addr} {cls a0 c fl : Value} {Q : Unit → Shared → Prop}

end
end L2

set_option maxHeartbeats 1000000

namespace L2
open PySem PySem.Spec PyProof.Rows

section
variable {P : Program} {w : World} {fs : List Addr} {H₀ H : Hp} {h₀ h h' B : Heap}

end


section
variable {P : Program} {w : World} {outer : List Env} {H H' : Hp} {s s' : Shared} {a C : Addr} {B : Heap} {a0 : Value} {d : Option Addr}
end

section
variable {X : Cx} {pins : List (Addr × Obj)} {σ : St} {H H' : Hp} {s s' : Shared} {a C : Addr} {B : Heap} {a0 : Value} {d : Option Addr}
end
end L2

set_option maxHeartbeats 1000000

namespace L2
open PySem PySem.Spec PyProof.Rows


section
variable (P : Program) (w : World) (K : PySem.W.Frag) (mg : Str → Option Value) (base : Heap)
end
section
variable {P : Program} {w : World} {K : PySem.W.Frag} {mg : Str → Option Value} {base : Heap} {C : Addr}
end



section
variable {P : Program} {w : World} {K : PySem.W.Frag} {mg : Str → Option Value} {base : Heap} {N : List Str} {qual : Str} {scope : Scope} {f : Addr} {cd : Value} {A : Around} {outer : List Env} {s : Shared} {H : Hp} {E : XK}
end


noncomputable def tRaise (C : Addr) (E : St → XK) (t : TA) : TS := fun _ σ H => t σ H fun xs H1 => xs.length ≤ sizeLine ∧ E σ (.ref C) none H1
section
variable {X : Cx} {C : Addr} {E : St → XK} {x : Str} {e : Expr} {es : List Expr} {t : TA} {np cpos pos : Pos}
end


noncomputable def tCallX (sp : Sp) (E : St → XK) (t : TA) : TE := fun σ H Q => t σ H fun vs H1 => sp vs H1 Q (E σ)
section
variable {X : Cx} {k : Nat} {C : Addr} {f : Addr} {fd : FuncData} {ps : List Str} {sp : Sp} {x m : Str} {p pos apos : Pos} {e o : Expr} {es : List Expr} {ta : TE} {t : TA} {E : St → XK}
end
end L2

set_option maxHeartbeats 1000000

namespace L2
open PySem PySem.Spec PyProof.Rows


section
variable {X : Cx} {pins pn : List (Addr × Obj)} {σ : St} {H : Hp} {s : Shared} {F : Value → Shared → Prop} {e : Value}
end


section
variable {X : Cx} {pins : List (Addr × Obj)} {σ : St} {H H' : Hp} {s s' : Shared} {a C : Addr} {B : Heap} {a0 : Value} {d : Option Addr}

end


section
variable {X : Cx} {body suite : List Stmt} {b₀ : Stmt} {x n : Str} {D : Addr} {i : Nat} {t ts : TS} {E : St → XK} {np hp pos : Pos}
end
end L2

set_option maxHeartbeats 1000000

namespace L2
open PySem PySem.Spec PyProof.Rows


section
variable {X : Cx} {k : Nat} {ps : List Str} {sp : Sp} {x : Str} {p pos : Pos} {e : Expr} {es : List Expr} {t : TA}
end


end L2

set_option maxHeartbeats 1000000

namespace L2
open PySem PySem.Spec PyProof.Rows
end L2
namespace Hw
open PySem L2 HwSort
inductive Ex where
  | HearError | NoBook | NoTeller | Alone | First | NoHearing | NoFamily | BadText
  deriving DecidableEq
noncomputable abbrev Ex.name : Ex → Str
  | .HearError => "HearError"
  | .NoBook => "NoBook"
  | .NoTeller => "NoTeller"
  | .Alone => "Alone"
  | .First => "First"
  | .NoHearing => "NoHearing"
  | .NoFamily => "NoFamily"
  | .BadText => "BadText"
section
variable {K : PySem.W.Frag} {mg : Str → Option Value} {has : List Ex} {xa : Ex → Addr}
end

noncomputable def refuses (many one other : Int) : Option Ex :=
  if ¬ ((0 ≤ one ∧ one < many) ∧ (0 ≤ other ∧ other < many)) then some .NoTeller
  else if one = other then some .Alone
  else if other = 0 then some .First
  else none
theorem ok_refuses {many one other : Int} (h : refuses many one other = none) : Ok2 many one other := by
  unfold refuses at h
  split at h
  · cases h
  · next h1 =>
    split at h
    · cases h
    · next h2 =>
      split at h
      · cases h
      · next h3 =>
        have h1' := Classical.not_not.mp h1
        exact ⟨h1'.1.1, h1'.1.2, h1'.2.1, h1'.2.2, h2, h3⟩

end Hw

set_option maxHeartbeats 1000000

namespace L2
open PySem PySem.Spec PyProof.Rows
end L2
namespace Hw
open PySem L2 HwSort
structure Txt (K : PySem.W.Frag) (mg : Str → Option Value) (C : Addr) : Prop where
  cl : Cls K C
  aT : NoAttr K C "tellers"
  aC : NoAttr K C "costs"
  g_Book : mg "Book" = some (.ref C)
  g_MOST_TELLERS : ∃ t, mg "MOST_TELLERS" = some (.int 12 t)
  n_len : mg "len" = none
  n_range : mg "range" = none
  n_max : mg "max" = none
  n_min : mg "min" = none
  n_isinstance : mg "isinstance" = none
  n_all : mg "all" = none
  n_any : mg "any" = none
  n_sorted : mg "sorted" = none
  n_sum : mg "sum" = none
  n_list : mg "list" = none
  n_int : mg "int" = none
  n_bool : mg "bool" = none
  n_tuple : mg "tuple" = none
  n_str : mg "str" = none
  n_dict : mg "dict" = none
  n_ValueError : mg "ValueError" = none
end Hw

set_option maxHeartbeats 1000000

namespace L2
open PySem PySem.Spec PyProof.Rows
noncomputable abbrev TJ := Str → St → Hp → VK → Prop
section
variable {X : Cx} {e v1 v2 : Expr} {es rest : List Expr} {te : TE} {t : TJ} {pos : Pos}
end
end L2

set_option maxHeartbeats 1000000

namespace Hw
open PySem L2 HwSort
noncomputable def cellF (ns : List Int) (k : Int) : Int := if k < (ns.length : Int) then ns.getD k.toNat 0 else 0
noncomputable def mixF (cell k : Int) : Int :=
  let s1 := (cell * 48271 + 104729 * k + 11) % 2147483647
  let s2 := (s1 * s1 + 7919 * k + 5) % 2147483629
  s2 * s2 % 2147483587
theorem mixF_in (cell k : Int) : 0 ≤ mixF cell k ∧ mixF cell k < 2147483587 := ⟨Int.emod_nonneg _ (by decide), Int.emod_lt_of_pos _ (by decide)⟩

inductive sp_cell (K : PySem.W.Frag) (vs : List V) (H : Hp) (Q : VK) (E : XK) : Prop
  | mk (a : _) (ns : _) (k : _) (h09 : vs = [.ref a, .int k]) (h19 : SqL K H a (ns.map V.int)) (h29 : ns.length ≤ 63) (h39 : 0 ≤ k) (h49 : Q (.int (cellF ns k)) H) : sp_cell K vs H Q E
inductive sp_whole (vs : List V) (H : Hp) (Q : VK) (E : XK) : Prop
  | mk (i : _) (h09 : vs = [.int i]) (h19 : Q (.bl true) H) : sp_whole vs H Q E
inductive sp_mix (vs : List V) (H : Hp) (Q : VK) (E : XK) : Prop
  | mk (cell : _) (k : _) (h09 : vs = [.int cell, .int k]) (h19 : 0 ≤ k) (h29 : k ≤ 1000) (h39 : Q (.int (mixF cell k)) H) : sp_mix vs H Q E
structure Good (many : Int) (cs : Cs) : Prop where
  nd : (keysC cs).Nodup
  ok : ∀ k ∈ keysC cs, Ok2 many k.1 k.2
inductive spLaw (K : PySem.W.Frag) (vs : List V) (H : Hp) (Q : VK) (E : XK) : Prop
  | mk (a : Addr) (ns : List Int) (h09 : vs = [.ref a]) (h19 : SqL K H a (ns.map V.int)) (h29 : ns.length ≤ 63) (h39 : ∀ H', Q (.bl true) H') : spLaw K vs H Q E
theorem meth_book {C : Addr} {H : Hp} {p d : Addr} {many : Int} {cs : Cs} {m : Str} {A : Prop} (B : BookAt C H p d many cs) (h1 : ¬ m = "costs") (h2 : ¬ m = "tellers") (k : A) :
    ∃ a dx fs, V.ref p = .ref a ∧ H a = some (.ins C dx fs) ∧ fs.lookup m = none ∧ A := by
  obtain ⟨dx, e⟩ := B.ob
  exact ⟨p, dx, _, rfl, e, flds_no _ _ h1 h2, k⟩
end Hw

set_option maxHeartbeats 1000000

namespace L2
open PySem PySem.Spec PyProof.Rows
section
variable {K : PySem.W.Frag} {σ : St} {H : Hp} {Q : VK} {R : Bool → Hp → Prop} {S : List V → Hp → Prop} {nx : St → Hp → Prop} {rt : VK} {bk ct : St → Hp → Prop} {D : Ends}
theorem w_seq {t u : TS} (h : t ⟨u ⟨nx, rt, bk, ct⟩, rt, bk, ct⟩ σ H) : tSeq t u ⟨nx, rt, bk, ct⟩ σ H := h
theorem w_next (h : nx σ H) : tNext ⟨nx, rt, bk, ct⟩ σ H := h
theorem w_drop {te : TE} (h : te σ H fun _ H1 => nx σ H1) : tDrop te ⟨nx, rt, bk, ct⟩ σ H := h
theorem w_ret {te : TE} (h : te σ H rt) : tRet te ⟨nx, rt, bk, ct⟩ σ H := h
theorem w_retN (h : rt .non H) : tRetN ⟨nx, rt, bk, ct⟩ σ H := h
theorem w_ifS {c : TT} {t u : TS} (h : c σ H fun b H1 => if b = true then t D σ H1 else u D σ H1) : tIfS c t u D σ H := h
theorem w_asg {te : TE} {g : TG} (h : te σ H fun x H1 => g x σ H1 nx) : tAsg te g ⟨nx, rt, bk, ct⟩ σ H := h
theorem w_gname {i : Nat} {v : V} {k : St → Hp → Prop} (h : k (σ.set i (some v)) H) : gName i v σ H k := h
theorem w_var {i : Nat} {v : V} (e : σ[i]? = some (some v)) (h : Q v H) : tVar i σ H Q := ⟨v, e, h⟩
theorem w_c {v : V} (h : Q v H) : tC v σ H Q := h
theorem w_B {t : TE} (h : t σ H fun x H1 => ∃ c, x = .bl c ∧ R c H1) : tB t σ H R := h
theorem w_test {t : TE} (h : t σ H fun x H1 => ∃ c, x = .bl c ∧ R c H1) : tTest t σ H R := h
theorem w_and {t u : TT} (h : t σ H fun c H1 => if c = true then u σ H1 R else R false H1) : tAnd t u σ H R := h
theorem w_or {t u : TT} (h : t σ H fun c H1 => if c = true then R true H1 else u σ H1 R) : tOr t u σ H R := h
theorem w_not {t : TT} (h : t σ H fun c H1 => R (!c) H1) : tNot t σ H R := h
theorem w_andV {ta tb : TE} (h : ta σ H fun x H1 => ∃ c, x = .bl c ∧ if c = true then tb σ H1 Q else Q (.bl false) H1) : tAndV ta tb σ H Q := h
theorem w_op {r : R2} {ta tb : TE} (h : ta σ H fun x H1 => tb σ H1 fun y H2 => r x y H2 Q) : tOp r ta tb σ H Q := h
theorem w_chain {r r' : R2} {ta tb tc : TE} (h : ta σ H fun x H1 => tb σ H1 fun y H2 => r x y H2 fun z H3 => ∃ k, z = .bl k ∧ (if k = true then tc σ H3 fun w' H4 => r' y w' H4 Q else Q (.bl false) H3)) : tChain r r' ta tb tc σ H Q := h
theorem w_nil (h : S [] H) : tNil σ H S := h
theorem w_cons {ta : TE} {tr : TA} (h : ta σ H fun x H1 => tr σ H1 fun xs H2 => S (x :: xs) H2) : tCons ta tr σ H S := h
theorem w_tup {t : TA} (h : t σ H fun xs H1 => xs.length ≤ sizeLine ∧ ∀ p, H1 p = none → Q (.ref p) (upd H1 p (.tup xs))) : tTup t σ H Q := h
theorem w_lst {t : TA} (h : t σ H fun xs H1 => xs.length ≤ sizeLine ∧ ∀ p, H1 p = none → Q (.ref p) (upd H1 p (.lst xs))) : tLst t σ H Q := h
theorem w_call {sp : Sp} {E : XK} {t : TA} (h : t σ H fun vs H1 => sp (vs ++ []) H1 Q E) : tCall sp [] E t σ H Q := h
theorem w_meth {C : Addr} {m : Str} {sp : Sp} {E : XK} {ta : TE} {t : TA} (h : ta σ H fun x H1 => ∃ a dx fs, x = .ref a ∧ H1 a = some (.ins C dx fs) ∧ fs.lookup m = none ∧ t σ H1 fun vs H2 => sp (x :: (vs ++ [])) H2 Q E) : tMeth C m sp [] E ta t σ H Q := h
theorem w_make {C : Addr} {sp : Sp} {E : XK} {t : TA} (h : t σ H fun vs H1 => ∀ x dx, H1 x = none → H1 dx = none → dx ≠ x → sp (.ref x :: (vs ++ [])) (upd (upd H1 dx (.own x)) x (.ins C dx [])) (fun v H2 => v = .non ∧ Q (.ref x) H2) E) : tMake C sp [] E t σ H Q := h
theorem w_CB {r : List V → Hp → VK → Prop} {t : TA} (h : t σ H fun vs H1 => r vs H1 Q) : tCB r t σ H Q := h
theorem w_BM0 {T : String} {r : V → List V → Hp → VK → Prop} {to : TE} (h : to σ H fun x H1 => tyV K T x H1 ∧ r x [] H1 Q) : tBM0 K T r to σ H Q := h
theorem w_BM {T : String} {r : V → List V → Hp → VK → Prop} {to : TE} {t : TA} (h : to σ H fun x H1 => tyV K T x H1 ∧ t σ H1 fun xs H2 => r x xs H2 Q) : tBM K T r to t σ H Q := h
theorem w_fld {ta : TE} {f : Str} (h : ta σ H fun x H1 => ∃ a C dx fs v, x = .ref a ∧ H1 a = some (.ins C dx fs) ∧ Cls K C ∧ NoAttr K C f ∧ fs.lookup f = some v ∧ Q v H1) : tFld K ta f σ H Q := h
theorem w_sfld {ta tv : TE} {f : Str} (h : tv σ H fun y H1 => ta σ H1 fun x H2 => ∃ a C dx fs, x = .ref a ∧ H2 a = some (.ins C dx fs) ∧ Cls K C ∧ NoAttr K C f ∧ fs.length < 1000 ∧ nx σ (upd H2 a (.ins C dx (putF f y fs)))) : sFld K ta tv f ⟨nx, rt, bk, ct⟩ σ H := h
theorem w_gsub {to ti : TE} {t : TSet} {v : V} {k : St → Hp → Prop} (h : to σ H fun o H1 => ti σ H1 fun i H2 => t o i v H2 fun H3 => k σ H3) : gSub to ti t v σ H k := h
theorem w_gtup {n : Nat} {t : TGs} {v : V} {k : St → Hp → Prop} (h : ∃ a xs, v = .ref a ∧ SqT K H a xs ∧ xs.length = n ∧ t xs σ H k) : gTup K n t v σ H k := h
theorem w_gcons {t : TG} {u : TGs} {v : V} {r : List V} {k : St → Hp → Prop} (h : t v σ H fun σ' H' => u r σ' H' k) : gCons t u (v :: r) σ H k := ⟨v, r, rfl, h⟩
theorem w_gnil {k : St → Hp → Prop} (h : k σ H) : gNil [] σ H k := ⟨rfl, h⟩
theorem w_thaw {t : TS} (h : ∃ a kvs, H a = some (.dT kvs) ∧ t ⟨fun σ' H' => (∃ o, H' a = some (.frz o (.dT kvs))) ∧ nx σ' (upd H' a (.dT kvs)), rt, bk, ct⟩ σ H) : tThaw t ⟨nx, rt, bk, ct⟩ σ H := h
theorem w_idict {tl : TE} {k : It → Hp → Prop} (h : tl σ H fun x H1 => ∃ a kvs, x = .ref a ∧ H1 a = some (.dT kvs) ∧ ∀ o bs, KeyRefs H1 kvs bs → k (Itd a o kvs bs) (upd H1 a (.frz o (.dT kvs)))) : iDict tl σ H k := h
theorem w_minlen {t : TA} (h : t σ H fun vs H1 => ∃ (l : Addr) (gs : List V) (gss : List (List Int)), vs = [V.ref l] ∧ SqL K H1 l gs ∧ ListRefs H1 gs gss ∧ (gss = [] → Q .non H1) ∧
  ∀ (i : Nat) (v : V) (ns : List Int), gs[i]? = some v → gss[i]? = some ns → (∀ j ms, gss[j]? = some ms → ns.length ≤ ms.length ∧ (j < i → ns.length < ms.length)) → Q v H1) : tMinLen K t σ H Q := h
theorem w_sl {r : V → Option Int → Option Int → Hp → VK → Prop} {te : TE} {tl th : TO} (h : te σ H fun x H1 => tl σ H1 fun l H2 => th σ H2 fun u H3 => r x l u H3 Q) : tSl r te tl th σ H Q := h
theorem w_nopart {k : Option Int → Hp → Prop} (h : k none H) : tNoPart σ H k := h
theorem w_part {t : TE} {k : Option Int → Hp → Prop} (h : t σ H fun x H1 => ∃ i, x = .int i ∧ k (some i) H1) : tPart t σ H k := h
theorem w_dget {td ty : TE} (h : td σ H fun x H1 => ty σ H1 fun y H2 => ∃ a v, x = .ref a ∧ DGet H2 a y (some v) ∧ Q v H2) : tDGet td ty σ H Q := h
theorem w_din {ty td : TE} (h : ty σ H fun y H1 => td σ H1 fun x H2 => ∃ a o, x = .ref a ∧ DGet H2 a y o ∧ Q (.bl o.isSome) H2) : tDIn ty td σ H Q := h
theorem w_dnotin {ty td : TE} (h : ty σ H fun y H1 => td σ H1 fun x H2 => ∃ a o, x = .ref a ∧ DGet H2 a y o ∧ Q (.bl (!o.isSome)) H2) : tDNotIn ty td σ H Q := h
theorem w_dput {td ty tv : TE} (h : tv σ H fun v H1 => td σ H1 fun x H2 => ty σ H2 fun y H3 => ∃ a H4, x = .ref a ∧ DPut H3 a y v H4 ∧ nx σ H4) : sDPut td ty tv ⟨nx, rt, bk, ct⟩ σ H := h
theorem w_comp {n0 : Nat} {wi : TI} {g : Cz → TG} {tt : Cz → TT} {te : Cz → TE} (h : wi σ H fun J H1 => CompR n0 g tt te σ Q J H1) : tComp n0 wi g tt te σ H Q := h
theorem w_ilist {tl : TE} {k : It → Hp → Prop} (h : tl σ H fun x H1 => ∃ a, x = .ref a ∧ (∃ xs, SqL K H1 a xs) ∧ k (Itl K a) H1) : iList K tl σ H k := h
theorem w_irng1 {ta : TA} {k : It → Hp → Prop} (h : ta σ H fun vs H1 => ∃ j : Int, vs = [.int j] ∧ -(2 ^ 62) ≤ j ∧ j < 2 ^ 62 ∧ k (Itr 0 j.toNat) H1) : iRng1 ta σ H k := h
theorem w_irng2 {ta : TA} {k : It → Hp → Prop} (h : ta σ H fun vs H1 => ∃ i j : Int, vs = [.int i, .int j] ∧ (-(2 ^ 62) ≤ i ∧ i < 2 ^ 62 ∧ -(2 ^ 62) ≤ j ∧ j < 2 ^ 62) ∧ k (Itr i (j - i).toNat) H1) : iRng2 ta σ H k := h
theorem w_for {wi : TI} {g : TG} {tb : TS} (h : wi σ H fun J H1 => ∃ W : Nat → Nat → St → Hp → Prop, (∃ m, W 0 m σ H1) ∧ ∀ i m σ H, W i m σ H →
  (J.stop i H ∧ D.nx σ H) ∨ (J.go i H ∧ ∃ N : St → Hp → Prop, (∀ σ' H', N σ' H' → ∃ m', m' < m ∧ W (i + 1) m' σ' H') ∧ ∀ x H', J.yld i H x H' → g x σ H' fun σ2 H2 => tb { D with nx := N, ct := N, bk := D.nx } σ2 H2)) : tFor wi g tb D σ H := h
theorem w_while {c : TT} {tb : TS} (h : ∃ W : Nat → St → Hp → Prop, (∃ m, W m σ H) ∧ ∀ m σ H, W m σ H →
  c σ H fun b H1 => if b = true then ∃ N : St → Hp → Prop, (∀ σ' H', N σ' H' → ∃ m', m' < m ∧ W m' σ' H') ∧ tb { D with nx := N, ct := N, bk := D.nx } σ H1 else D.nx σ H1) : tWhile c tb D σ H := h
theorem w_disp {trs : List (TE × TE)} (h : ∀ p, H p = none → tPairs trs σ (upd H p (.dK [])) fun ps H2 => H2 p = some (.dK []) ∧ ∃ kvs : List (Key × V), ps = kvs.map (fun kv => (kV kv.1, kv.2)) ∧ kvs.length ≤ 15 ∧ Q (.ref p) (upd H2 p (.dK (mergeK [] kvs)))) : tDisp trs σ H Q := h
theorem w_pnil {k : List (V × V) → Hp → Prop} (h : k [] H) : tPairs [] σ H k := h
theorem w_pcons {tk tv : TE} {r : List (TE × TE)} {k : List (V × V) → Hp → Prop} (h : tk σ H fun x H1 => tv σ H1 fun y H2 => tPairs r σ H2 fun ps H3 => k ((x, y) :: ps) H3) : tPairs ((tk, tv) :: r) σ H k := h
theorem w_yes (h : R true H) : tYes σ H R := h

theorem w_rI0 {g : Int → Int → V} {i j : Int} (h : Q (g i j) H) : rI0 g (.int i) (.int j) H Q := ⟨i, j, rfl, rfl, h⟩
theorem w_rI {C : Int → Int → Prop} {g : Int → Int → V} {i j : Int} (c : C i j) (h : Q (g i j) H) : rI C g (.int i) (.int j) H Q := ⟨i, j, rfl, rfl, c, h⟩
theorem w_mulL {g : Int → Int → V} {i j : Int} (c1 : -(2 ^ 64) < i) (c2 : i < 2 ^ 64) (h : Q (g i j) H) : rI CMul g (.int i) (.int j) H Q := ⟨i, j, rfl, rfl, .inl ⟨c1, c2⟩, h⟩
theorem w_fdiv {g : Int → Int → V} {i j : Int} (c1 : 0 < j) (c2 : j < 1073741824) (h : Q (g i j) H) : rI CDiv g (.int i) (.int j) H Q := ⟨i, j, rfl, rfl, ⟨c1, c2⟩, h⟩
theorem w_eqI {i j : Int} (h : Q (.bl (decide (i = j))) H) : rEq (.int i) (.int j) H Q := rEq_int.mpr h
theorem w_neI {i j : Int} (h : Q (.bl (!decide (i = j))) H) : rNe (.int i) (.int j) H Q := rNe_int.mpr h
theorem w_eqS {i j : Str} (h : Q (.bl (decide (i = j))) H) : rEq (.str i) (.str j) H Q := ⟨rfl, by
  have e : decide (V.str i = V.str j) = decide (i = j) := by
    by_cases h : i = j
    · subst h; simp
    · rw [decide_eq_false h, decide_eq_false fun z => h (V.str.inj z)]
  rw [e]; exact h⟩
theorem w_T {A B : Prop} (h : A) : if true = true then A else B := by simpa using h
theorem w_F {A B : Prop} (h : B) : if false = true then A else B := by simpa using h
theorem w_nT {A B : Prop} (h : B) : if (!true) = true then A else B := by simpa using h
theorem w_nF {A B : Prop} (h : A) : if (!false) = true then A else B := by simpa using h
theorem w_pos {c : Prop} [Decidable c] {A B : Prop} (hc : c) (h : A) : if decide c = true then A else B := by rw [decide_eq_true hc]; exact w_T h
theorem w_neg {c : Prop} [Decidable c] {A B : Prop} (hc : ¬ c) (h : B) : if decide c = true then A else B := by rw [decide_eq_false hc]; exact w_F h
theorem w_npos {c : Prop} [Decidable c] {A B : Prop} (hc : c) (h : B) : if (!decide c) = true then A else B := by rw [decide_eq_true hc]; exact w_nT h
theorem w_nneg {c : Prop} [Decidable c] {A B : Prop} (hc : ¬ c) (h : A) : if (!decide c) = true then A else B := by rw [decide_eq_false hc]; exact w_nF h
theorem w_exbl {b : Bool} {P : Bool → Prop} (h : P b) : ∃ c, V.bl b = .bl c ∧ P c := ⟨b, rfl, h⟩
theorem w_exint {b : Int} {P : Int → Prop} (h : P b) : ∃ c, V.int b = .int c ∧ P c := ⟨b, rfl, h⟩
theorem w_andr {A : Prop} {v : V} (h : A) : v = v ∧ A := ⟨rfl, h⟩
end
end L2

set_option maxHeartbeats 1000000

namespace Hw
theorem len1D {α : Type} {us : List α} (h : us.length = 1) : ∃ a, us = [a] := List.length_eq_one_iff.mp h
theorem len2D {α : Type} {us : List α} (h : us.length = 2) : ∃ a b, us = [a, b] := by
  cases us with
  | nil => cases h
  | cons a r =>
    obtain ⟨b, rfl⟩ := len1D (us := r) (Nat.succ.inj h)
    exact ⟨a, b, rfl⟩
theorem len3D {α : Type} {us : List α} (h : us.length = 3) : ∃ a b c, us = [a, b, c] := by
  cases us with
  | nil => cases h
  | cons a r =>
    obtain ⟨b, c, rfl⟩ := len2D (us := r) (Nat.succ.inj h)
    exact ⟨a, b, c, rfl⟩
theorem len4D {α : Type} {us : List α} (h : us.length = 4) : ∃ a b c d, us = [a, b, c, d] := by
  cases us with
  | nil => cases h
  | cons a r =>
    obtain ⟨b, c, d, rfl⟩ := len3D (us := r) (Nat.succ.inj h)
    exact ⟨a, b, c, d, rfl⟩

theorem rng1n {n : Nat} (h : n ≤ 12) : -(2 ^ 62) ≤ (1 : Int) ∧ (1 : Int) < 2 ^ 62 ∧ -(2 ^ 62) ≤ (n : Int) ∧ (n : Int) < 2 ^ 62 := by lia
theorem rng1m {m : Int} (h0 : 1 ≤ m) (h : m ≤ 12) : -(2 ^ 62) ≤ (1 : Int) ∧ (1 : Int) < 2 ^ 62 ∧ -(2 ^ 62) ≤ m ∧ m < 2 ^ 62 := by lia
theorem rngN {n : Nat} (h : n ≤ 12) : -(2 ^ 62) ≤ (n : Int) ∧ (n : Int) < 2 ^ 62 := by lia
theorem toNat_pred (n : Nat) : ((n : Int) - 1).toNat = n - 1 := by lia

open PySem PySem.W PyProof.Rows in
theorem walkX_of {q : Program} {loose : List Str} {XP : (Str → Option Value) → Heap → Prop} {K : Params → Frag} {as : List Addr} {n t : Nat} {r : RowW} {d : DefRec} {kwd : List (Str × Expr)} {run : Value → List Value → Sem Value}
    (e : ∀ P, as = (K P).map (·.1)) (W : WalkO q loose XP (fun w h => (K w.params).In h) r d kwd run) : WalkX q loose XP (X.obsZ as) (X.valZ K n t) r d kwd run := by
  intro w s₀ s₁ mg mb G Y a o pm cd doc dV kV h1 h2 h3 h4 h5 h6 args vals as' L hpre hlay hrd hwl hlo
  exact W w s₀ s₁ mg mb G (InK.keeps w _ _ (X.z_facts e Y).2.1 L.keeps) a o pm cd doc dV kV h1 h2 h3 h4 h5 h6 args vals as' hpre hlay hrd hwl hlo
end Hw

set_option maxHeartbeats 1000000

namespace Hw
open PySem L2 HwSort
theorem TupRefs.nl {H H' : Hp} {bs : List V} {kss : List (List Int)} (t : TupRefs H bs kss) (k : KeepNL H H') : TupRefs H' bs kss := t.keeps fun b _ h => k b _ h fun _ e => nomatch e
theorem paired_snoc {α β : Type} {F : α → β → Prop} {l₁ : List α} {l₂ : List β} {a : α} {b : β} (x : Paired F l₁ l₂) (h : F a b) : Paired F (l₁ ++ [a]) (l₂ ++ [b]) := by
  induction x with
  | nil => exact .cons h .nil
  | cons x r ih => exact .cons x ih
theorem TupRefs.snoc {H : Hp} {bs : List V} {kss : List (List Int)} {b : Addr} {ks : List Int} (t : TupRefs H bs kss) (h : H b = some (.tup (ks.map V.int))) : TupRefs H (bs ++ [.ref b]) (kss ++ [ks]) := paired_snoc t ⟨b, rfl, h⟩

noncomputable def ltP (a b : Pr) : Prop := a.1 < b.1 ∨ a.1 = b.1 ∧ a.2 < b.2
theorem ltP_lex {a b : Pr} (h : ltP a b) : HT.lexLt (two a) (two b) = true := by
  unfold two
  rw [HT.lexLt_cons]
  rcases h with h | ⟨h1, h2⟩
  · rw [if_neg (by lia)]
    simpa using h
  · rw [if_pos h1, HT.lexLt_cons, if_neg (by lia)]
    simpa using h2
theorem ltP_irrefl (a : Pr) : ¬ ltP a a := by
  rintro (h | ⟨_, h⟩) <;> lia
structure RowsOk (many : Int) (cs : Cs) : Prop where
  rise : (keysC cs).Pairwise ltP
  ok : ∀ k ∈ keysC cs, Ok2 many k.1 k.2
  cost : ∀ e ∈ cs, 0 ≤ e.2 ∧ e.2 ≤ 1000000
  len : cs.length ≤ 144
theorem rise_nd {l : List Pr} (r : l.Pairwise ltP) : l.Nodup := List.Pairwise.imp (fun {a b} (h : ltP a b) (e : a = b) => by subst e; exact ltP_irrefl _ h) r
theorem RowsOk.nd {many : Int} {cs : Cs} (r : RowsOk many cs) : (keysC cs).Nodup := rise_nd r.rise
theorem RowsOk.good {many : Int} {cs : Cs} (r : RowsOk many cs) : Good many cs := ⟨r.nd, r.ok⟩
theorem rise_two {cs : Cs} (r : (keysC cs).Pairwise ltP) : ((keysC cs).map two).Pairwise fun x y => HT.lexLt x y = true := by
  rw [List.pairwise_map]
  exact r.imp fun h => ltP_lex h
theorem keys_len (cs : Cs) : (keysC cs).length = cs.length := List.length_map _
theorem keys_snoc (cs : Cs) (e : Pr × Int) : keysC (cs ++ [e]) = keysC cs ++ [e.1] := by simp [keysC]
theorem put_new {cs : Cs} {k : Pr} {v : Int} (h : k ∉ keysC cs) : putC cs k v = cs ++ [(k, v)] := by
  unfold putC
  rw [if_neg]
  intro z
  obtain ⟨e, he, e2⟩ := List.any_eq_true.mp z
  exact h (List.mem_map.mpr ⟨e, he, of_decide_eq_true e2⟩)

theorem trip_unique {cs : Cs} (r : (keysC cs).Pairwise ltP) {trip : List (List Int)} (pm : trip.Perm (cs.map tri)) (pw : trip.Pairwise fun x y => HT.lexLt x y = true) : trip = cs.map tri := by
  refine lex_unique pm pw ?_
  have nd : (keysC cs).Nodup := rise_nd r
  have p2 : ((keysC cs).map two).Perm ((keysC cs).map two) := .refl _
  have := tri_rise nd p2 (rise_two r)
  have e : ((keysC cs).map two).map (triC cs) = cs.map tri := by
    unfold keysC
    rw [List.map_map, List.map_map]
    apply List.map_congr_left
    intro x hx
    exact triC_two cs x.1 (look_mem nd hx)
  rwa [e] at this
inductive sp_rows (K : PySem.W.Frag) (vs : List V) (H : Hp) (Q : VK) (E : XK) : Prop
  | mk (a : Addr) (ns : List Int) (many : Int) (h09 : vs = [.ref a, .int many]) (h19 : SqL K H a (ns.map V.int)) (h29 : ns.length ≤ 63) (h39 : 1 ≤ many) (h49 : many ≤ 12) (h59 : ∀ l rs cs H', Same H H' → H l = none → H' l = some (.lst rs) → TupRefs H' rs (cs.map tri) → RowsOk many cs → Q (.ref l) H') : sp_rows K vs H Q E
inductive sp_bookL (C : Addr) (vs : List V) (H : Hp) (Q : VK) (E : XK) : Prop
  | mk (l : _) (rs : _) (many : _) (cs : _) (h09 : vs = [.int many, .ref l]) (h19 : H l = some (.lst rs)) (h29 : TupRefs H rs (cs.map tri)) (h39 : Good many cs) (h49 : 1 ≤ many) (h59 : many ≤ 12) (h69 : cs.length ≤ 900) (h79 : ∀ p d H', Same H H' → H p = none → H d = none → BookAt C H' p d many cs → Q (.ref p) H') : sp_bookL C vs H Q E

inductive sp_hearR (C : Addr) (vs : List V) (H : Hp) (Q : VK) (E : XK) : Prop
  | mk (p d : Addr) (many : Int) (cs : Cs) (h09 : vs = [.ref p]) (h19 : BookAt C H p d many cs) (h29 : (keysC cs).Nodup) (h39 : cs.length ≤ 900) (h49 : (cs.length < 64 ∨ (keysC cs).Pairwise ltP)) (h59 : ∀ l rs trip H', Same H H' → H l = none → H' l = some (.lst rs) → TupRefs H' rs trip → trip.Perm (cs.map tri) → trip.Pairwise (fun x y => HT.lexLt x y = true) → Q (.ref l) H') : sp_hearR C vs H Q E
end Hw

set_option maxHeartbeats 1000000

namespace L2
open PySem PySem.Spec PyProof.Rows
section
variable {X : Cx}
theorem countP_eqU {x : V} : ∀ {xs : List V} {us : List Value}, Vals xs us → xs.all flatV = true → us.countP (eqU x) = xs.countP fun y => eqV y x
  | _, _, .nil, _ => rfl
  | y :: xs, u :: us, .cons r t, f => by
    rw [List.all_cons, Bool.and_eq_true] at f
    rw [List.countP_cons, List.countP_cons, eqU_of r f.1, countP_eqU t f.2]
noncomputable def rCount : V → List V → Hp → VK → Prop := fun x vs H Q => ∃ l xs y, x = .ref l ∧ vs = [y] ∧ H l = some (.lst xs) ∧ flatV y = true ∧ xs.all flatV = true ∧ Q (.int (xs.countP fun z => eqV z y : Nat)) H
theorem mt_count : MtM X "list.count" rCount := by
  intro pins s σ H x vs v us Q I rx rv h
  obtain ⟨l, xs, y, rfl, rfl, hH, fy, fs, q⟩ := h
  cases rx
  obtain ⟨u, rfl, ru⟩ := rv.one
  obtain ⟨z, its, n, r, hl, e⟩ := I.lstM hH
  refine call_meets F.slot_list_count ⟨_, e, rfl⟩ F.entry_list_count (F.args_list_count_2 _ _) (SeqAt.list_countAt l its.toArray n none #[] u (eqU y)) ⟨e, fun w hw => mem_eqAt ru fy r fs w (by simpa using hw), ?_⟩
  rw [show (its.toArray.toList.countP (eqU y)) = its.countP (eqU y) by simp, countP_eqU r fs]
  exact ⟨.int _, H, I.tok _, ⟨_, rfl⟩, q⟩
end
end L2

namespace L2
open PySem PySem.Spec PyProof.Rows
end L2

set_option maxHeartbeats 1000000

namespace PySem
open Sem (wp)
set_option maxRecDepth 100000
namespace F
theorem lk_list_keys : typeLookup (.type "list") "keys" = pure none := by rw [typeLookup_type, builtinLookup_eq_fast]; kernel_rfl
theorem lk_list_gattr : typeLookup (.type "list") "__getattr__" = pure none := by rw [typeLookup_type, builtinLookup_eq_fast]; kernel_rfl
theorem sub_attr : isSubtype (.type "AttributeError") (.type "AttributeError") = pure true := by rw [isSubtype_type]; kernel_rfl
end F
section
variable {prog : Program} {w : World} {A : Around} {E : Value → Shared → Prop} {h : Heap} {g : Array GenState} {d : Drawn} {t : Nat} {os : OsState} {a : Addr} {its : Array Value} {n : Nat}
theorem note_attr {s : Shared} {e : Addr} {t0 o name : Value} {Q : Unit → Shared → Prop} (he : s.heap.get? e = some { cls := .type "AttributeError", data := .fields #[t0, .none, .none, .none, .bool false, .none, unsetMember, unsetMember] })
    (hQ : ∀ h' oe, h'.get? e = some oe → oe.cls = .type "AttributeError" → (∀ b o, b ≠ e → s.heap.get? b = some o → h'.get? b = some o) → Q () { s with heap := h' }) : wpAny (model prog w) A (noteAttr (.ref e) o name) Q E s := by
  have hT : s.TypeIs (.ref e) "AttributeError" := ⟨_, he, rfl⟩
  unfold noteAttr lacksNameAndObj
  refine wpAny_bind (wpAny_bind (wpAny_isInstance (T := "AttributeError") (b := true) hT F.sub_attr ?_))
  show wpAny _ _ (load e >>= _) _ _ s
  refine wpAny_bind (wpAny_load he ?_)
  show wpAny _ _ (pure true) _ _ s
  refine wpAny_pure ?_
  show wpAny _ _ (rule _ >>= _) _ _ s
  refine wpAny_bind (wpAny_rule ?_)
  refine wpAny_bind (wpAny_typeOf hT ?_)
  show wpAny _ _ (layMembers e 6 _) _ _ s
  refine wpAny_layMembers he rfl ?_
  refine hQ _ _ (Heap.get?_update_self _ he ?_) ?_ fun b o hb q => (Heap.get?_update_other _ _ hb.symm).trans q
  · exact Obj.isFreed_of_fields (Obj.data_mapFields rfl _)
  · exact (Obj.cls_mapFields ..).trans rfl
theorem attr_error {s : Shared} {o : Value} {name msg : Str} {α : Type} {Q : α → Shared → Prop} (hh : A.handled = none) (hm : msg.length ≤ sizeLine) (hn : name.length ≤ sizeLine)
    (hE : ∀ e oe h' tk', h'.get? e = some oe → oe.cls = .type "AttributeError" → (∀ b o, s.heap.get? b = some o → h'.get? b = some o) → E (.ref e) { s with heap := h', toks := tk' }) : wpAny (model prog w) A (raiseAttrError o name msg) Q E s := by
  unfold raiseAttrError
  simp only [newExc, newTuple]
  refine wpAny_bind (wpAny_mkStr ?_ hm)
  refine wpAny_bind (wpAny_bind (wpAny_newObj_type ?_ (by size_fits)))
  refine wpAny_bind (m := firstArgMember _ _) (wpAny_of_eq (a := Value.none) (by first | rfl | (simp only [firstArgMember]; rfl)) ?_)
  refine wpAny_newObj_type ?_ (by size_fits)
  generalize hh1 : s.heap.push { cls := .type "tuple", data := .seq #[.str msg s.toks] } = h1
  have k1 : ∀ b o, s.heap.get? b = some o → h1.get? b = some o := fun b o e => by rw [← hh1]; exact Heap.get?_push_of_some _ e
  refine wpAny_bind (wpAny_mkText ?_)
  refine wpAny_bind (note_attr (t0 := .ref s.heap.objs.size) ?_ fun h' oe h1' h2' h3' => ?_)
  · exact Heap.get?_push_size _ rfl
  · unfold raiseNew
    refine wpAny_bind (wpAny_handled ?_)
    rw [hh]
    refine wpAny_bind (wpAny_pure (wpAny_throw ?_))
    refine hE _ oe h' _ h1' h2' fun b o e => h3' b o ?_ (Heap.get?_push_of_some _ (k1 b o e))
    exact Nat.ne_of_lt (Heap.lt_size (k1 b o e))
theorem keys_entry_list {tk : Tok} {Q : Fin → Shared → Prop} (hh : A.handled = none) (hx : h.get? a = some { cls := .type "list", data := .seq its n }) (hE : ∀ e oe h' tk', h'.get? e = some oe → oe.cls = .type "AttributeError" → (∀ b o, h.get? b = some o → h'.get? b = some o) → E (.ref e) ⟨h', g, d, tk', os⟩) :
    wpAny (model prog w) A (Builtin.«object.__getattribute__» ⟨[.ref a, .str "keys" tk], []⟩) Q E ⟨h, g, d, t, os⟩ := by
  have hT : (⟨h, g, d, t, os⟩ : Shared).TypeIs (.ref a) "list" := ⟨_, hx, rfl⟩
  have f4 := F.lk_list_keys
  repeat (any_goals (first | assumption | wp_step))
  generalize hm0 : (Str.ofString (toString "'" ++ toString ((Manifest.find? "list").elim "list" fun x => x.tpName) ++ toString "' object has no attribute '") ++ Str.ofString "keys" ++ Str.ofString "'") = msg
  have hm : msg.length ≤ sizeLine := by rw [← hm0]; decide +kernel
  exact attr_error hh hm (by decide +kernel) hE
theorem keys_attr_list {Q : Option Value → Shared → Prop} (hh : A.handled = none) (hx : h.get? a = some { cls := .type "list", data := .seq its n }) (hQ : ∀ h' tk', (∀ b o, h.get? b = some o → h'.get? b = some o) → Q none ⟨h', g, d, tk', os⟩) :
    wpAny (model prog w) A (getAttr? (.ref a) "keys") Q E ⟨h, g, d, t, os⟩ := by
  have hT : (⟨h, g, d, t, os⟩ : Shared).TypeIs (.ref a) "list" := ⟨_, hx, rfl⟩
  have f2 := F.slot_list_getattribute.lookup
  have f3 := F.slot_list_getattribute.bind (.ref a)
  unfold getAttr? getAttrBy? getAttrBy
  refine wpAny_bind (wpAny_mkText (wpAny_bind (wpAny_attempt (wpAny_holding (wpAny_bind (wpAny_typeOf (s := ⟨h, g, d, t + 1, os⟩) ⟨_, hx, rfl⟩ ?_))))))
  refine wpAny_bind (wpAny_of_eq f2 ?_)
  show wpAny _ _ (getAttrByItsOwn _ _ _ _ _ _) _ _ _
  unfold getAttrByItsOwn
  refine wpAny_bind ?_
  show wpAny _ _ (pure none) _ _ _
  refine wpAny_pure (wpAny_bind (wpAny_attempt (wpAny_holding ?_)))
  show wpAny _ _ (boundAndCalled _ _ _) _ _ _
  unfold boundAndCalled
  rw [f3]
  refine wpAny_bind (wpAny_pure (wpAny_call ?_))
  refine codeAny_call_builtin F.slot_list_getattribute.plain F.entry_list_ga (F.slot_list_getattribute.check _ _ _ _ _ _ _ _ (show (⟨h, g, d, t + 1, os⟩ : Shared).TypeIs (.ref a) "list" from ⟨_, hx, rfl⟩) (F.args_list_getattribute_2 _ _) (keys_entry_list (show A.in1.handled = none from hh) hx fun e oe h' tk' h1 h2 h3 => ?_))
  show wpAny _ _ (getattributeRaised _ _ _ _ _ _ _) _ _ _
  unfold getattributeRaised
  refine wpAny_bind (wpAny_isInstance (T := "AttributeError") (b := true) ⟨_, h1, h2⟩ F.sub_attr ?_)
  show wpAny _ _ (hookBehind _ _ >>= _) _ _ _
  refine wpAny_bind ?_
  show wpAny _ _ (typeLookup (.type "list") "__getattr__") _ _ _
  refine wpAny_of_eq F.lk_list_gattr ?_
  unfold hookOrError attributeErrorLeaves
  simp only [Bool.not_false, if_true]
  refine wpAny_bind (wpAny_throw ?_)
  show wpAny _ _ (isInstance (.ref e) (.type "AttributeError") >>= _) _ _ _
  refine wpAny_bind (wpAny_isInstance (T := "AttributeError") (b := true) ⟨_, h1, h2⟩ F.sub_attr ?_)
  exact wpAny_pure (hQ _ _ h3)
end
end PySem

set_option maxHeartbeats 1000000

namespace L2
open PySem PySem.Spec PyProof.Rows
theorem plain_upd_loop : plainId "dict.update.loop" = true := by decide +kernel
theorem entry_upd_loop : entryFor table "dict.update.loop" = some Builtin.«dict.update.loop» := entryFor_of_fast (by kernel_rfl)
section
variable {P : Program} {w : World} {A : Around} {s : Shared} {h₀ : Heap} {l I d : Addr} {vs : List Value} {xs : List (List Key × Addr × Value)} {R : Result → Shared → Prop}
theorem is_kp {h h' : Heap} {ks : List Key} {a : Addr} (x : (tupleKind (mixKind P w)).is h ks a) (k : Kp h h') : (tupleKind (mixKind P w)).is h' ks a := let ⟨o, its, n, e, r⟩ := x; ⟨o, its, n, k _ _ e, r⟩
theorem dictH_move {h h' : Heap} {xs : List (List Key × Addr × Value)} (x : h.DictOfH (tupleKind (mixKind P w)) d xs) (hd : ∀ o, h.get? d = some o → h'.get? d = some o) (hk : ∀ x ∈ xs, (tupleKind (mixKind P w)).is h' x.1 x.2.1) : h'.DictOfH (tupleKind (mixKind P w)) d xs :=
  let ⟨o, es, ep, e, r1, r2, r3, _, r5⟩ := x; ⟨o, es, ep, hd o e, r1, r2, r3, hk, r5⟩
theorem upd_loop (hh : A.handled = none) (hu : A.units + 1 < cLine) (hl : h₀.IsList l vs.toArray) (hlI : l ≠ I) (hdI : d ≠ I) (hI0 : h₀.get? I = none) (hd0 : h₀.get? d = none)
    (hit : ∀ (i : Nat) (v : Value), vs[i]? = some v → ∃ (b : Addr) (x : List Key × Addr × Value), v = .ref b ∧ xs[i]? = some x ∧ IsTup h₀ b #[.ref x.2.1, x.2.2]) (hkey : ∀ x ∈ xs, (tupleKind (mixKind P w)).is h₀ x.1 x.2.1)
    (hlen : xs.length = vs.length) (hnd : (xs.map (·.1)).Nodup) (hsz : xs.length ≤ sizeLine)
    (hR : ∀ h' tk', Kp h₀ h' → h'.DictOfH (tupleKind (mixKind P w)) d xs → R (.ok (.ret .none)) { s with heap := h', toks := tk' }) :
    ∀ (r i : Nat) (h : Heap) (tk : Nat), vs.length - i = r → i ≤ vs.length → Kp h₀ h → h.DictOfH (tupleKind (mixKind P w)) d (xs.take i) → h.IsListIter I l i →
      codeAny (model P w) A (.builtin "dict.update.loop" ⟨[.ref d, .ref I, rawInt i, .none], []⟩) R { s with heap := h, toks := tk } := by
  have W := Walks.list (prog := P) (w := w) (A := A.in1) hh I l hlI vs.toArray
  have hsz2 : vs.toArray.size = vs.length := List.size_toArray ..
  have neI : ∀ {b : Addr} {o : Obj}, h₀.get? b = some o → b ∉ [I] := fun {b o} e q => by rw [List.mem_singleton.mp q, hI0] at e; cases e
  intro r
  induction r with
  | zero =>
    intro i h tk hr hi K D hIt
    have ei : i = vs.length := by lia
    refine codeAny_builtin entry_upd_loop ?_
    rw [Around.under_plainId plain_upd_loop _]
    show wpAny _ A.in1 (pyNext (.ref I) >>= _) _ _ _
    refine wpAny_bind (W.done _ _ _ ⟨by rw [hsz2, ← ei]; exact hIt, isList_kp hl K⟩ fun h' tk' hk' => ?_)
    show wpAny _ A.in1 (Builtin.Dict.addKeywords d [] >>= _) _ _ _
    refine wpAny_bind (wpAny_pure (wpAny_pure ?_))
    have K1 : Kp h₀ h' := fun b o e => hk' b o (neI e) (K b o e)
    refine hR _ _ K1 ?_
    rw [ei, ← hlen, List.take_length] at D
    exact dictH_move D (fun o e => hk' d o (by simpa using hdI) e) fun x hx => is_kp (hkey x hx) K1
  | succ r ih =>
    intro i h tk hr hi K D hIt
    have hlt : i < vs.length := by lia
    refine codeAny_builtin entry_upd_loop ?_
    rw [Around.under_plainId plain_upd_loop _]
    show wpAny _ A.in1 (pyNext (.ref I) >>= _) _ _ _
    refine wpAny_bind (W.item i _ _ _ (by rw [hsz2]; exact hlt) ⟨hIt, isList_kp hl K⟩ fun v h' tk' hP hst' hk' => ?_)
    have hv : vs[i]? = some v := by simpa using hP
    obtain ⟨b, x, rfl, hx, ob, hob, hoc, no, hod⟩ := hit i v hv
    have K1 : Kp h₀ h' := fun b o e => hk' b o (neI e) (K b o e)
    have hxm : x ∈ xs := List.mem_of_getElem? hx
    have D1 : h'.DictOfH (tupleKind (mixKind P w)) d (xs.take i) := dictH_move D (fun o e => hk' d o (by simpa using hdI) e) fun y hy => is_kp (hkey y (List.mem_of_mem_take hy)) K1
    show wpAny _ A.in1 (holding [.ref b] _ >>= _) _ _ _
    refine wpAny_bind (wpAny_holding (wpAny_bind (wpAny_tryCatch ?_)))
    unfold Builtin.Dict.pairItems
    refine wpAny_bind (wpAny_typeOf (T := "tuple") ⟨ob, K1 _ _ hob, hoc⟩ ?_)
    show wpAny _ A.in1 (seqItems? (.ref b) >>= _) _ _ _
    refine wpAny_bind (wpAny_seqItems (K1 _ _ hob) hod (wpAny_pure ?_))
    show wpAny _ A.in1 (holding [.ref x.2.1, x.2.2] (dictSet d (.ref x.2.1) x.2.2)) _ _ _
    refine wpAny_holding (wpAny_dictSet_heap (knd := tupleKind (mixKind P w)) (tupleKind_room_in1 hu) (is_kp (hkey x hxm) K1) D1 (fun h2 D2 hs2 => ?_) (by rw [List.length_take]; lia))
    show wpAny _ A.in1 (again (.builtin "dict.update.loop" ⟨[.ref d, .ref I, rawInt ((i : Int) + 1), .none], []⟩)) _ _ _
    have K2 : Kp h₀ h2 := fun b o e => (hs2.2 b (fun z => by rw [z, hd0] at e; cases e)).trans (K1 b o e)
    have hnew : atKey (xs.take i) x.1 = none := by
      cases q : atKey (xs.take i) x.1 with
      | none => rfl
      | some p =>
        exfalso
        have hmem : x.1 ∈ (xs.take i).map (·.1) := by
          unfold atKey at q
          obtain ⟨y, hy, _⟩ := Option.map_eq_some_iff.mp q
          have h1 := List.mem_of_find?_eq_some hy
          have h2 := List.find?_some hy
          exact List.mem_map.mpr ⟨y, h1, by simpa using h2⟩
        obtain ⟨y, hy, e1⟩ := List.mem_map.mp hmem
        obtain ⟨j, hj, e3⟩ := List.mem_iff_getElem.mp hy
        rw [List.length_take] at hj
        rw [List.getElem_take] at e3
        have h1 : (xs.map (·.1))[j]? = some x.1 := by rw [List.getElem?_map, List.getElem?_eq_getElem (by lia), e3]; exact congrArg some e1
        have h2 : (xs.map (·.1))[i]? = some x.1 := by rw [List.getElem?_map, hx]; rfl
        have := (List.getElem?_inj (by rw [List.length_map]; lia) hnd).mp (h1.trans h2.symm)
        lia
    rw [storedH_new hnew] at D2
    have e2 : xs.take i ++ [(x.1, x.2.1, x.2.2)] = xs.take (i + 1) := by rw [List.take_add_one, hx]; rfl
    rw [e2] at D2
    obtain ⟨oI, hoI, r1, r2⟩ := id hst'.1
    refine wpAny_pure ⟨plainId_quiet plain_upd_loop _, ?_⟩
    exact ih (i + 1) h2 _ (by lia) hlt K2 D2 ⟨oI, (hs2.2 I hdI.symm).trans hoI, r1, r2⟩
end

noncomputable def PairRefs (H : Hp) : List V → List (List Key × V) → Prop := Paired fun y p => ∃ b t, y = V.ref b ∧ H b = some (.tup [.ref t, p.2]) ∧ H t = some (.tup (p.1.map kV))
theorem pairs_at {X : Cx} {pins : List (Addr × Obj)} {σ : St} {H : Hp} {s : Shared} (I : Inv X pins σ H s) {bs : List V} {us : List Value} {ps : List (List Key × V)} (x : PairRefs H bs ps) (y : Vals bs us) :
    ∃ xs : List (List Key × Addr × Value), Paired (fun (p : List Key × V) (q : List Key × Addr × Value) => p.1 = q.1 ∧ H q.2.1 = some (.tup (p.1.map kV)) ∧ RelV p.2 q.2.2) ps xs ∧ Paired (fun (u : Value) (x : List Key × Addr × Value) => ∃ b, u = .ref b ∧ IsTup s.heap b #[.ref x.2.1, x.2.2]) us xs := by
  induction x generalizing us with
  | nil => cases y; exact ⟨[], .nil, .nil⟩
  | cons h r ih =>
    cases y with
    | cons rv rr =>
      obtain ⟨b, t, e, hb, ht⟩ := h
      obtain ⟨xs, h1, h2⟩ := ih rr
      subst e
      cases rv
      obtain ⟨_, its, rv2, tup⟩ := (show ObjOk X.prog X.w H s.heap b (.tup _) from I.hok b _ hb)
      obtain ⟨u1, u2, rfl, r1, r2⟩ := vals2 rv2
      cases r1
      exact ⟨(_, t, u2) :: xs, .cons ⟨rfl, ht, r2⟩ h1, .cons ⟨b, rfl, tup⟩ h2⟩
theorem paired_get {α β : Type} {F : α → β → Prop} {l₁ : List α} {l₂ : List β} (h : Paired F l₁ l₂) {i : Nat} {a : α} (e : l₁[i]? = some a) : ∃ b, l₂[i]? = some b ∧ F a b := by
  induction h generalizing i with
  | nil => simp at e
  | cons h t ih =>
    cases i with
    | zero =>
      simp only [List.getElem?_cons_zero, Option.some.injEq] at e
      exact ⟨_, rfl, e ▸ h⟩
    | succ i => exact ih e
theorem paired_keys {H : Hp} : ∀ {ps : List (List Key × V)} {xs : List (List Key × Addr × Value)}, Paired (fun (p : List Key × V) (q : List Key × Addr × Value) => p.1 = q.1 ∧ H q.2.1 = some (.tup (p.1.map kV)) ∧ RelV p.2 q.2.2) ps xs → xs.map (·.1) = ps.map (·.1)
  | _, _, .nil => rfl
  | _, _, .cons h t => by rw [List.map_cons, List.map_cons, paired_keys t, h.1]
theorem call_dictOf {X : Cx} (hc : X.calm = true) (hu : X.A.units + 64 < cLine) : CallR X (.type "dict") (fun xs H Q => ∃ l bs ps, xs = [.ref l] ∧ H l = some (.lst bs) ∧ PairRefs H bs ps ∧ (ps.map (·.1)).Nodup ∧ ∀ d, H d = none → Q (.ref d) (upd H d (.dT ps))) := by
  intro pins s σ H xs us Q I r h
  obtain ⟨l, bs, ps, rfl, hl, hp, hnd, q⟩ := h
  obtain ⟨u, rfl, ru⟩ := vals1 r
  cases ru
  obtain ⟨z, its, n, rv, zl, e⟩ := I.lstM hl
  obtain ⟨xs, h1, h2⟩ := pairs_at I hp rv
  have hkeys := paired_keys h1
  have hlx : xs.length = its.length := (Paired.length h2).symm
  refine callType_codes (Q₁ := fun obj s₁ => obj = .ref s.heap.objs.size ∧ s₁ = { s with heap := s.heap.push { cls := .type "dict", data := .dict #[] } }) F.kt_called_dict (F.kt_typeCall_dict_1 _) F.entry_dict_init (kt_code_dict_new _ ⟨rfl, rfl⟩) ?_
  rintro obj s₁ ⟨rfl, rfl⟩
  have D0 : (s.heap.push { cls := .type "dict", data := .dict #[] }).DictOfH (tupleKind (mixKind X.prog X.w)) s.heap.objs.size [] := Heap.DictOfH.new s.heap
  have k1 : Kp s.heap (s.heap.push { cls := .type "dict", data := .dict #[] }) := fun b o e => Heap.get?_push_of_some _ e
  have hI := I.ok.hd hc
  generalize hd1 : s.heap.push { cls := .type "dict", data := .dict #[] } = hp1 at D0 k1
  have sz1 : hp1.objs.size = s.heap.objs.size + 1 := by rw [← hd1]; exact size_push' ..
  refine ⟨D0.typeIs (s := { s with heap := hp1 }), F.args_dict_init_2 _ _, ?_⟩
  unfold Builtin.«dict.__init__»
  refine wpAny_bind ?_
  unfold Builtin.Dict.selfAndRest
  refine wpAny_bind (wpAny_notOrdered_dict (D0.typeIs (s := { s with heap := hp1 })) ?_)
  show wpAny _ _ (pure (s.heap.objs.size, [Value.ref l])) _ _ _
  refine wpAny_pure ?_
  show wpAny _ _ (Builtin.Dict.updateFrom "dict.__init__" s.heap.objs.size (.ref l) [] .none) _ _ _
  unfold Builtin.Dict.updateFrom
  have el : hp1.get? l = some { cls := .type "list", data := .seq its.toArray n } := k1 _ _ e
  refine wpAny_bind (wpAny_typeOf (T := "list") (s := { s with heap := hp1 }) ⟨_, el, rfl⟩ ?_)
  rw [if_pos (by decide)]
  refine wpAny_bind (keys_attr_list (show X.A.in1.in1.handled = none from hI) el fun h2' tk2 k2 => ?_)
  show wpAny _ _ (rule _ >>= _) _ _ _
  refine wpAny_bind (wpAny_rule ?_)
  have el2 : h2'.IsList l its.toArray := ⟨_, k2 _ _ el, rfl, n, rfl⟩
  refine wpAny_bind (wpAny_pyIter_list el2 ?_)
  generalize hd3 : h2'.push { cls := .type "list_iterator", data := .fields #[.ref l, .int 0 0] } = h3
  have k3 : Kp h2' h3 := fun b o e => by rw [← hd3]; exact Heap.get?_push_of_some _ e
  have gI : h3.get? h2'.objs.size = some { cls := .type "list_iterator", data := .fields #[.ref l, .int 0 0] } := by rw [← hd3]; exact Heap.get?_push_size _ rfl
  have szd : s.heap.objs.size < h2'.objs.size := by
    obtain ⟨o, _, _, eo, _⟩ := id D0
    exact Heap.lt_size (k2 _ _ eo)
  have hll : l < s.heap.objs.size := Heap.lt_size e
  have Kall : Kp s.heap h3 := fun b o e => k3 b o (k2 b o (k1 b o e))
  refine wpAny_pure ⟨plainId_quiet plain_upd_loop _, ?_⟩
  refine upd_loop (P := X.prog) (w := X.w) (s := s) (h₀ := s.heap) (l := l) (vs := its) (xs := xs) (show X.A.in1.handled = none from hI) (by show X.A.units + 1 + 1 < cLine; lia) ⟨_, e, rfl, n, rfl⟩ (Nat.ne_of_lt (Nat.lt_trans hll szd)) (Nat.ne_of_lt szd) (Heap.get?_none_of_le (Nat.le_of_lt szd)) (Heap.get?_none_of_le (Nat.le_refl _))
    (fun i v hv => ?_) (fun x hx => ?_) hlx (by rw [hkeys]; exact hnd) (by lia) (fun h' tk' kp D => ?_) _ 0 h3 _ rfl (Nat.zero_le _) Kall ?_ ⟨_, gI, rfl, rfl⟩
  · obtain ⟨x, hx, b, eb, tb⟩ := paired_get h2 hv
    exact ⟨b, x, eb, hx, tb⟩
  · obtain ⟨i, hi, e3⟩ := List.mem_iff_getElem.mp hx
    have hpl : ps.length = xs.length := Paired.length h1
    obtain ⟨y, hy, e4, e5, _⟩ := paired_get h1 (i := i) (a := ps[i]) (by simp [hpl, hi])
    have : xs[i]? = some x := by rw [List.getElem?_eq_getElem hi, e3]
    rw [this] at hy
    cases hy
    rw [← e4]
    exact key_of I.hok e5
  · refine ⟨rfl, .ref s.heap.objs.size, upd H s.heap.objs.size (.dT ps), ?_, rfl, q _ (I.hok.fresh (Nat.le_refl _))⟩
    have hfr : H s.heap.objs.size = none := I.hok.fresh (Nat.le_refl _)
    obtain ⟨o, es, ep, r1, r2, r3, r4, _, r5⟩ := D
    refine I.laid (t' := tk') kp (Nat.le_refl _) ⟨by rw [Paired.length h1]; lia, ?_, xs, Paired.mapP h1 fun p y h => ⟨h.1, ?_, h.2.2⟩, o, es, ep, r1, r2, r3, r4, r5⟩
    · have := I.big
      exact beq_false_of_ne (Nat.ne_of_gt this)
    · rw [upd_ne (ne_of_none h.2.1 hfr)]
      exact h.2.1
  · exact dictH_move D0 (fun o e => k3 _ _ (k2 _ _ e)) fun x hx => by cases hx
end L2

set_option maxHeartbeats 1000000

namespace L2
open PySem PySem.Spec PyProof.Rows
noncomputable def rEqNil (K : PySem.W.Frag) (neg : Bool) : R2 := fun x y H Q => ∃ p q xs, x = .ref p ∧ y = .ref q ∧ SqL K H p xs ∧ SqL K H q [] ∧ Q (.bl (if neg then !xs.isEmpty else xs.isEmpty)) H
section
variable {X : Cx}
theorem eqNil_at {pins : List (Addr × Obj)} {s : Shared} {σ : St} {H : Hp} {p q : Addr} {xs : List V} {Q : Value → Shared → Prop} {E : Value → Shared → Prop} (hu : X.A.units < cLine) (I : Inv X pins σ H s) (hp : SqL X.K H p xs) (hq : SqL X.K H q []) (k : Q (.bool xs.isEmpty) s) :
    wpAny (model X.prog X.w) X.A (compareOp .Eq (.ref p) (.ref q)) Q E s := by
  obtain ⟨its, rv, pl, z⟩ := I.list hp
  obtain ⟨jts, rw', ql, z'⟩ := I.list hq
  have e0 : jts = [] := by
    have := rw'.length
    exact List.eq_nil_of_length_eq_zero this.symm
  subst e0
  cases xs with
  | nil =>
    have e1 : its = [] := List.eq_nil_of_length_eq_zero rv.length.symm
    subst e1
    exact SeqAt.eq_listAt pl.isList ql.isList rfl hu (e := fun _ => true) (fun j h1 h2 => by simp at h1) k
  | cons x r =>
    refine SeqAt.eq_list_lengthsAt pl.isList ql.isList ?_ hu k
    have := rv.length
    simp only [List.size_toArray, bne_iff_ne]
    rw [← this]
    simp
theorem op_eqNil (hu : X.A.units < cLine) : OpR X (compareOp .Eq) (rEqNil X.K false) := by
  intro pins s σ H x y v u Q I rx ry h
  obtain ⟨p, q, xs, rfl, rfl, hp, hq, k⟩ := h
  cases rx
  cases ry
  exact eqNil_at hu I hp hq ⟨.bl xs.isEmpty, H, I, rfl, k⟩
end
end L2

set_option maxHeartbeats 1000000

namespace L2
open PySem PySem.Spec PyProof.Rows
mutual
inductive DRep (H : Hp) : V → PyData → Prop
  | non : DRep H .non .none
  | bl (b : Bool) : DRep H (.bl b) (.bool b)
  | int (i : Int) : DRep H (.int i) (.int i)
  | str (x : Str) : DRep H (.str x) (.str x)
  | lst {a : Addr} {xs : List V} {ds : List PyData} : H a = some (.lst xs) → DReps H xs ds → DRep H (.ref a) (.list ds)
  | tup {a : Addr} {xs : List V} {ds : List PyData} : H a = some (.tup xs) → DReps H xs ds → DRep H (.ref a) (.tuple ds)
inductive DReps (H : Hp) : List V → List PyData → Prop
  | nil : DReps H [] []
  | cons {x : V} {d : PyData} {xs : List V} {ds : List PyData} : DRep H x d → DReps H xs ds → DReps H (x :: xs) (d :: ds)
end
section
variable {X : Cx} {pins : List (Addr × Obj)} {σ : St} {H : Hp} {s : Shared}
mutual
theorem DRep.reads (I : Inv X pins σ H s) : ∀ {v : V} {d : PyData} {u : Value}, DRep H v d → RelV v u → ∃ as, Reads s.heap u d as
  | _, _, _, .non, r => by cases r; exact ⟨_, .none⟩
  | _, _, _, .bl b, r => by cases r; exact ⟨_, .bool b⟩
  | _, _, _, .int i, r => by obtain ⟨t, rfl⟩ := r; exact ⟨_, .int i t⟩
  | _, _, _, .str x, r => by obtain ⟨t, rfl⟩ := r; exact ⟨_, .str x t⟩
  | _, _, _, .lst h t, r => by
    cases r
    obtain ⟨_, its, n, rv, e⟩ := I.hok _ _ h
    obtain ⟨as, q⟩ := DReps.reads I t rv
    exact ⟨_, .list e rfl rfl (by simpa using q)⟩
  | _, _, _, .tup h t, r => by
    cases r
    obtain ⟨_, its, rv, o, e, c, n, dd⟩ := I.hok _ _ h
    obtain ⟨as, q⟩ := DReps.reads I t rv
    exact ⟨_, .tuple e c dd (by simpa using q)⟩
theorem DReps.reads (I : Inv X pins σ H s) : ∀ {xs : List V} {ds : List PyData} {us : List Value}, DReps H xs ds → Vals xs us → ∃ as, ReadsAll s.heap us ds as
  | _, _, _, .nil, .nil => ⟨_, .nil⟩
  | _, _, _, .cons h t, .cons r rr => by
    obtain ⟨a1, q1⟩ := DRep.reads I h r
    obtain ⟨a2, q2⟩ := DReps.reads I t rr
    exact ⟨_, .cons q1 q2⟩
end
end
noncomputable def rEqD (neg : Bool) : R2 := fun x y H Q => ∃ dx dy, DRep H x dx ∧ DRep H y dy ∧ dx.canLay0 = true ∧ dy.canLay0 = true ∧ dx.depth ≤ 60 ∧ Q (.bl (if neg then !PyData.eqv dx dy else PyData.eqv dx dy)) H
section
variable {X : Cx}
theorem op_eqD (hu : X.A.units + 64 < cLine) : OpR X (compareOp .Eq) (rEqD false) := by
  intro pins s σ H x y v u Q I rx ry h
  obtain ⟨dx, dy, hx, hy, cx, cy, hd, q⟩ := h
  obtain ⟨as, r1⟩ := hx.reads I rx
  obtain ⟨bs, r2⟩ := hy.reads I ry
  exact SeqAt.compareEq_reads r1 r2 cx cy (by lia) ⟨.bl (PyData.eqv dx dy), H, I, rfl, q⟩
theorem op_neD (hu : X.A.units + 64 < cLine) : OpR X (compareOp .NotEq) (rEqD true) := by
  intro pins s σ H x y v u Q I rx ry h
  obtain ⟨dx, dy, hx, hy, cx, cy, hd, q⟩ := h
  obtain ⟨as, r1⟩ := hx.reads I rx
  obtain ⟨bs, r2⟩ := hy.reads I ry
  exact SeqAt.compareNe_reads r1 r2 cx cy (by lia) ⟨.bl (!PyData.eqv dx dy), H, I, rfl, q⟩
end
end L2

set_option maxHeartbeats 1000000

namespace Hw
open PySem L2 HwSort
noncomputable abbrev Grp := List Int
structure PSt where
  rests : Cs
  spent : List Pr
  prices : List (Grp × Int)
  lonely : Option Grp
noncomputable def entersB (g : Grp) (k : Pr) : Bool := decide (k.2 ∈ g) && !decide (k.1 ∈ g)
noncomputable def entering (rests : Cs) (g : Grp) : List Pr := (keysC rests).filter (entersB g)
noncomputable def minI : List Int → Int
  | [] => 0
  | [a] => a
  | a :: b :: r => min a (minI (b :: r))
theorem minI_mem : ∀ {l : List Int}, l ≠ [] → minI l ∈ l
  | [], h => absurd rfl h
  | [a], _ => by simp [minI]
  | a :: b :: r, _ => by
    have ih := minI_mem (l := b :: r) (by simp)
    unfold minI
    by_cases h : a ≤ minI (b :: r)
    · rw [Int.min_eq_left h]; simp
    · rw [Int.min_eq_right (by lia)]; exact List.mem_cons_of_mem _ ih
theorem minI_le : ∀ {l : List Int}, ∀ x ∈ l, minI l ≤ x
  | [], x, h => by cases h
  | [a], x, h => by simp at h; simp [minI, h]
  | a :: b :: r, x, h => by
    unfold minI
    rcases List.mem_cons.mp h with rfl | h
    · lia
    · have := minI_le (l := b :: r) x h
      lia
theorem minI_unique {l : List Int} {M : Int} (h1 : M ∈ l) (h2 : ∀ a ∈ l, M ≤ a) : M = minI l := by
  have hne : l ≠ [] := fun e => by rw [e] at h1; cases h1
  have a1 := h2 _ (minI_mem hne)
  have a2 := minI_le _ h1
  lia
noncomputable def costOf (cs : Cs) (k : Pr) : Int := (lookC cs k).getD 0
noncomputable def priceOf (rests : Cs) (g : Grp) : Int := minI ((entering rests g).map (costOf rests))

noncomputable def lowered (rests : Cs) (ks : List Pr) (price : Int) : Cs := rests.map fun e => if e.1 ∈ ks then (e.1, e.2 - price) else e
noncomputable def chargeF (st : PSt) (g : Grp) : PSt :=
  if entering st.rests g = [] then { st with lonely := some g }
  else { rests := lowered st.rests (entering st.rests g) (priceOf st.rests g), spent := st.spent ++ (entering st.rests g).filter fun k => decide (costOf st.rests k = priceOf st.rests g),
         prices := if priceOf st.rests g = 0 then st.prices else st.prices ++ [(g, priceOf st.rests g)], lonely := st.lonely }
theorem keys_lowered (rests : Cs) (ks : List Pr) (price : Int) : keysC (lowered rests ks price) = keysC rests := by
  unfold keysC lowered
  rw [List.map_map]
  apply List.map_congr_left
  intro x _
  simp only [Function.comp]
  split <;> rfl
theorem keys_charge (st : PSt) (g : Grp) : keysC (chargeF st g).rests = keysC st.rests := by
  unfold chargeF
  split
  · rfl
  · exact keys_lowered _ _ _
theorem lowered_nil (rests : Cs) (price : Int) : lowered rests [] price = rests := by
  unfold lowered
  simp
theorem look_lowered {rests : Cs} {ks : List Pr} {price : Int} {k : Pr} : lookC (lowered rests ks price) k = (lookC rests k).map fun c => if k ∈ ks then c - price else c := by
  unfold lookC lowered
  induction rests with
  | nil => rfl
  | cons e r ih =>
    rw [List.map_cons, List.find?_cons, List.find?_cons]
    have e1 : (if e.1 ∈ ks then (e.1, e.2 - price) else e).1 = e.1 := by split <;> rfl
    rw [e1]
    by_cases h : e.1 = k
    · simp only [h, decide_true, Option.map_some]
      by_cases h2 : k ∈ ks <;> simp [h2]
    · simp only [h, decide_false]
      exact ih

theorem lowered_snoc {rests : Cs} {ks : List Pr} {k : Pr} {price c : Int} (hn : (keysC rests).Nodup) (hk : k ∉ ks) (hc : lookC rests k = some c) : putC (lowered rests ks price) k (c - price) = lowered rests (ks ++ [k]) price := by
  have hin : k ∈ keysC (lowered rests ks price) := by rw [keys_lowered]; exact List.mem_map.mpr ⟨_, look_some_mem hc, rfl⟩
  unfold putC
  rw [if_pos]
  · unfold lowered
    rw [List.map_map]
    apply List.map_congr_left
    intro e he
    simp only [Function.comp]
    have e1 : (if e.1 ∈ ks then (e.1, e.2 - price) else e).1 = e.1 := by split <;> rfl
    rw [e1]
    by_cases h : e.1 = k
    · have hem : (k, e.2) ∈ rests := by rw [← h]; exact he
      have h2 := look_mem hn hem
      rw [hc] at h2
      have h3 : c = e.2 := Option.some.inj h2
      simp [h, h3]
    · simp [h]
  · obtain ⟨e, he, e2⟩ := List.mem_map.mp hin
    exact List.any_eq_true.mpr ⟨e, he, decide_eq_true e2⟩
theorem entering_mem {rests : Cs} {g : Grp} {k : Pr} (h : k ∈ entering rests g) : k ∈ keysC rests := (List.mem_filter.mp h).1
theorem entering_cost {rests : Cs} {g : Grp} {k : Pr} (hn : (keysC rests).Nodup) (h : k ∈ entering rests g) : lookC rests k = some (costOf rests k) := by
  obtain ⟨e, he, e2⟩ := List.mem_map.mp (entering_mem h)
  have : lookC rests k = some e.2 := look_mem hn (by rw [← e2]; exact he)
  unfold costOf
  rw [this]
  rfl
theorem entering_nodup {rests : Cs} {g : Grp} (hn : (keysC rests).Nodup) : (entering rests g).Nodup := hn.sublist List.filter_sublist
theorem paired_of {α β : Type} {F : α → β → Prop} : ∀ {l₁ : List α} {l₂ : List β}, l₁.length = l₂.length → (∀ (i : Nat) a b, l₁[i]? = some a → l₂[i]? = some b → F a b) → Paired F l₁ l₂
  | [], [], _, _ => .nil
  | [], _ :: _, h, _ => by simp at h
  | _ :: _, [], h, _ => by simp at h
  | a :: l₁, b :: l₂, h, k => .cons (k 0 a b rfl rfl) (paired_of (by simpa using h) fun i x y hx hy => k (i + 1) x y (by simpa using hx) (by simpa using hy))
theorem not_mem_take {α : Type} {l : List α} (hn : l.Nodup) {i : Nat} {x : α} (h : l[i]? = some x) : x ∉ l.take i := by
  intro hk
  obtain ⟨j, hj, e3⟩ := List.mem_iff_getElem.mp hk
  rw [List.length_take] at hj
  rw [List.getElem_take] at e3
  have hi : i < l.length := (List.getElem?_eq_some_iff.mp h).1
  have h1 : l[j]? = some x := by rw [List.getElem?_eq_getElem (by lia), e3]
  have := (List.getElem?_inj (by lia) hn).mp (h1.trans h.symm)
  lia

structure PrObj (C1 : Addr) (H : Hp) (p d s q : Addr) (lv : V) : Prop where
  ob : ∃ dx fs, H p = some (.ins C1 dx fs) ∧ fs.lookup ("rests" : Str) = some (.ref d) ∧ fs.lookup ("spent" : Str) = some (.ref s) ∧ fs.lookup ("prices" : Str) = some (.ref q) ∧ fs.lookup ("lonely" : Str) = some lv ∧
    (∀ m : Str, m ≠ "rests" → m ≠ "spent" → m ≠ "prices" → m ≠ "lonely" → fs.lookup m = none) ∧ fs.length ≤ 100

noncomputable def PriceRefs (N : Addr → Prop) (H : Hp) (s q : Addr) : List V → List (Grp × Int) → Prop := Paired fun y p => ∃ b l, y = V.ref b ∧ H b = some (.tup [.ref l, .int p.2]) ∧ H l = some (.lst (p.1.map V.int)) ∧ l ≠ s ∧ l ≠ q ∧ N l
noncomputable def LonelyAt (N : Addr → Prop) (H : Hp) (s q : Addr) (lv : V) : Option Grp → Prop
  | none => lv = .non
  | some g => ∃ l, lv = .ref l ∧ H l = some (.lst (g.map V.int)) ∧ l ≠ s ∧ l ≠ q ∧ N l
theorem length_putF_old (f : Str) (v : V) : ∀ fs : List (Str × V), (fs.lookup f).isSome = true → (putF f v fs).length = fs.length
  | [], h => by cases h
  | (k, x) :: r, h => by
    unfold putF
    by_cases e : k = f
    · rw [if_pos e]; rfl
    · rw [if_neg e]
      have hb : (f == k) = false := beq_false_of_ne fun z => e z.symm
      simp only [List.lookup, hb] at h
      rw [List.length_cons, List.length_cons, length_putF_old f v r h]
structure PrAt (N : Addr → Prop) (C1 : Addr) (H : Hp) (p d s q : Addr) (st : PSt) : Prop where
  ob : ∃ lv, PrObj C1 H p d s q lv ∧ LonelyAt N H s q lv st.lonely
  dc : H d = some (.dT (enc st.rests))
  sp : ∃ rs, H s = some (.lst rs) ∧ TupRefs H rs (st.spent.map two)
  pr : ∃ qs, H q = some (.lst qs) ∧ PriceRefs N H s q qs st.prices
  ne : s ≠ q

noncomputable def KeepP (p d s q : Addr) (H H' : Hp) : Prop := ∀ b o, H b = some o → b ≠ p → b ≠ d → b ≠ s → b ≠ q → H' b = some o
inductive sp_charge (C1 : Addr) (vs : List V) (H : Hp) (Q : VK) (E : XK) : Prop
  | mk (N : Addr → Prop) (p d s q l : Addr) (st : PSt) (g : Grp) (n : Nat) (h09 : vs = [.ref p, .ref l]) (h19 : PrAt N C1 H p d s q st) (h29 : H l = some (.lst (g.map V.int))) (h39 : l ≠ s) (h49 : l ≠ q) (h59 : N l) (h69 : (keysC st.rests).Nodup) (h79 : st.rests.length ≤ 200) (h89 : st.spent.length ≤ n * 200) (h99 : st.prices.length ≤ n) (h109 : n ≤ 1000) (h119 : g.length ≤ 100) (h129 : ∀ H', PrAt N C1 H' p d s q (chargeF st g) → KeepP p d s q H H' → Q .non H') : sp_charge C1 vs H Q E
theorem inV_int (i : Int) (g : List Int) : inV (.int i) (g.map V.int) = decide (i ∈ g) := by
  unfold inV
  rw [List.any_map]
  rw [Bool.eq_iff_iff, List.any_eq_true, decide_eq_true_eq]
  constructor
  · rintro ⟨x, hx, h⟩
    have : x = i := by simpa [eqV, Function.comp] using h
    exact this ▸ hx
  · intro h
    exact ⟨i, h, by simp [eqV, Function.comp]⟩
theorem flat_ints (g : List Int) : (g.map V.int).all flatV = true := by
  rw [List.all_map, List.all_eq_true]
  intro x _
  rfl
theorem keyRefs_get {H : Hp} {cs : Cs} {bs : List V} (kr : KeyRefs H (enc cs) bs) {i : Nat} {x : V} (h : bs[i]? = some x) : ∃ b e, x = .ref b ∧ cs[i]? = some e ∧ H b = some (.tup [.int e.1.1, .int e.1.2]) := by
  have hl : (enc cs).length = bs.length := Paired.length kr
  have hi : i < cs.length := by rw [← enc_len, hl]; exact (List.getElem?_eq_some_iff.mp h).1
  obtain ⟨y, hy, b, e1, e2⟩ := paired_get kr (i := i) (a := (encK cs[i].1, V.int cs[i].2)) (by unfold enc; rw [List.getElem?_map, List.getElem?_eq_getElem hi]; rfl)
  rw [h] at hy
  cases hy
  exact ⟨b, cs[i], e1, List.getElem?_eq_getElem hi, e2⟩
theorem take_filter_succ {α : Type} {l : List α} {i : Nat} {x : α} (p : α → Bool) (h : l[i]? = some x) : (l.take (i + 1)).filter p = (l.take i).filter p ++ (if p x = true then [x] else []) := by
  rw [List.take_add_one, h, List.filter_append]
  congr 1
  simp only [Option.toList, List.filter_cons, List.filter_nil]

theorem PrAt.move {N : Addr → Prop} {C1 : Addr} {H H' : Hp} {p d s q : Addr} {st : PSt} (x : PrAt N C1 H p d s q st) (k : Same H H') : PrAt N C1 H' p d s q st := by
  obtain ⟨⟨lv, ⟨dx, fs, h1, h2⟩, h3⟩, dc, ⟨rs, h4, h5⟩, ⟨qs, h6, h7⟩, ne⟩ := x
  refine ⟨⟨lv, ⟨dx, fs, k _ _ h1, h2⟩, ?_⟩, k _ _ dc, ⟨rs, k _ _ h4, h5.same k⟩, ⟨qs, k _ _ h6, Paired.mapP h7 fun _ _ hh9 => by obtain ⟨b, l, e, a1, a2, a3⟩ := hh9; exact ⟨b, l, e, k _ _ a1, k _ _ a2, a3⟩⟩, ne⟩
  cases hl : st.lonely with
  | none => rw [hl] at h3; exact h3
  | some g =>
    rw [hl] at h3
    obtain ⟨l, e, a1, a2⟩ := h3
    exact ⟨l, e, k _ _ a1, a2⟩
theorem LonelyAt.keep {N : Addr → Prop} {H H' : Hp} {s q : Addr} {lv : V} {o : Option Grp} (x : LonelyAt N H s q lv o) (k : ∀ b xs, H b = some (.lst xs) → b ≠ s → b ≠ q → H' b = some (.lst xs)) : LonelyAt N H' s q lv o := by
  cases o with
  | none => exact x
  | some g => obtain ⟨l, e, a1, a2, a3, a4⟩ := x; exact ⟨l, e, k _ _ a1 a2 a3, a2, a3, a4⟩
theorem PriceRefs.keep {N : Addr → Prop} {H H' : Hp} {s q : Addr} {vs : List V} {ps : List (Grp × Int)} (x : PriceRefs N H s q vs ps) (k : ∀ b xs, H b = some (.lst xs) → b ≠ s → b ≠ q → H' b = some (.lst xs)) (kt : ∀ b xs, H b = some (.tup xs) → H' b = some (.tup xs)) : PriceRefs N H' s q vs ps :=
  Paired.mapP x fun _ _ hh9 => by obtain ⟨b, l, e, a1, a2, a3, a4, a5⟩ := hh9; exact ⟨b, l, e, kt _ _ a1, k _ _ a2 a3 a4, a3, a4, a5⟩
theorem PrAt.putD {N : Addr → Prop} {C1 : Addr} {H : Hp} {p d s q : Addr} {st : PSt} (x : PrAt N C1 H p d s q st) (rests : Cs) : PrAt N C1 (upd H d (.dT (enc rests))) p d s q { st with rests := rests } := by
  obtain ⟨⟨lv, ⟨dx, fs, h1, h2⟩, h3⟩, dc, ⟨rs, h4, h5⟩, ⟨qs, h6, h7⟩, ne⟩ := x
  have kl : ∀ b xs, H b = some (.lst xs) → upd H d (.dT (enc rests)) b = some (.lst xs) := fun b xs e => by rw [upd_ne (ne_of e dc (fun z => nomatch z))]; exact e
  have kt : ∀ b xs, H b = some (.tup xs) → upd H d (.dT (enc rests)) b = some (.tup xs) := fun b xs e => by rw [upd_ne (ne_of e dc (fun z => nomatch z))]; exact e
  exact ⟨⟨lv, ⟨dx, fs, by rw [upd_ne (ne_of h1 dc (fun z => nomatch z))]; exact h1, h2⟩, h3.keep fun b xs e _ _ => kl b xs e⟩, upd_same, ⟨rs, kl _ _ h4, h5.keeps kt⟩, ⟨qs, kl _ _ h6, h7.keep (fun b xs e _ _ => kl b xs e) kt⟩, ne⟩
theorem PrAt.addS {N : Addr → Prop} {C1 : Addr} {H : Hp} {p d s q : Addr} {st : PSt} (x : PrAt N C1 H p d s q st) {rs : List V} {b : Addr} {k : Pr} (hs : H s = some (.lst rs)) (hb : H b = some (.tup [.int k.1, .int k.2])) : PrAt N C1 (upd H s (.lst (rs ++ [.ref b]))) p d s q { st with spent := st.spent ++ [k] } := by
  obtain ⟨⟨lv, ⟨dx, fs, h1, h2⟩, h3⟩, dc, ⟨rs', h4, h5⟩, ⟨qs, h6, h7⟩, ne⟩ := x
  rw [hs] at h4
  cases h4
  have kt : ∀ b' xs, H b' = some (.tup xs) → upd H s (.lst (rs ++ [.ref b])) b' = some (.tup xs) := fun b' xs e => by rw [upd_ne (ne_of e hs (fun z => nomatch z))]; exact e
  refine ⟨⟨lv, ⟨dx, fs, by rw [upd_ne (ne_of h1 hs (fun z => nomatch z))]; exact h1, h2⟩, h3.keep fun b xs e hb _ => by rw [upd_ne hb]; exact e⟩, by rw [upd_ne (ne_of dc hs (fun z => nomatch z))]; exact dc, ⟨_, upd_same, ?_⟩, ⟨qs, by rw [upd_ne ne.symm]; exact h6, h7.keep (fun b xs e hb _ => by rw [upd_ne hb]; exact e) kt⟩, ne⟩
  rw [List.map_append]
  exact TupRefs.snoc (h5.keeps kt) (kt _ _ hb)
theorem PrAt.addQ {N : Addr → Prop} {C1 : Addr} {H : Hp} {p d s q : Addr} {st : PSt} (x : PrAt N C1 H p d s q st) {qs : List V} {t l : Addr} {g : Grp} {c : Int} (hq : H q = some (.lst qs)) (ht : H t = some (.tup [.ref l, .int c])) (hl : H l = some (.lst (g.map V.int))) (h1l : l ≠ s) (h2l : l ≠ q) (h3l : N l) : PrAt N C1 (upd H q (.lst (qs ++ [.ref t]))) p d s q { st with prices := st.prices ++ [(g, c)] } := by
  obtain ⟨⟨lv, ⟨dx, fs, h1, h2⟩, h3⟩, dc, ⟨rs, h4, h5⟩, ⟨qs', h6, h7⟩, ne⟩ := x
  rw [hq] at h6
  cases h6
  have kt : ∀ b' xs, H b' = some (.tup xs) → upd H q (.lst (qs ++ [.ref t])) b' = some (.tup xs) := fun b' xs e => by rw [upd_ne (ne_of e hq (fun z => nomatch z))]; exact e
  refine ⟨⟨lv, ⟨dx, fs, by rw [upd_ne (ne_of h1 hq (fun z => nomatch z))]; exact h1, h2⟩, h3.keep fun b xs e _ hb => by rw [upd_ne hb]; exact e⟩, by rw [upd_ne (ne_of dc hq (fun z => nomatch z))]; exact dc, ⟨rs, by rw [upd_ne ne]; exact h4, h5.keeps kt⟩, ⟨_, upd_same, ?_⟩, ne⟩
  exact paired_snoc (h7.keep (fun b xs e _ hb => by rw [upd_ne hb]; exact e) kt) ⟨t, l, rfl, kt _ _ ht, by rw [upd_ne h2l]; exact hl, h1l, h2l, h3l⟩
theorem fld_p {K : PySem.W.Frag} {C1 : Addr} {H : Hp} {p d s q : Addr} {lv : V} {f : Str} {v : V} {R : V → Prop} (x : PrObj C1 H p d s q lv) (cl : Cls K C1) (na : NoAttr K C1 f) (hf : (f = "rests" ∧ v = .ref d) ∨ (f = "spent" ∧ v = .ref s) ∨ (f = "prices" ∧ v = .ref q) ∨ (f = "lonely" ∧ v = lv)) (k : R v) :
    ∃ a C dx fs v, V.ref p = .ref a ∧ H a = some (.ins C dx fs) ∧ Cls K C ∧ NoAttr K C f ∧ fs.lookup f = some v ∧ R v := by
  obtain ⟨dx, fs, h1, h2, h3, h4, h5, _⟩ := x.ob
  refine ⟨p, C1, dx, fs, v, rfl, h1, cl, na, ?_, k⟩
  rcases hf with ⟨rfl, rfl⟩ | ⟨rfl, rfl⟩ | ⟨rfl, rfl⟩ | ⟨rfl, rfl⟩ <;> assumption
structure TxtP (K : PySem.W.Frag) (mg : Str → Option Value) (C1 : Addr) : Prop where
  cl : Cls K C1
  aR : NoAttr K C1 "rests"
  aS : NoAttr K C1 "spent"
  aP : NoAttr K C1 "prices"
  aL : NoAttr K C1 "lonely"
inductive sp_initP (C1 : Addr) (vs : List V) (H : Hp) (Q : VK) (E : XK) : Prop
  | mk (p dx l : Addr) (rs : List V) (cs : Cs) (h09 : vs = [.ref p, .ref l]) (h19 : H p = some (.ins C1 dx [])) (h29 : H l = some (.lst rs)) (h39 : TupRefs H rs (cs.map tri)) (h49 : (keysC cs).Nodup) (h59 : cs.length ≤ 200) (h69 : ∀ (d s q : Addr) (H' : Hp), H d = none → H s = none → H q = none → (∀ N, PrAt N C1 H' p d s q ⟨cs, [], [], none⟩) → (∀ b o, H b = some o → b ≠ p → H' b = some o) → Q .non H') : sp_initP C1 vs H Q E
end Hw

set_option maxHeartbeats 1000000

namespace Hw
open PySem L2 HwSort
inductive Reach (spent : List Pr) (t : Int) : Int → Prop
  | base : Reach spent t t
  | step {a b : Int} : (a, b) ∈ spent → Reach spent t b → Reach spent t a
open Classical in
noncomputable def behindF (n : Nat) (spent : List Pr) (t : Int) : Grp := ((List.range n).map Int.ofNat).filter fun a => decide (Reach spent t a)
noncomputable def intoF (n : Nat) (spent : List Pr) : List (List Int) := (List.range n).map fun (o : Nat) => (spent.filter fun k => decide (k.2 = (o : Int))).map (·.1)
theorem nodup_len {α : Type} [DecidableEq α] : ∀ {l m : List α}, l.Nodup → (∀ x ∈ l, x ∈ m) → l.length ≤ m.length
  | [], m, _, _ => Nat.zero_le _
  | a :: r, m, hn, hs => by
    obtain ⟨h1, h2⟩ := List.nodup_cons.mp hn
    have ha : a ∈ m := hs a (List.mem_cons_self ..)
    have ih := nodup_len (l := r) (m := m.erase a) h2 fun x hx => by
      have hne : x ≠ a := fun e => h1 (e ▸ hx)
      exact (List.mem_erase_of_ne hne).mpr (hs x (List.mem_cons_of_mem _ hx))
    rw [List.length_erase_of_mem ha] at ih
    have : 0 < m.length := List.length_pos_of_mem ha
    rw [List.length_cons]
    lia
theorem mem_tellers {n : Nat} {a : Int} : a ∈ (List.range n).map Int.ofNat ↔ 0 ≤ a ∧ a < n := by
  rw [List.mem_map]
  constructor
  · rintro ⟨k, hk, rfl⟩
    have := List.mem_range.mp hk
    exact ⟨Int.natCast_nonneg _, by show (k : Int) < n; lia⟩
  · rintro ⟨h1, h2⟩
    exact ⟨a.toNat, List.mem_range.mpr (by lia), Int.toNat_of_nonneg h1⟩
theorem nodup_tellers {n : Nat} {l : List Int} (hn : l.Nodup) (h : ∀ a ∈ l, 0 ≤ a ∧ a < n) : l.length ≤ n := by
  have := nodup_len hn (m := (List.range n).map Int.ofNat) fun x hx => mem_tellers.mpr (h x hx)
  simpa using this
theorem tellers_rise (n : Nat) : ((List.range n).map Int.ofNat).Pairwise (· < ·) := by
  rw [List.pairwise_map]
  exact List.pairwise_lt_range.imp fun h => by show (_ : Int) < _; exact Int.ofNat_lt.mpr h
theorem mem_behind {n : Nat} {spent : List Pr} {t a : Int} : a ∈ behindF n spent t ↔ (0 ≤ a ∧ a < n) ∧ Reach spent t a := by
  unfold behindF
  rw [List.mem_filter, mem_tellers]
  simp
theorem behind_rise (n : Nat) (spent : List Pr) (t : Int) : (behindF n spent t).Pairwise (· < ·) := (tellers_rise n).sublist List.filter_sublist
theorem sorted_unique : ∀ {l m : List Int}, l.Pairwise (· < ·) → m.Pairwise (· < ·) → (∀ x, x ∈ l ↔ x ∈ m) → l = m
  | [], [], _, _, _ => rfl
  | [], b :: m, _, _, h => absurd ((h b).mpr (List.mem_cons_self ..)) (by simp)
  | a :: l, [], _, _, h => absurd ((h a).mp (List.mem_cons_self ..)) (by simp)
  | a :: l, b :: m, h1, h2, h => by
    obtain ⟨a1, a2⟩ := List.pairwise_cons.mp h1
    obtain ⟨b1, b2⟩ := List.pairwise_cons.mp h2
    have hab : a = b := by
      rcases List.mem_cons.mp ((h a).mp (List.mem_cons_self ..)) with e | e
      · exact e
      · rcases List.mem_cons.mp ((h b).mpr (List.mem_cons_self ..)) with e2 | e2
        · exact e2.symm
        · have := b1 a e
          have := a1 b e2
          lia
    subst hab
    congr 1
    refine sorted_unique a2 b2 fun x => ?_
    constructor
    · intro hx
      rcases List.mem_cons.mp ((h x).mp (List.mem_cons_of_mem _ hx)) with e | e
      · have := a1 x hx
        lia
      · exact e
    · intro hx
      rcases List.mem_cons.mp ((h x).mpr (List.mem_cons_of_mem _ hx)) with e | e
      · have := b1 x hx
        lia
      · exact e
theorem lt_of_le_nodup : ∀ {l : List Int}, l.Pairwise (· ≤ ·) → l.Nodup → l.Pairwise (· < ·)
  | [], _, _ => .nil
  | a :: r, h, hn => by
    obtain ⟨a1, a2⟩ := List.pairwise_cons.mp h
    obtain ⟨n1, n2⟩ := List.nodup_cons.mp hn
    refine List.pairwise_cons.mpr ⟨fun x hx => ?_, lt_of_le_nodup a2 n2⟩
    have h1 := a1 x hx
    have h2 : a ≠ x := fun e => n1 (e ▸ hx)
    lia
theorem nil_or_snoc {α : Type} (l : List α) : l = [] ∨ ∃ (r : List α) (b : α), l = r ++ [b] := by
  rcases List.eq_nil_or_concat l with h | ⟨r, b, h⟩
  · exact .inl h
  · exact .inr ⟨r, b, by rw [h, List.concat_eq_append]⟩

structure FInv (n : Nat) (spent : List Pr) (t : Int) (ks ws : List Int) : Prop where
  nd : ks.Nodup
  ok : ∀ a ∈ ks, (0 ≤ a ∧ a < n) ∧ Reach spent t a
  sub : ∀ a ∈ ws, a ∈ ks
  tt : t ∈ ks
  cl : ∀ b ∈ ks, b ∉ ws → ∀ a, (a, b) ∈ spent → a ∈ ks
theorem FInv.done {n : Nat} {spent : List Pr} {t : Int} {ks : List Int} (x : FInv n spent t ks []) {l : List Int} (pm : l.Perm ks) (pw : l.Pairwise (· ≤ ·)) : l = behindF n spent t := by
  refine sorted_unique (lt_of_le_nodup pw (pm.nodup_iff.mpr x.nd)) (behind_rise n spent t) fun a => ?_
  rw [pm.mem_iff, mem_behind]
  constructor
  · exact x.ok a
  · rintro ⟨h0, h⟩
    clear h0
    induction h with
    | base => exact x.tt
    | step h1 _ ih => exact x.cl _ ih (by simp) _ h1
theorem mem_into {n : Nat} {spent : List Pr} {a b : Int} : a ∈ (spent.filter fun k => decide (k.2 = b)).map (·.1) ↔ (a, b) ∈ spent := by
  rw [List.mem_map]
  constructor
  · rintro ⟨k, hk, rfl⟩
    obtain ⟨h1, h2⟩ := List.mem_filter.mp hk
    have : k.2 = b := of_decide_eq_true h2
    rw [← this]
    exact h1
  · intro h
    exact ⟨(a, b), List.mem_filter.mpr ⟨h, by simp⟩, rfl⟩
theorem valV_ints {kvs : List (Key × V)} {ks : List Int} (h : kvs.map (·.1) = ks.map Sum.inl) (x : Int) : (valV kvs (Sum.inl x)).isSome = decide (x ∈ ks) := by
  cases e : valV kvs (Sum.inl x) with
  | none =>
    have := valV_not e
    rw [h] at this
    have hx : x ∉ ks := fun hx => this (List.mem_map.mpr ⟨x, hx, rfl⟩)
    simp [hx]
  | some v =>
    have := valV_in e
    rw [h] at this
    obtain ⟨y, hy, e2⟩ := List.mem_map.mp this
    cases e2
    simp [hy]
structure SpOk (n : Nat) (spent : List Pr) : Prop where
  ok : ∀ k ∈ spent, (0 ≤ k.1 ∧ k.1 < n) ∧ (0 ≤ k.2 ∧ k.2 < n)
  len : spent.length ≤ 1000
inductive sp_behind (vs : List V) (H : Hp) (Q : VK) (E : XK) : Prop
  | mk (a : Addr) (bs : List V) (n : Nat) (spent : List Pr) (t : Int) (h09 : vs = [.ref a, .int t]) (h19 : H a = some (.lst bs)) (h29 : ListRefs H bs (intoF n spent)) (h39 : 0 ≤ t) (h49 : t < n) (h59 : n ≤ 12) (h69 : SpOk n spent) (h79 : ∀ l H', Same H H' → H l = none → H' l = some (.lst ((behindF n spent t).map V.int)) → Q (.ref l) H') : sp_behind vs H Q E
theorem eqv_nil (ns : List Int) : PyData.eqv (.list (ns.map PyData.int)) (.list []) = ns.isEmpty := by cases ns <;> rfl
theorem lay_ints (ns : List Int) : PyData.canLay0 (.list (ns.map PyData.int)) = true := by
  show PyData.canLayAll0 _ = true
  induction ns with
  | nil => rfl
  | cons a r ih => rw [List.map_cons]; show (PyData.canLay0 (.int a) && PyData.canLayAll0 _) = true; rw [ih]; rfl
theorem depth_ints (ns : List Int) : PyData.depth (.list (ns.map PyData.int)) ≤ 1 := by
  show PyData.depthAll _ + 1 ≤ 1
  induction ns with
  | nil => exact Nat.le_refl _
  | cons a r ih => rw [List.map_cons]; show max (PyData.depth (.int a)) (PyData.depthAll _) + 1 ≤ 1; show max 0 (PyData.depthAll _) + 1 ≤ 1; lia
theorem reps_ints {H : Hp} : ∀ ns : List Int, DReps H (ns.map V.int) (ns.map PyData.int)
  | [] => .nil
  | _ :: r => .cons (.int _) (reps_ints r)
end Hw

set_option maxHeartbeats 1000000

namespace Hw
open PySem L2 HwSort
noncomputable def firstMin : List Grp → Option Grp
  | [] => none
  | g :: r => match firstMin r with
    | none => some g
    | some h => if g.length ≤ h.length then some g else some h
theorem firstMin_mem : ∀ {L : List Grp} {g : Grp}, firstMin L = some g → g ∈ L
  | [], _, h => by cases h
  | a :: r, g, h => by
    unfold firstMin at h
    split at h
    · cases h; exact List.mem_cons_self ..
    · next h0 e =>
      split at h
      · cases h; exact List.mem_cons_self ..
      · cases h; exact List.mem_cons_of_mem _ (firstMin_mem e)
theorem firstMin_none : ∀ {L : List Grp}, firstMin L = none → L = []
  | [], _ => rfl
  | a :: r, h => by
    unfold firstMin at h
    split at h
    · cases h
    · split at h <;> cases h
theorem firstMin_le : ∀ {L : List Grp} {g : Grp}, firstMin L = some g → ∀ h ∈ L, g.length ≤ h.length
  | [], _, e, _, _ => by cases e
  | a :: r, g, e, h, hh => by
    unfold firstMin at e
    split at e
    · next e0 =>
      cases e
      have := firstMin_none e0
      subst this
      rw [List.mem_singleton.mp hh]
      exact Nat.le_refl _
    · next h0 e0 =>
      have ih := firstMin_le e0
      split at e
      · next hl =>
        cases e
        rcases List.mem_cons.mp hh with rfl | hh
        · exact Nat.le_refl _
        · exact Nat.le_trans hl (ih h hh)
      · next hl =>
        cases e
        rcases List.mem_cons.mp hh with rfl | hh
        · lia
        · exact ih h hh
theorem firstMin_at : ∀ {L : List Grp} {i : Nat} {g : Grp}, L[i]? = some g → (∀ (j : Nat) ms, L[j]? = some ms → g.length ≤ ms.length ∧ (j < i → g.length < ms.length)) → firstMin L = some g
  | [], i, g, h, _ => by simp at h
  | a :: r, 0, g, h, k => by
    simp only [List.getElem?_cons_zero, Option.some.injEq] at h
    subst h
    unfold firstMin
    split
    · rfl
    · next h0 e =>
      obtain ⟨j, hj⟩ := List.mem_iff_getElem?.mp (firstMin_mem e)
      rw [if_pos (k (j + 1) h0 (by simpa using hj)).1]
  | a :: r, i + 1, g, h, k => by
    have ih := firstMin_at (L := r) (i := i) (g := g) (by simpa using h) fun j ms hj => ⟨(k (j + 1) ms (by simpa using hj)).1, fun hji => (k (j + 1) ms (by simpa using hj)).2 (by lia)⟩
    unfold firstMin
    rw [ih]
    have := (k 0 a rfl).2 (Nat.succ_pos _)
    simp only
    rw [if_neg (by lia)]
noncomputable def groupsF (n : Nat) (spent : List Pr) : List Grp := (List.range (n - 1)).map fun (i : Nat) => behindF n spent (1 + (i : Int))
noncomputable def cutF (n : Nat) (spent : List Pr) : Option Grp := firstMin ((groupsF n spent).filter fun g => !decide (g.headD 0 = 0))
theorem intoF_len (n : Nat) (spent : List Pr) : (intoF n spent).length = n := by simp [intoF]
theorem intoF_nil (n : Nat) : intoF n [] = List.replicate n [] := by
  unfold intoF
  simp [List.map_const']

theorem intoF_snoc {n : Nat} {spent : List Pr} {k : Pr} (h : 0 ≤ k.2 ∧ k.2 < n) : intoF n (spent ++ [k]) = (intoF n spent).set k.2.toNat ((intoF n spent).getD k.2.toNat [] ++ [k.1]) := by
  have hk : ((k.2.toNat : Nat) : Int) = k.2 := Int.toNat_of_nonneg h.1
  have hlt : k.2.toNat < n := by lia
  apply List.ext_getElem?
  intro i
  rw [List.getElem?_set, intoF_len]
  unfold intoF
  by_cases hi : i < n
  · rw [List.getElem?_map, List.getElem?_range hi]
    by_cases hik : k.2.toNat = i
    · subst hik
      rw [if_pos rfl, if_pos hlt]
      simp only [Option.map_some]
      congr 1
      rw [List.filter_append, List.map_append]
      have e1 : (List.map (fun (o : Nat) => (spent.filter fun k => decide (k.2 = (o : Int))).map (·.1)) (List.range n)).getD k.2.toNat [] = (spent.filter fun k' => decide (k'.2 = ((k.2.toNat : Nat) : Int))).map (·.1) := by
        simp [List.getD, hlt]
      rw [e1]
      congr 1
      simp [hk]
    · rw [if_neg hik, List.getElem?_map, List.getElem?_range hi]
      simp only [Option.map_some]
      congr 1
      rw [List.filter_append, List.map_append]
      have : ¬ k.2 = (i : Int) := by lia
      simp [this]
  · rw [List.getElem?_eq_none (by simp; lia), if_neg (by lia), List.getElem?_eq_none (by simp; lia)]

structure IntoAt (H : Hp) (a : Addr) (cs : List Addr) (L : List (List Int)) : Prop where
  ar : H a = some (.lst (cs.map V.ref))
  nd : cs.Nodup
  len : cs.length = L.length
  it : ∀ (i : Nat) c l, cs[i]? = some c → L[i]? = some l → H c = some (.lst (l.map V.int))
  na : a ∉ cs
theorem IntoAt.refs {H : Hp} {a : Addr} {cs : List Addr} {L : List (List Int)} (x : IntoAt H a cs L) : ListRefs H (cs.map V.ref) L := by
  refine paired_of (by rw [List.length_map]; exact x.len) fun i v l hv hl => ?_
  rw [List.getElem?_map] at hv
  cases e : cs[i]? with
  | none => rw [e] at hv; cases hv
  | some c => rw [e] at hv; exact ⟨c, (Option.some.inj hv).symm, x.it i c l e hl⟩
theorem IntoAt.add {H : Hp} {a : Addr} {cs : List Addr} {L : List (List Int)} (x : IntoAt H a cs L) {i : Nat} {c : Addr} {l : List Int} (v : Int) (hc : cs[i]? = some c) (hl : L[i]? = some l) : IntoAt (upd H c (.lst ((l ++ [v]).map V.int))) a cs (L.set i (l ++ [v])) := by
  have hac : a ≠ c := fun e => x.na (e ▸ List.mem_of_getElem? hc)
  refine ⟨by rw [upd_ne hac]; exact x.ar, x.nd, by rw [List.length_set]; exact x.len, fun j c' l' h1 h2 => ?_, x.na⟩
  by_cases hij : i = j
  · subst hij
    rw [hc] at h1
    cases h1
    rw [List.getElem?_set, if_pos rfl, if_pos (List.getElem?_eq_some_iff.mp hl).1] at h2
    cases h2
    exact upd_same
  · rw [List.getElem?_set, if_neg hij] at h2
    have hne : c' ≠ c := fun e => by
      subst e
      have := (List.getElem?_inj (List.getElem?_eq_some_iff.mp hc).1 x.nd).mp (hc.trans h1.symm)
      exact hij this
    rw [upd_ne hne]
    exact x.it j c' l' h1 h2
inductive sp_cut (vs : List V) (H : Hp) (Q : VK) (E : XK) : Prop
  | mk (n : Nat) (s : Addr) (rs : List V) (spent : List Pr) (h09 : vs = [.int n, .ref s]) (h19 : H s = some (.lst rs)) (h29 : TupRefs H rs (spent.map two)) (h39 : SpOk n spent) (h49 : 1 ≤ n) (h59 : n ≤ 12) (h69 : (cutF n spent = none → ∀ H', Same H H' → Q .non H')) (h79 : ∀ G l H', cutF n spent = some G → Same H H' → H l = none → H' l = some (.lst (G.map V.int)) → Q (.ref l) H') : sp_cut vs H Q E
end Hw

set_option maxHeartbeats 1000000

namespace Hw
open PySem L2 HwSort
structure PI (n : Nat) (st : PSt) : Prop where
  nd : (keysC st.rests).Nodup
  ok : ∀ k ∈ keysC st.rests, Ok2 n k.1 k.2
  len : st.rests.length ≤ 144
  nn : ∀ e ∈ st.rests, 0 ≤ e.2
  snd : st.spent.Nodup
  ssub : ∀ k ∈ st.spent, k ∈ keysC st.rests
theorem PI.spl {n : Nat} {st : PSt} (x : PI n st) : st.spent.length ≤ st.rests.length := by
  have := nodup_len x.snd x.ssub
  rwa [keys_len] at this
theorem PI.so {n : Nat} {st : PSt} (x : PI n st) : SpOk n st.spent := by
  refine ⟨fun k hk => ?_, ?_⟩
  · obtain ⟨h1, h2, h3, h4, _, _⟩ := x.ok k (x.ssub k hk)
    exact ⟨⟨h1, h2⟩, ⟨h3, h4⟩⟩
  · have := x.spl
    have := x.len
    lia
theorem mem_lowered {rests : Cs} {ks : List Pr} {price : Int} {e : Pr × Int} (h : e ∈ lowered rests ks price) : ∃ c, (e.1, c) ∈ rests ∧ e.2 = if e.1 ∈ ks then c - price else c := by
  unfold lowered at h
  obtain ⟨x, hx, rfl⟩ := List.mem_map.mp h
  by_cases hk : x.1 ∈ ks
  · simp only [hk, if_true]
    exact ⟨x.2, hx, rfl⟩
  · simp only [hk, if_false]
    exact ⟨x.2, hx, rfl⟩
theorem price_le {rests : Cs} {g : Grp} {k : Pr} (h : k ∈ entering rests g) : priceOf rests g ≤ costOf rests k := minI_le _ (List.mem_map_of_mem h)
theorem price_at {rests : Cs} {g : Grp} (h : entering rests g ≠ []) : ∃ k ∈ entering rests g, costOf rests k = priceOf rests g := by
  have : priceOf rests g ∈ (entering rests g).map (costOf rests) := minI_mem (by simpa using h)
  obtain ⟨k, hk, e⟩ := List.mem_map.mp this
  exact ⟨k, hk, e⟩
theorem charge_PI {n : Nat} {st : PSt} {g : Grp} (x : PI n st) (hs : ∀ k ∈ st.spent, entersB g k = false) : PI n (chargeF st g) := by
  refine ⟨by rw [keys_charge]; exact x.nd, fun k hk => x.ok k (by rwa [keys_charge] at hk), ?_, fun e he => ?_, ?_, fun k hk => ?_⟩
  · have := congrArg List.length (keys_charge st g)
    rw [keys_len, keys_len] at this
    rw [this]
    exact x.len
  · unfold chargeF at he
    split at he
    · exact x.nn e he
    · obtain ⟨c, hc, e2⟩ := mem_lowered he
      have h0 := x.nn _ hc
      rw [e2]
      split
      · next hk =>
        have h1 := price_le hk
        have h2 : costOf st.rests e.1 = c := by unfold costOf; rw [look_mem x.nd hc]; rfl
        lia
      · exact h0
  · unfold chargeF
    split
    · exact x.snd
    · rw [List.nodup_append]
      refine ⟨x.snd, (entering_nodup x.nd).sublist List.filter_sublist, fun a ha b hb e => ?_⟩
      subst e
      have h1 := (List.mem_filter.mp (List.mem_filter.mp hb).1).2
      rw [hs a ha] at h1
      cases h1
  · rw [keys_charge]
    unfold chargeF at hk
    split at hk
    · exact x.ssub k hk
    · rcases List.mem_append.mp hk with h | h
      · exact x.ssub k h
      · exact entering_mem (List.mem_filter.mp h).1
theorem charge_more {st : PSt} {g : Grp} (h : entering st.rests g ≠ []) : st.spent.length < (chargeF st g).spent.length := by
  unfold chargeF
  rw [if_neg h, List.length_append]
  obtain ⟨k, hk, e⟩ := price_at h
  have : 0 < ((entering st.rests g).filter fun k => decide (costOf st.rests k = priceOf st.rests g)).length := List.length_pos_of_mem (List.mem_filter.mpr ⟨hk, by simpa using e⟩)
  show st.spent.length < st.spent.length + _
  lia
theorem charge_prices (st : PSt) (g : Grp) : (chargeF st g).prices.length ≤ st.prices.length + 1 := by
  unfold chargeF
  split
  · exact Nat.le_succ _
  · show (if _ then _ else _ : List (Grp × Int)).length ≤ _
    split
    · exact Nat.le_succ _
    · simp
theorem charge_lonely (st : PSt) (g : Grp) : (chargeF st g).lonely = if entering st.rests g = [] then some g else st.lonely := by
  unfold chargeF
  split <;> rfl
theorem cut_some {n : Nat} {spent : List Pr} {G : Grp} (h : cutF n spent = some G) : ∃ t : Int, 1 ≤ t ∧ t < n ∧ G = behindF n spent t ∧ G.headD 0 ≠ 0 := by
  have hm := firstMin_mem h
  obtain ⟨h1, h2⟩ := List.mem_filter.mp hm
  unfold groupsF at h1
  obtain ⟨i, hi, rfl⟩ := List.mem_map.mp h1
  have := List.mem_range.mp hi
  exact ⟨1 + (i : Int), by lia, by lia, rfl, by simpa using h2⟩
theorem cut_closed {n : Nat} {spent : List Pr} {G : Grp} (so : SpOk n spent) (h : cutF n spent = some G) : ∀ k ∈ spent, entersB G k = false := by
  obtain ⟨t, _, _, rfl, _⟩ := cut_some h
  intro k hk
  unfold entersB
  by_cases h1 : k.2 ∈ behindF n spent t
  · have h2 : k.1 ∈ behindF n spent t := by
      rw [mem_behind] at h1 ⊢
      exact ⟨(so.ok k hk).1, .step hk h1.2⟩
    simp [h1, h2]
  · simp [h1]
theorem cut_len {n : Nat} {spent : List Pr} {G : Grp} (h : cutF n spent = some G) : G.length ≤ n := by
  obtain ⟨t, _, _, rfl, _⟩ := cut_some h
  have hr := behind_rise n spent t
  refine nodup_tellers (hr.imp fun h e => by lia) fun a ha => (mem_behind.mp ha).1
inductive Steps (n : Nat) : PSt → PSt → Prop
  | refl (st : PSt) : Steps n st st
  | tail {a b : PSt} {G : Grp} : Steps n a b → cutF n b.spent = some G → b.lonely = none → Steps n a (chargeF b G)
noncomputable def Ended (n : Nat) (st : PSt) : Prop := cutF n st.spent = none ∨ st.lonely ≠ none
noncomputable def singles (n : Nat) : List Grp := (List.range (n - 1)).map fun (i : Nat) => [1 + (i : Int)]
noncomputable def st1 (n : Nat) (cs : Cs) : PSt := (singles n).foldl chargeF ⟨cs, [], [], none⟩
noncomputable def Priced (n : Nat) (cs : Cs) (st : PSt) : Prop := Steps n (st1 n cs) st ∧ Ended n st
theorem steps_head {n : Nat} {a b : PSt} (h : Steps n a b) : a = b ∨ ∃ G, cutF n a.spent = some G ∧ a.lonely = none ∧ Steps n (chargeF a G) b := by
  induction h with
  | refl => exact .inl rfl
  | @tail b G h1 h2 h3 ih =>
    right
    rcases ih with rfl | ⟨G', e1, e2, e3⟩
    · exact ⟨G, h2, h3, .refl _⟩
    · exact ⟨G', e1, e2, .tail e3 h2 h3⟩
theorem steps_trans {n : Nat} {a b c : PSt} (h1 : Steps n a b) (h2 : Steps n b c) : Steps n a c := by
  induction h2 with
  | refl => exact h1
  | tail _ h3 h4 ih => exact .tail ih h3 h4
theorem steps_ended {n : Nat} {a b : PSt} (h : Steps n a b) (he : Ended n a) : b = a := by
  rcases steps_head h with e | ⟨G, e1, e2, _⟩
  · exact e.symm
  · rcases he with h | h
    · rw [h] at e1; cases e1
    · exact absurd e2 h
theorem steps_det {n : Nat} {a b c : PSt} (h1 : Steps n a b) (h2 : Steps n a c) : Steps n b c ∨ Steps n c b := by
  induction h2 with
  | refl => exact .inr h1
  | @tail c G h3 h4 h5 ih =>
    rcases ih with ih | ih
    · exact .inl (.tail ih h4 h5)
    · rcases steps_head ih with rfl | ⟨G', e1, e2, e3⟩
      · exact .inl (.tail (.refl _) h4 h5)
      · rw [h4] at e1
        cases e1
        exact .inr e3
theorem priced_unique {n : Nat} {cs : Cs} {a b : PSt} (h1 : Priced n cs a) (h2 : Priced n cs b) : a = b := by
  rcases steps_det h1.1 h2.1 with h | h
  · exact (steps_ended h h1.2).symm
  · exact steps_ended h h2.2

structure HsOk (n : Nat) (cs : Cs) : Prop where
  nd : (keysC cs).Nodup
  ok : ∀ k ∈ keysC cs, Ok2 n k.1 k.2
  len : cs.length ≤ 144
  nn : ∀ e ∈ cs, 0 ≤ e.2
inductive sp_priced (C1 : Addr) (vs : List V) (H : Hp) (Q : VK) (E : XK) : Prop
  | mk (n : Nat) (l : Addr) (rs : List V) (cs : Cs) (h09 : vs = [.int n, .ref l]) (h19 : H l = some (.lst rs)) (h29 : TupRefs H rs (cs.map tri)) (h39 : HsOk n cs) (h49 : 1 ≤ n) (h59 : n ≤ 12) (h69 : ∀ p d s q st H', Priced n cs st → PI n st → PrAt (fun l => H l = none) C1 H' p d s q st → Same H H' → H p = none → H d = none → H s = none → H q = none → (∀ l', H l' ≠ none → l' ≠ s ∧ l' ≠ q) → Q (.ref p) H') : sp_priced C1 vs H Q E
theorem meth_p {C1 : Addr} {H : Hp} {p d s q : Addr} {lv : V} {m : Str} {A : Prop} (x : PrObj C1 H p d s q lv) (h1 : m ≠ "rests") (h2 : m ≠ "spent") (h3 : m ≠ "prices") (h4 : m ≠ "lonely") (k : A) :
    ∃ a dx fs, V.ref p = .ref a ∧ H a = some (.ins C1 dx fs) ∧ fs.lookup m = none ∧ A := by
  obtain ⟨dx, fs, e, _, _, _, _, f5, _⟩ := x.ob
  exact ⟨p, dx, fs, rfl, e, f5 m h1 h2 h3 h4, k⟩

theorem singles_step {n : Nat} {st : PSt} {i : Nat} (hs : ∀ k ∈ st.spent, k.2 < 1 + (i : Int)) : (∀ k ∈ st.spent, entersB [1 + (i : Int)] k = false) ∧ ∀ k ∈ (chargeF st [1 + (i : Int)]).spent, k.2 < 1 + ((i + 1 : Nat) : Int) := by
  constructor
  · intro k hk
    have := hs k hk
    unfold entersB
    have : ¬ k.2 ∈ [1 + (i : Int)] := by simp; lia
    simp only [this, decide_false, Bool.false_and]
  · intro k hk
    unfold chargeF at hk
    split at hk
    · have := hs k hk
      lia
    · rcases List.mem_append.mp hk with h | h
      · have := hs k h
        lia
      · have h1 := (List.mem_filter.mp (List.mem_filter.mp h).1).2
        unfold entersB at h1
        simp only [Bool.and_eq_true, decide_eq_true_eq] at h1
        have := List.mem_singleton.mp h1.1
        lia
end Hw

set_option maxHeartbeats 1000000

namespace Hw
open PySem L2 HwSort
noncomputable def leadsB (ks : List Int) (k : Pr) : Bool := decide (k.1 ∈ ks) && !decide (k.2 ∈ ks)
noncomputable abbrev Fam := List (Option Int)
noncomputable def growStep (spent : List Pr) (x : Fam × List Int) : Fam × List Int := match spent.find? (leadsB x.2) with
  | some k => (x.1.set k.2.toNat (some k.1), x.2 ++ [k.2])
  | none => x
noncomputable def growI (n : Nat) (spent : List Pr) : Nat → Fam × List Int
  | 0 => (List.replicate n none, [0])
  | i + 1 => growStep spent (growI n spent i)
noncomputable def growF (n : Nat) (spent : List Pr) : Fam := (growI n spent (n - 1)).1
theorem leads_exists {spent : List Pr} {t a : Int} {ks : List Int} (h : Reach spent t a) (ha : a ∈ ks) (ht : t ∉ ks) : ∃ k ∈ spent, leadsB ks k = true := by
  induction h with
  | base => exact absurd ha ht
  | @step a b h1 _ ih =>
    by_cases hb : b ∈ ks
    · exact ih hb
    · exact ⟨(a, b), h1, by simp [leadsB, ha, hb]⟩

structure GInv (n : Nat) (spent : List Pr) (x : Fam × List Int) : Prop where
  nd : x.2.Nodup
  ok : ∀ a ∈ x.2, 0 ≤ a ∧ a < n
  zero : (0 : Int) ∈ x.2
  fl : x.1.length = n
theorem missing {n : Nat} {ks : List Int} (hn : ks.Nodup) (hl : ks.length < n) : ∃ t : Int, (0 ≤ t ∧ t < n) ∧ t ∉ ks := by
  refine Classical.byContradiction fun h => ?_
  have h2 : ∀ x ∈ (List.range n).map Int.ofNat, x ∈ ks := fun x hx => by
    refine Classical.byContradiction fun h3 => h ⟨x, mem_tellers.mp hx, h3⟩
  have h3 := nodup_len (l := (List.range n).map Int.ofNat) ((tellers_rise n).imp fun h e => by lia) h2
  simp at h3
  lia
theorem find_leads {n : Nat} {spent : List Pr} {x : Fam × List Int} (g : GInv n spent x) (hl : x.2.length < n) (hr : ∀ t : Int, 1 ≤ t → t < n → Reach spent t 0) : ∃ k, spent.find? (leadsB x.2) = some k ∧ k ∈ spent ∧ k.1 ∈ x.2 ∧ k.2 ∉ x.2 := by
  obtain ⟨t, ⟨h1, h2⟩, h3⟩ := missing g.nd hl
  have ht : 1 ≤ t := by
    have : t ≠ 0 := fun e => h3 (e ▸ g.zero)
    lia
  obtain ⟨k, hk, hb⟩ := leads_exists (hr t ht h2) g.zero h3
  cases hf : spent.find? (leadsB x.2) with
  | none => exact absurd hb (by simpa using List.find?_eq_none.mp hf k hk)
  | some k' =>
    have h4 := List.find?_some hf
    have h5 := List.mem_of_find?_eq_some hf
    simp only [leadsB, Bool.and_eq_true, decide_eq_true_eq, Bool.not_eq_true', decide_eq_false_iff_not] at h4
    exact ⟨k', rfl, h5, h4.1, h4.2⟩
theorem grow_inv {n : Nat} {spent : List Pr} (so : SpOk n spent) (hn : 1 ≤ n) (hr : ∀ t : Int, 1 ≤ t → t < n → Reach spent t 0) : ∀ i, i + 1 ≤ n → GInv n spent (growI n spent i) ∧ (growI n spent i).2.length = i + 1
  | 0, _ => ⟨⟨by simp [growI], fun a ha => by rw [List.mem_singleton.mp ha]; lia, by simp [growI], by simp [growI]⟩, rfl⟩
  | i + 1, h => by
    obtain ⟨g, hl⟩ := grow_inv so hn hr i (by lia)
    obtain ⟨k, e, hk, h1, h2⟩ := find_leads g (by lia) hr
    have e2 : growI n spent (i + 1) = ((growI n spent i).1.set k.2.toNat (some k.1), (growI n spent i).2 ++ [k.2]) := by
      show growStep spent (growI n spent i) = _
      unfold growStep
      rw [e]
    rw [e2]
    refine ⟨⟨?_, fun a ha => ?_, List.mem_append_left _ g.zero, by rw [List.length_set]; exact g.fl⟩, by rw [List.length_append, hl]; rfl⟩
    · rw [List.nodup_append]
      exact ⟨g.nd, by simp, fun x hx y hy => by rw [List.mem_singleton.mp hy]; exact fun e => h2 (e ▸ hx)⟩
    · rcases List.mem_append.mp ha with h | h
      · exact g.ok a h
      · rw [List.mem_singleton.mp h]
        exact (so.ok k hk).2
inductive sp_grown (vs : List V) (H : Hp) (Q : VK) (E : XK) : Prop
  | mk (n : Nat) (s : Addr) (rs : List V) (spent : List Pr) (h09 : vs = [.int n, .ref s]) (h19 : H s = some (.lst rs)) (h29 : TupRefs H rs (spent.map two)) (h39 : SpOk n spent) (h49 : 1 ≤ n) (h59 : n ≤ 12) (h69 : (∀ t : Int, 1 ≤ t → t < n → Reach spent t 0)) (h79 : ∀ l H', Same H H' → H l = none → H' l = some (.lst ((growF n spent).map optV)) → Q (.ref l) H') : sp_grown vs H Q E
theorem rep_non (n : Nat) : (List.replicate n [V.non]).flatten = (List.replicate n (none : Option Int)).map optV := by
  induction n with
  | zero => rfl
  | succ n ih => rw [List.replicate_succ, List.flatten_cons, ih]; rfl
theorem filter_head {α : Type} {l : List α} {p : α → Bool} {x : α} (h : l.find? p = some x) : ∃ r, l.filter p = x :: r := by
  induction l with
  | nil => cases h
  | cons a l ih =>
    rw [List.find?_cons] at h
    rw [List.filter_cons]
    by_cases hp : p a = true
    · rw [hp] at h
      simp only at h
      cases h
      rw [if_pos hp]
      exact ⟨_, rfl⟩
    · rw [if_neg hp]
      simp only [hp] at h
      exact ih h
end Hw

set_option maxHeartbeats 1000000

namespace Hw
open PySem L2 HwSort
structure SortedOf (cs hs : Cs) : Prop where
  pm : hs.Perm cs
  rise : (keysC hs).Pairwise ltP
theorem tri_inj {a b : Pr × Int} (h : tri a = tri b) : a = b := by
  obtain ⟨⟨a1, a2⟩, a3⟩ := a
  obtain ⟨⟨b1, b2⟩, b3⟩ := b
  simp only [tri, List.cons.injEq, and_true] at h
  obtain ⟨h1, h2, h3⟩ := h
  rw [h1, h2, h3]
noncomputable def unTri (l : List Int) : Pr × Int := ((l.getD 0 0, l.getD 1 0), l.getD 2 0)
theorem lex_key {a b : Pr × Int} (h : HT.lexLt (tri a) (tri b) = true) : ltP a.1 b.1 ∨ a.1 = b.1 := by
  unfold tri at h
  rw [HT.lexLt_cons] at h
  by_cases e1 : a.1.1 = b.1.1
  · rw [if_pos e1, HT.lexLt_cons] at h
    by_cases e2 : a.1.2 = b.1.2
    · exact .inr (Prod.ext e1 e2)
    · rw [if_neg e2] at h
      exact .inl (.inr ⟨e1, by simpa using h⟩)
  · rw [if_neg e1] at h
    exact .inl (.inl (by simpa using h))
theorem sorted_of {cs : Cs} (hn : (keysC cs).Nodup) {trip : List (List Int)} (pm : trip.Perm (cs.map tri)) (pw : trip.Pairwise fun x y => HT.lexLt x y = true) : ∃ hs, SortedOf cs hs ∧ trip = hs.map tri := by
  have e0 : (cs.map tri).map unTri = cs := by rw [List.map_map]; exact List.map_id _
  have hmap : (trip.map unTri).map tri = trip := by
    rw [List.map_map]
    have : ∀ x ∈ trip, (tri ∘ unTri) x = id x := fun x hx => by
      obtain ⟨e, _, rfl⟩ := List.mem_map.mp (pm.mem_iff.mp hx)
      rfl
    rw [List.map_congr_left this, List.map_id]
  have p1 : (trip.map unTri).Perm cs := by
    have := pm.map unTri
    rwa [e0] at this
  have nk : (keysC (trip.map unTri)).Nodup := ((p1.map (fun e : Pr × Int => e.1)).nodup_iff).mpr hn
  refine ⟨trip.map unTri, ⟨p1, ?_⟩, hmap.symm⟩
  have pw2 : (trip.map unTri).Pairwise fun a b => HT.lexLt (tri a) (tri b) = true := by
    rw [← hmap, List.pairwise_map] at pw
    exact pw
  unfold keysC at nk ⊢
  rw [List.pairwise_map]
  unfold List.Nodup at nk
  rw [List.pairwise_map] at nk
  exact (List.Pairwise.and pw2 nk).imp fun ⟨h1, h2⟩ => by
    rcases lex_key h1 with h | h
    · exact h
    · exact absurd h h2
theorem sorted_unique2 {cs a b : Cs} (ha : SortedOf cs a) (hb : SortedOf cs b) : a = b := by
  have h1 := trip_unique hb.rise (trip := a.map tri) ((ha.pm.trans hb.pm.symm).map tri) (by
    have p2 : ((keysC a).map two).Perm ((keysC a).map two) := .refl _
    have nd := rise_nd ha.rise
    have := tri_rise nd p2 (rise_two ha.rise)
    have e : ((keysC a).map two).map (triC a) = a.map tri := by
      unfold keysC
      rw [List.map_map, List.map_map]
      apply List.map_congr_left
      intro x hx
      exact triC_two a x.1 (look_mem nd hx)
    rwa [e] at this)
  exact (List.map_inj_right (fun _ _ h => tri_inj h)).mp h1
theorem sorted_self {cs : Cs} (h : (keysC cs).Pairwise ltP) : SortedOf cs cs := ⟨.refl _, h⟩
theorem HsOk.perm {n : Nat} {cs hs : Cs} (h : HsOk n cs) (p : hs.Perm cs) : HsOk n hs :=
  ⟨((p.map (fun e : Pr × Int => e.1)).nodup_iff).mpr h.nd, fun k hk => h.ok k (((p.map (fun e : Pr × Int => e.1)).mem_iff).mp hk), by rw [p.length_eq]; exact h.len, fun e he => h.nn e (p.mem_iff.mp he)⟩
theorem HsOk.filter {n : Nat} {cs : Cs} (h : HsOk n cs) (p : Pr × Int → Bool) : HsOk n (cs.filter p) :=
  ⟨h.nd.sublist (List.filter_sublist.map _), fun k hk => by
    obtain ⟨e, he, rfl⟩ := List.mem_map.mp hk
    exact h.ok e.1 (List.mem_map_of_mem (List.mem_filter.mp he).1), Nat.le_trans (List.length_filter_le _ _) h.len, fun e he => h.nn e (List.mem_filter.mp he).1⟩
open Classical in
noncomputable def pricedF (n : Nat) (hs : Cs) : PSt := if h : ∃ st, Priced n hs st then Classical.choose h else ⟨[], [], [], none⟩
theorem pricedF_eq {n : Nat} {hs : Cs} {st : PSt} (h : Priced n hs st) : pricedF n hs = st := by
  unfold pricedF
  have he : ∃ st, Priced n hs st := ⟨st, h⟩
  rw [dif_pos he]
  exact priced_unique (Classical.choose_spec he) h
noncomputable def worthS (st : PSt) : Option Int := match st.lonely with
  | some _ => none
  | none => some (st.prices.map (·.2)).sum
noncomputable def lwF (n : Nat) (hs : Cs) : Option Int := worthS (pricedF n hs)
noncomputable def withOnly (hs : Cs) (one other : Int) : Cs := hs.filter fun e => !decide (e.1.2 = other) || decide (e.1.1 = one)
structure BkOk (n : Nat) (cs : Cs) : Prop where
  hs : HsOk n cs
  few : cs.length < 64 ∨ (keysC cs).Pairwise ltP
inductive sp_hearS (C : Addr) (vs : List V) (H : Hp) (Q : VK) (E : XK) : Prop
  | mk (p d : Addr) (n : Nat) (cs : Cs) (h09 : vs = [.ref p]) (h19 : BookAt C H p d n cs) (h29 : BkOk n cs) (h39 : ∀ l rs hs H', Same H H' → H l = none → H' l = some (.lst rs) → TupRefs H' rs (hs.map tri) → SortedOf cs hs → HsOk n hs → Q (.ref l) H') : sp_hearS C vs H Q E
theorem hearS_of (C : Addr) : ∀ vs H Q E, sp_hearS C vs H Q E → sp_hearR C vs H Q E := by
  rintro vs H Q E ⟨p, d, n, cs, rfl, B, ok, k⟩
  refine ⟨p, d, n, cs, rfl, B, ok.hs.nd, by have := ok.hs.len; lia, ok.few, fun l rs trip H' sm h1 h2 tr pm pw => ?_⟩
  obtain ⟨hs, so, rfl⟩ := sorted_of ok.hs.nd pm pw
  exact k l rs hs H' sm h1 h2 tr so (ok.hs.perm so.pm)
theorem MetD.imp {P : Program} {w : World} {K : PySem.W.Frag} {mg : Str → Option Value} {base : Heap} {C : Addr} {k : Nat} {m : Str} {ps : List Str} {sp sp' : Sp} (D : MetD P w K mg base C k m ps sp) (h : ∀ vs H Q E, sp' vs H Q E → sp vs H Q E) : MetD P w K mg base C k m ps sp' :=
  let ⟨f, fd, F, r⟩ := D; ⟨f, fd, F.imp h, r⟩
theorem ended_reach {n : Nat} {st : PSt} (hn : 1 ≤ n) (h : cutF n st.spent = none) : ∀ t : Int, 1 ≤ t → t < n → Reach st.spent t 0 := by
  intro t h1 h2
  have h3 := firstMin_none h
  have hm : behindF n st.spent t ∈ groupsF n st.spent := by
    unfold groupsF
    refine List.mem_map.mpr ⟨(t - 1).toNat, List.mem_range.mpr (by lia), ?_⟩
    have : 1 + (((t - 1).toNat : Nat) : Int) = t := by lia
    simp only [this]
  have h4 : ¬ (!decide ((behindF n st.spent t).headD 0 = 0)) = true := fun z => by
    have : behindF n st.spent t ∈ (groupsF n st.spent).filter fun g => !decide (g.headD 0 = 0) := List.mem_filter.mpr ⟨hm, z⟩
    rw [h3] at this
    cases this
  have h5 : (behindF n st.spent t).headD 0 = 0 := by simpa using h4
  cases hb : behindF n st.spent t with
  | nil =>
    have : t ∈ behindF n st.spent t := mem_behind.mpr ⟨⟨by lia, h2⟩, .base⟩
    rw [hb] at this
    cases this
  | cons a r =>
    rw [hb] at h5
    have h6 : a = 0 := h5
    have : a ∈ behindF n st.spent t := by rw [hb]; exact List.mem_cons_self ..
    rw [h6] at this
    exact (mem_behind.mp this).2
theorem singles_inv {n : Nat} {cs : Cs} (ho : HsOk n cs) : ∀ i, i ≤ n - 1 → PI n (((singles n).take i).foldl chargeF ⟨cs, [], [], none⟩) ∧ (∀ k ∈ (((singles n).take i).foldl chargeF ⟨cs, [], [], none⟩).spent, k.2 < 1 + (i : Int)) ∧ (((singles n).take i).foldl chargeF ⟨cs, [], [], none⟩).prices.length ≤ i
  | 0, _ => ⟨⟨ho.nd, ho.ok, ho.len, ho.nn, List.nodup_nil, fun k hk => by cases hk⟩, (fun k hk => by cases hk), Nat.le_refl _⟩
  | i + 1, hi => by
    obtain ⟨h1, h2, h3⟩ := singles_inv ho i (by lia)
    have e : ((singles n).take (i + 1)).foldl chargeF ⟨cs, [], [], none⟩ = chargeF (((singles n).take i).foldl chargeF ⟨cs, [], [], none⟩) [1 + (i : Int)] := by
      rw [List.take_add_one]
      unfold singles
      rw [List.getElem?_map, List.getElem?_range (by lia)]
      show List.foldl chargeF _ (_ ++ [[1 + (i : Int)]]) = _
      rw [List.foldl_append]
      rfl
    rw [e]
    obtain ⟨e1, e2⟩ := singles_step (n := n) h2
    have := charge_prices (((singles n).take i).foldl chargeF ⟨cs, [], [], none⟩) [1 + (i : Int)]
    exact ⟨charge_PI h1 e1, e2, by lia⟩
theorem st1_inv {n : Nat} {cs : Cs} (ho : HsOk n cs) : PI n (st1 n cs) ∧ (st1 n cs).prices.length ≤ n := by
  obtain ⟨h1, _, h3⟩ := singles_inv ho (n - 1) (Nat.le_refl _)
  have e : (singles n).take (n - 1) = singles n := by
    have : (singles n).length = n - 1 := by simp [singles]
    rw [← this, List.take_length]
  rw [e] at h1 h3
  exact ⟨h1, Nat.le_trans h3 (Nat.sub_le _ _)⟩
theorem steps_inv {n : Nat} {cs : Cs} (ho : HsOk n cs) {st : PSt} (h : Steps n (st1 n cs) st) : PI n st ∧ st.prices.length ≤ n + st.spent.length := by
  induction h with
  | refl => exact ⟨(st1_inv ho).1, by have := (st1_inv ho).2; lia⟩
  | @tail b G _ h2 _ ih =>
    obtain ⟨pi, hp⟩ := ih
    refine ⟨charge_PI pi (cut_closed pi.so h2), ?_⟩
    by_cases he : entering b.rests G = []
    · have : chargeF b G = { b with lonely := some G } := by unfold chargeF; rw [if_pos he]
      rw [this]
      exact hp
    · have h1 := charge_more he
      have h2 := charge_prices b G
      lia
theorem steps_end {n : Nat} : ∀ (m : Nat) (st : PSt), PI n st → st.rests.length - st.spent.length ≤ m → ∃ st', Steps n st st' ∧ Ended n st' := by
  intro m
  induction m with
  | zero =>
    intro st pi hm
    cases hc : cutF n st.spent with
    | none => exact ⟨st, .refl _, .inl hc⟩
    | some G =>
      cases hl : st.lonely with
      | some g => exact ⟨st, .refl _, .inr (by rw [hl]; exact fun z => nomatch z)⟩
      | none =>
        have pi2 := charge_PI pi (cut_closed pi.so hc)
        by_cases he : entering st.rests G = []
        · exact ⟨_, .tail (.refl _) hc hl, .inr (by rw [charge_lonely, if_pos he]; exact fun z => nomatch z)⟩
        · have h1 := charge_more he
          have h2 := pi2.spl
          have h3 : (chargeF st G).rests.length = st.rests.length := by
            have := congrArg List.length (keys_charge st G)
            rwa [keys_len, keys_len] at this
          lia
  | succ m ih =>
    intro st pi hm
    cases hc : cutF n st.spent with
    | none => exact ⟨st, .refl _, .inl hc⟩
    | some G =>
      cases hl : st.lonely with
      | some g => exact ⟨st, .refl _, .inr (by rw [hl]; exact fun z => nomatch z)⟩
      | none =>
        have pi2 := charge_PI pi (cut_closed pi.so hc)
        by_cases he : entering st.rests G = []
        · exact ⟨_, .tail (.refl _) hc hl, .inr (by rw [charge_lonely, if_pos he]; exact fun z => nomatch z)⟩
        · have h1 := charge_more he
          have h3 : (chargeF st G).rests.length = st.rests.length := by
            have := congrArg List.length (keys_charge st G)
            rwa [keys_len, keys_len] at this
          have h4 := pi2.spl
          obtain ⟨st', s1, s2⟩ := ih (chargeF st G) pi2 (by lia)
          exact ⟨st', steps_trans (.tail (.refl _) hc hl) s1, s2⟩
theorem priced_exists {n : Nat} {cs : Cs} (ho : HsOk n cs) : ∃ st, Priced n cs st := by
  obtain ⟨st, h1, h2⟩ := steps_end _ (st1 n cs) (st1_inv ho).1 (Nat.le_refl _)
  exact ⟨st, h1, h2⟩
inductive sp_lw (vs : List V) (H : Hp) (Q : VK) (E : XK) : Prop
  | mk (n : Nat) (l : Addr) (rs : List V) (hs : Cs) (h09 : vs = [.int n, .ref l]) (h19 : H l = some (.lst rs)) (h29 : TupRefs H rs (hs.map tri)) (h39 : HsOk n hs) (h49 : 1 ≤ n) (h59 : n ≤ 12) (h69 : ∀ H', Same H H' → Q (optV (lwF n hs)) H') : sp_lw vs H Q E
inductive sp_only (vs : List V) (H : Hp) (Q : VK) (E : XK) : Prop
  | mk (l : Addr) (rs : List V) (hs : Cs) (one other : Int) (h09 : vs = [.ref l, .int one, .int other]) (h19 : H l = some (.lst rs)) (h29 : TupRefs H rs (hs.map tri)) (h39 : hs.length ≤ 200) (h49 : ∀ l' rs' H', Same H H' → H l' = none → H' l' = some (.lst rs') → TupRefs H' rs' ((withOnly hs one other).map tri) → Q (.ref l') H') : sp_only vs H Q E
inductive sp_leastB (C : Addr) (vs : List V) (H : Hp) (Q : VK) (E : XK) : Prop
  | mk (p d : Addr) (n : Nat) (cs : Cs) (h09 : vs = [.ref p]) (h19 : BookAt C H p d n cs) (h29 : BkOk n cs) (h39 : 1 ≤ n) (h49 : n ≤ 12) (h59 : ∀ hs H', Same H H' → SortedOf cs hs → Q (optV (lwF n hs)) H') : sp_leastB C vs H Q E
inductive sp_leastW (C : Addr) (vs : List V) (H : Hp) (Q : VK) (E : XK) : Prop
  | mk (p d : Addr) (n : Nat) (cs : Cs) (one other : Int) (h09 : vs = [.ref p, .int one, .int other]) (h19 : BookAt C H p d n cs) (h29 : BkOk n cs) (h39 : 1 ≤ n) (h49 : n ≤ 12) (h59 : ∀ hs H', Same H H' → SortedOf cs hs → Q (optV (lwF n (withOnly hs one other))) H') : sp_leastW C vs H Q E

noncomputable def settleAt (n : Nat) (hs : Cs) (t goal : Int) : Cs → Option Cs
  | [] => none
  | e :: r => if e.1.2 = t ∧ lwF n (withOnly hs e.1.1 t) = some goal then some (withOnly hs e.1.1 t) else settleAt n hs t goal r
noncomputable def settledF (n : Nat) (hs : Cs) (t goal : Int) : Cs := (settleAt n hs t goal hs).getD hs
noncomputable def settleI (n : Nat) (hs : Cs) (goal : Int) : Nat → Cs
  | 0 => hs
  | i + 1 => settledF n (settleI n hs goal i) (1 + (i : Int)) goal
noncomputable def famOf (n : Nat) (hs : Cs) : Fam := hs.foldl (fun f e => f.set e.1.2.toNat (some e.1.1)) (List.replicate n none)
noncomputable def firstF (n : Nat) (hs : Cs) (goal : Int) : Fam := famOf n (settleI n hs goal (n - 1))
theorem settle_app {n : Nat} {hs : Cs} {t goal : Int} : ∀ {a b : Cs}, settleAt n hs t goal a = none → settleAt n hs t goal (a ++ b) = settleAt n hs t goal b
  | [], b, _ => rfl
  | e :: a, b, h => by
    unfold settleAt at h
    rw [List.cons_append]
    show (if _ then _ else _) = _
    split at h
    · cases h
    · next hc => rw [if_neg hc, settle_app h]
theorem settle_snoc {n : Nat} {hs : Cs} {t goal : Int} {j : Nat} {kk : Pr × Int} {L : Cs} (he : L[j]? = some kk) (h : settleAt n hs t goal (L.take j) = none) :
    settleAt n hs t goal (L.take (j + 1)) = if kk.1.2 = t then (if lwF n (withOnly hs kk.1.1 t) = some goal then some (withOnly hs kk.1.1 t) else none) else none := by
  rw [List.take_add_one, he]
  show settleAt n hs t goal (L.take j ++ [kk]) = _
  rw [settle_app h]
  show (if _ then _ else none) = _
  by_cases h1 : kk.1.2 = t
  · by_cases h2 : lwF n (withOnly hs kk.1.1 t) = some goal
    · rw [if_pos ⟨h1, h2⟩, if_pos h1, if_pos h2]
    · rw [if_neg (fun z => h2 z.2), if_pos h1, if_neg h2]
  · rw [if_neg (fun z => h1 z.1), if_neg h1]
theorem settle_pre {n : Nat} {hs : Cs} {t goal : Int} : ∀ {a b : Cs} {x : Cs}, settleAt n hs t goal a = some x → settleAt n hs t goal (a ++ b) = some x
  | [], b, x, h => by cases h
  | e :: a, b, x, h => by
    unfold settleAt at h
    rw [List.cons_append]
    show (if _ then _ else _) = _
    split at h
    · next hc => rw [if_pos hc]; exact h
    · next hc => rw [if_neg hc, settle_pre h]
theorem settle_some {n : Nat} {hs : Cs} {t goal : Int} {j : Nat} {x : Cs} (h : settleAt n hs t goal (hs.take j) = some x) : x = settledF n hs t goal := by
  have := settle_pre (b := hs.drop j) h
  rw [List.take_append_drop] at this
  unfold settledF
  rw [this]
  rfl
theorem settledF_ok {n : Nat} {hs : Cs} {t goal : Int} (ho : HsOk n hs) : HsOk n (settledF n hs t goal) := by
  unfold settledF
  have key : ∀ (L : Cs) (x : Cs), settleAt n hs t goal L = some x → HsOk n x := by
    intro L
    induction L with
    | nil => intro x h; cases h
    | cons e r ih =>
      intro x h
      unfold settleAt at h
      split at h
      · cases h; exact ho.filter _
      · exact ih x h
  cases h : settleAt n hs t goal hs with
  | none => exact ho
  | some x => exact key hs x h
theorem settleI_ok {n : Nat} {hs : Cs} {goal : Int} (ho : HsOk n hs) : ∀ i, HsOk n (settleI n hs goal i)
  | 0 => ho
  | i + 1 => settledF_ok (settleI_ok ho i)
theorem famOf_len (n : Nat) (hs : Cs) : (famOf n hs).length = n := by
  unfold famOf
  have : ∀ (hs : Cs) (f : Fam), (hs.foldl (fun f e => f.set e.1.2.toNat (some e.1.1)) f).length = f.length := by
    intro hs
    induction hs with
    | nil => intro f; rfl
    | cons e r ih => intro f; rw [List.foldl_cons, ih, List.length_set]
  rw [this]
  simp
theorem famOf_snoc {n : Nat} {L : Cs} {j : Nat} {kk : Pr × Int} (h : L[j]? = some kk) : famOf n (L.take (j + 1)) = (famOf n (L.take j)).set kk.1.2.toNat (some kk.1.1) := by
  rw [List.take_add_one, h]
  show famOf n (L.take j ++ [kk]) = _
  unfold famOf
  rw [List.foldl_append]
  rfl
inductive sp_settled (vs : List V) (H : Hp) (Q : VK) (E : XK) : Prop
  | mk (n : Nat) (l : Addr) (rs : List V) (hs : Cs) (t goal : Int) (h09 : vs = [.int n, .ref l, .int t, .int goal]) (h19 : H l = some (.lst rs)) (h29 : TupRefs H rs (hs.map tri)) (h39 : HsOk n hs) (h49 : 1 ≤ n) (h59 : n ≤ 12) (h69 : ∀ l' rs' hs' H', Same H H' → H' l' = some (.lst rs') → TupRefs H' rs' (hs'.map tri) → hs' = settledF n hs t goal → (l' = l ∨ H l' = none) → Q (.ref l') H') : sp_settled vs H Q E
inductive sp_first (C : Addr) (vs : List V) (H : Hp) (Q : VK) (E : XK) : Prop
  | mk (p d : Addr) (n : Nat) (cs : Cs) (h09 : vs = [.ref p]) (h19 : BookAt C H p d n cs) (h29 : BkOk n cs) (h39 : 1 ≤ n) (h49 : n ≤ 12) (h59 : (∀ hs H', Same H H' → SortedOf cs hs → lwF n hs = none → Q .non H')) (h69 : ∀ hs goal f H', Same H H' → SortedOf cs hs → lwF n hs = some goal → H f = none → H' f = some (.lst ((firstF n hs goal).map optV)) → Q (.ref f) H') : sp_first C vs H Q E
theorem w_eqO {H : Hp} {Q : VK} {o : Option Int} {g : Int} (h : Q (.bl (decide (o = some g))) H) : rEq (optV o) (.int g) H Q := by
  cases o with
  | none => exact ⟨rfl, by have : decide (V.non = V.int g) = decide ((none : Option Int) = some g) := by simp
                           show Q (.bl (decide (V.non = V.int g))) H
                           rw [this]; exact h⟩
  | some i => exact ⟨rfl, by have : decide (V.int i = V.int g) = decide (some i = some g) := by by_cases e : i = g <;> simp [e]
                             show Q (.bl (decide (V.int i = V.int g))) H
                             rw [this]; exact h⟩

inductive sp_judged (C : Addr) (vs : List V) (H : Hp) (Q : VK) (E : XK) : Prop
  | mk (p d : Addr) (n : Nat) (cs : Cs) (h09 : vs = [.ref p]) (h19 : BookAt C H p d n cs) (h29 : BkOk n cs) (h39 : 1 ≤ n) (h49 : n ≤ 12) (h59 : (∀ hs st g t l H', SortedOf cs hs → Priced n hs st → PI n st → st.lonely = some g → Same H H' → H t = none → H l = none → H' t = some (.tup [.str "lonely", .ref l]) → H' l = some (.lst (g.map V.int)) → Q (.ref t) H')) (h69 : (∀ hs st t f q s qs H', SortedOf cs hs → Priced n hs st → PI n st → st.lonely = none → Same H H' → H t = none → H f = none → H q = none → H' t = some (.tup [.str "family", .ref f, .ref q]) → H' f = some (.lst ((growF n st.spent).map optV)) → H' q = some (.lst qs) → PriceRefs (fun l => H l = none) H' s q qs st.prices → f ≠ q → Q (.ref t) H')) : sp_judged C vs H Q E
end Hw

set_option maxHeartbeats 1000000

namespace Hw
open PySem L2 HwSort
noncomputable abbrev hs2 (c : Int) : Cs := [((0, 1), c)]
noncomputable def st2 (c : Int) : PSt := ⟨[((0, 1), 0)], [(0, 1)], if c = 0 then [] else [([1], c)], none⟩
noncomputable def optD : Option Int → PyData
  | none => .none
  | some i => .int i
theorem rep_opt {H : Hp} (o : Option Int) : DRep H (optV o) (optD o) := by
  cases o with
  | none => exact .non
  | some i => exact .int i
theorem reps_opts {H : Hp} : ∀ l : List (Option Int), DReps H (l.map optV) (l.map optD)
  | [] => .nil
  | o :: r => .cons (rep_opt o) (reps_opts r)
theorem lay_opts : ∀ l : List (Option Int), PyData.canLayAll0 (l.map optD) = true
  | [] => rfl
  | o :: r => by
    rw [List.map_cons]
    show (PyData.canLay0 (optD o) && PyData.canLayAll0 (r.map optD)) = true
    rw [lay_opts r]
    cases o <;> rfl
theorem depth_opts : ∀ l : List (Option Int), PyData.depthAll (l.map optD) = 0
  | [] => rfl
  | o :: r => by
    rw [List.map_cons]
    show max (PyData.depth (optD o)) (PyData.depthAll (r.map optD)) = 0
    rw [depth_opts r]
    cases o <;> rfl
end Hw

set_option maxHeartbeats 1000000

namespace Hw
open PySem L2 HwSort
structure GoodG (n : Nat) (g : Grp) : Prop where
  ne : g ≠ []
  rise : g.Pairwise (· < ·)
  ok : ∀ a ∈ g, 1 ≤ a ∧ a < n
theorem good_single {n i : Nat} (h : i < n - 1) : GoodG n [1 + (i : Int)] := ⟨by simp, by simp, fun a ha => by rw [List.mem_singleton.mp ha]; lia⟩
theorem good_cut {n : Nat} {spent : List Pr} {G : Grp} (h : cutF n spent = some G) : GoodG n G := by
  obtain ⟨t, h1, h2, rfl, h3⟩ := cut_some h
  have ht : t ∈ behindF n spent t := mem_behind.mpr ⟨⟨by lia, h2⟩, .base⟩
  have hr := behind_rise n spent t
  refine ⟨(fun e => by rw [e] at ht; cases ht), hr, fun a ha => ?_⟩
  have ha0 := (mem_behind.mp ha).1
  refine ⟨?_, ha0.2⟩
  cases hb : behindF n spent t with
  | nil => rw [hb] at ha; cases ha
  | cons x r =>
    rw [hb] at h3 ha hr
    have hx : x ≠ 0 := h3
    have hx0 : 0 ≤ x := by
      have : x ∈ behindF n spent t := by rw [hb]; exact List.mem_cons_self ..
      exact (mem_behind.mp this).1.1
    rcases List.mem_cons.mp ha with rfl | ha
    · lia
    · have := (List.pairwise_cons.mp hr).1 a ha
      lia

noncomputable def LOk (n : Nat) (ks : List Pr) (o : Option Grp) : Prop := ∀ g, o = some g → GoodG n g ∧ ∀ k ∈ ks, entersB g k = false
theorem charge_LOk {n : Nat} {st : PSt} {G : Grp} (h : LOk n (keysC st.rests) st.lonely) (hG : GoodG n G) : LOk n (keysC (chargeF st G).rests) (chargeF st G).lonely := by
  intro g hg
  rw [keys_charge]
  rw [charge_lonely] at hg
  split at hg
  · next he =>
    cases hg
    refine ⟨hG, fun k hk => ?_⟩
    cases hb : entersB G k with
    | false => rfl
    | true =>
      have : k ∈ entering st.rests G := List.mem_filter.mpr ⟨hk, hb⟩
      rw [he] at this
      cases this
  · exact h g hg
theorem singles_LOk {n : Nat} {cs : Cs} : ∀ i, i ≤ n - 1 → LOk n (keysC (((singles n).take i).foldl chargeF ⟨cs, [], [], none⟩).rests) (((singles n).take i).foldl chargeF ⟨cs, [], [], none⟩).lonely
  | 0, _ => fun g hg => by cases hg
  | i + 1, hi => by
    have e : ((singles n).take (i + 1)).foldl chargeF ⟨cs, [], [], none⟩ = chargeF (((singles n).take i).foldl chargeF ⟨cs, [], [], none⟩) [1 + (i : Int)] := by
      rw [List.take_add_one]
      unfold singles
      rw [List.getElem?_map, List.getElem?_range (by lia)]
      show List.foldl chargeF _ (_ ++ [[1 + (i : Int)]]) = _
      rw [List.foldl_append]
      rfl
    rw [e]
    exact charge_LOk (singles_LOk i (by lia)) (good_single (by lia))
theorem st1_keys {n : Nat} {cs : Cs} : keysC (st1 n cs).rests = keysC cs := by
  unfold st1
  have : ∀ (L : List Grp) (st : PSt), keysC (L.foldl chargeF st).rests = keysC st.rests := by
    intro L
    induction L with
    | nil => intro st; rfl
    | cons g r ih => intro st; rw [List.foldl_cons, ih, keys_charge]
  rw [this]
theorem steps_LOk {n : Nat} {cs : Cs} {st : PSt} (h : Steps n (st1 n cs) st) : LOk n (keysC st.rests) st.lonely ∧ keysC st.rests = keysC cs := by
  induction h with
  | refl =>
    have h1 := singles_LOk (n := n) (cs := cs) (n - 1) (Nat.le_refl _)
    have e : (singles n).take (n - 1) = singles n := by
      have : (singles n).length = n - 1 := by simp [singles]
      rw [← this, List.take_length]
    rw [e] at h1
    exact ⟨h1, st1_keys⟩
  | tail _ h2 _ ih => exact ⟨charge_LOk ih.1 (good_cut h2), by rw [keys_charge]; exact ih.2⟩
theorem priced_lonely {n : Nat} {cs : Cs} {st : PSt} (pr : Priced n cs st) {g : Grp} (h : st.lonely = some g) : GoodG n g ∧ ∀ k ∈ keysC cs, entersB g k = false := by
  obtain ⟨h1, h2⟩ := steps_LOk pr.1
  have := h1 g h
  rwa [h2] at this
theorem priced_reach {n : Nat} {cs : Cs} {st : PSt} (hn : 1 ≤ n) (pr : Priced n cs st) (h : st.lonely = none) : ∀ t : Int, 1 ≤ t → t < n → Reach st.spent t 0 := by
  refine ended_reach hn ?_
  rcases pr.2 with h1 | h1
  · exact h1
  · exact absurd h h1
theorem priced_spent {n : Nat} {cs : Cs} {st : PSt} (ho : HsOk n cs) (pr : Priced n cs st) : ∀ k ∈ st.spent, k ∈ keysC cs := by
  intro k hk
  rw [← (steps_LOk pr.1).2]
  exact (steps_inv ho pr.1).1.ssub k hk
theorem reach_enters {spent : List Pr} {g : Grp} {a b : Int} (h : Reach spent a b) (hb : b ∉ g) (ha : a ∈ g) : ∃ k ∈ spent, entersB g k = true := by
  induction h with
  | base => exact absurd ha hb
  | @step x y h1 _ ih =>
    by_cases hy : y ∈ g
    · exact ⟨(x, y), h1, by simp [entersB, hb, hy]⟩
    · exact ih hy

theorem no_both {n : Nat} {cs hs : Cs} {st st' : PSt} (hn : 1 ≤ n) (ho : HsOk n hs) (sub : ∀ k ∈ keysC hs, k ∈ keysC cs) (p1 : Priced n cs st) {g : Grp} (h1 : st.lonely = some g) (p2 : Priced n hs st') (h2 : st'.lonely = none) : False := by
  obtain ⟨hg, hk⟩ := priced_lonely p1 h1
  obtain ⟨a, r, e⟩ : ∃ a r, g = a :: r := by
    cases hgg : g with
    | nil => exact absurd hgg hg.ne
    | cons a r => exact ⟨a, r, rfl⟩
  have ha : a ∈ g := by rw [e]; exact List.mem_cons_self ..
  have hr := priced_reach hn p2 h2 a (hg.ok a ha).1 (hg.ok a ha).2
  obtain ⟨k, hks, hb⟩ := reach_enters hr (fun z => by have := (hg.ok 0 z).1; lia) ha
  rw [hk k (sub k (priced_spent ho p2 k hks))] at hb
  cases hb
theorem lw_some {n : Nat} {hs : Cs} (ho : HsOk n hs) {c : Int} (h : lwF n hs = some c) : ∃ st, Priced n hs st ∧ st.lonely = none ∧ c = (st.prices.map (·.2)).sum := by
  obtain ⟨st, pr⟩ := priced_exists ho
  unfold lwF at h
  rw [pricedF_eq pr] at h
  unfold worthS at h
  cases hl : st.lonely with
  | some g => rw [hl] at h; cases h
  | none => rw [hl] at h; exact ⟨st, pr, hl, (Option.some.inj h).symm⟩
theorem lw_none {n : Nat} {hs : Cs} (ho : HsOk n hs) (h : lwF n hs = none) : ∃ st g, Priced n hs st ∧ st.lonely = some g := by
  obtain ⟨st, pr⟩ := priced_exists ho
  unfold lwF at h
  rw [pricedF_eq pr] at h
  unfold worthS at h
  cases hl : st.lonely with
  | some g => exact ⟨st, g, pr, hl⟩
  | none => rw [hl] at h; cases h
theorem only_sub (hs : Cs) (one other : Int) : ∀ k ∈ keysC (withOnly hs one other), k ∈ keysC hs := fun k hk => by
  obtain ⟨e, he, rfl⟩ := List.mem_map.mp hk
  exact List.mem_map_of_mem (List.mem_filter.mp he).1
theorem lw_only {n : Nat} {hs : Cs} {one other h : Int} (hn : 1 ≤ n) (ho : HsOk n hs) (e : lwF n (withOnly hs one other) = some h) : ∃ m, lwF n hs = some m := by
  cases hl : lwF n hs with
  | some m => exact ⟨m, rfl⟩
  | none =>
    obtain ⟨st, g, pr, hg⟩ := lw_none ho hl
    obtain ⟨st', pr', h1, _⟩ := lw_some (ho.filter _) e
    exact (no_both hn (ho.filter _) (only_sub hs one other) pr hg pr' h1).elim
noncomputable def lackF (n : Nat) (hs : Cs) (one other : Int) : Option Int := match lwF n (withOnly hs one other) with
  | none => none
  | some h => some (h - (lwF n hs).getD 0)
noncomputable def freeL (n : Nat) (hs : Cs) (goal : Int) : List Pr := (hs.filter fun e => decide (lwF n (withOnly hs e.1.1 e.1.2) = some goal)).map (·.1)
noncomputable def freeF (n : Nat) (hs : Cs) : List Pr := match lwF n hs with
  | none => []
  | some goal => freeL n hs goal
noncomputable def boundL (ps : List Pr) : List Pr := ps.filter fun k => decide ((ps.map (·.2)).countP (fun x => decide (x = k.2)) = 1)
inductive sp_free (C : Addr) (vs : List V) (H : Hp) (Q : VK) (E : XK) : Prop
  | mk (p d : Addr) (n : Nat) (cs : Cs) (h09 : vs = [.ref p]) (h19 : BookAt C H p d n cs) (h29 : BkOk n cs) (h39 : 1 ≤ n) (h49 : n ≤ 12) (h59 : ∀ hs l rs H', Same H H' → SortedOf cs hs → H l = none → H' l = some (.lst rs) → TupRefs H' rs ((freeF n hs).map two) → (∀ r ∈ rs, ∃ b, r = V.ref b ∧ H b = none) → Q (.ref l) H') : sp_free C vs H Q E
inductive sp_bound (C : Addr) (vs : List V) (H : Hp) (Q : VK) (E : XK) : Prop
  | mk (p d : Addr) (n : Nat) (cs : Cs) (h09 : vs = [.ref p]) (h19 : BookAt C H p d n cs) (h29 : BkOk n cs) (h39 : 1 ≤ n) (h49 : n ≤ 12) (h59 : ∀ hs l rs H', Same H H' → SortedOf cs hs → H l = none → H' l = some (.lst rs) → TupRefs H' rs ((boundL (freeF n hs)).map two) → Q (.ref l) H') : sp_bound C vs H Q E
end Hw

set_option maxHeartbeats 1000000

namespace Hw
open PySem L2 HwSort
theorem RowsOk.bk {n : Nat} {cs : Cs} (r : RowsOk n cs) : BkOk n cs := ⟨⟨r.nd, r.ok, r.len, fun e he => (r.cost e he).1⟩, .inr r.rise⟩
noncomputable def tripD (ks : List Int) : PyData := .tuple (ks.map PyData.int)
theorem reps_tups {H : Hp} : ∀ {bs : List V} {kss : List (List Int)}, TupRefs H bs kss → DReps H bs (kss.map tripD)
  | _, _, .nil => .nil
  | _, _, .cons hx9 t => by
    obtain ⟨b, e, h⟩ := hx9
    subst e
    exact .cons (.tup h (reps_ints _)) (reps_tups t)
theorem lay_tups : ∀ kss : List (List Int), PyData.canLayAll0 (kss.map tripD) = true
  | [] => rfl
  | ks :: r => by
    rw [List.map_cons]
    show (PyData.canLay0 (tripD ks) && PyData.canLayAll0 (r.map tripD)) = true
    rw [lay_tups r, Bool.and_true]
    exact lay_ints ks
theorem depth_tups : ∀ kss : List (List Int), PyData.depthAll (kss.map tripD) ≤ 1
  | [] => by show 0 ≤ 1; decide
  | ks :: r => by
    rw [List.map_cons]
    show max (PyData.depth (tripD ks)) (PyData.depthAll (r.map tripD)) ≤ 1
    have h1 : PyData.depth (tripD ks) ≤ 1 := depth_ints ks
    have := depth_tups r
    lia

theorem eq_rows (kss : List (List Int)) : PyData.eqv (.list (kss.map tripD)) (.list (kss.map tripD)) = true := SeqAt.eqv_refl _ (lay_tups kss)
theorem w_sameRows {H : Hp} {Q : VK} {neg : Bool} {a b : Addr} {as bs : List V} {kss : List (List Int)} (ha : H a = some (.lst as)) (hb : H b = some (.lst bs)) (ta : TupRefs H as kss) (tb : TupRefs H bs kss) (k : Q (.bl (!neg)) H) : rEqD neg (.ref a) (.ref b) H Q := by
  refine ⟨.list (kss.map tripD), .list (kss.map tripD), .lst ha (reps_tups ta), .lst hb (reps_tups tb), lay_tups kss, lay_tups kss, by show PyData.depthAll _ + 1 ≤ 60; have := depth_tups kss; lia, ?_⟩
  rw [eq_rows]
  cases neg <;> exact k
end Hw

set_option maxHeartbeats 1000000

namespace Hw
open PySem L2 HwSort
noncomputable def kindOf (n : Nat) (hs : Cs) : Str := match (pricedF n hs).lonely with
  | none => "family"
  | some _ => "lonely"
theorem w_sameD {H : Hp} {Q : VK} {neg : Bool} {x y : V} {d : PyData} (hx : DRep H x d) (hy : DRep H y d) (hl : d.canLay0 = true) (hd : d.depth ≤ 60) (k : Q (.bl (!neg)) H) : rEqD neg x y H Q := by
  refine ⟨d, d, hx, hy, hl, hl, hd, ?_⟩
  rw [SeqAt.eqv_refl _ hl]
  cases neg <;> exact k

end Hw

set_option maxHeartbeats 1000000

namespace Hw
open PySem L2 HwSort
inductive Led (p : Int → Int) : Int → Prop
  | zero : Led p 0
  | step {t : Int} : Led p (p t) → Led p t
structure FamP (n : Nat) (cs : Cs) (p : Int → Int) : Prop where
  has : ∀ t : Int, 1 ≤ t → t < n → (p t, t) ∈ keysC cs
  led : ∀ t : Int, 1 ≤ t → t < n → Led p t
noncomputable def others (n : Nat) : List Int := (List.range (n - 1)).map fun (i : Nat) => 1 + (i : Int)
theorem mem_others {n : Nat} {t : Int} : t ∈ others n ↔ 1 ≤ t ∧ t < n := by
  unfold others
  rw [List.mem_map]
  constructor
  · rintro ⟨i, hi, rfl⟩
    have := List.mem_range.mp hi
    lia
  · rintro ⟨h1, h2⟩
    exact ⟨(t - 1).toNat, List.mem_range.mpr (by lia), by lia⟩
theorem others_nd (n : Nat) : (others n).Nodup := by
  unfold others
  rw [List.nodup_iff_pairwise_ne, List.pairwise_map]
  exact List.pairwise_lt_range.imp fun h => by lia
noncomputable def worthP (n : Nat) (cs : Cs) (p : Int → Int) : Int := ((others n).map fun t => costOf cs (p t, t)).sum

noncomputable def enterSum (ps : List (Grp × Int)) (k : Pr) : Int := ((ps.filter fun x => entersB x.1 k).map (·.2)).sum
theorem enterSum_nil (k : Pr) : enterSum [] k = 0 := rfl
theorem enterSum_cons (x : Grp × Int) (r : List (Grp × Int)) (k : Pr) : enterSum (x :: r) k = (if entersB x.1 k = true then x.2 else 0) + enterSum r k := by
  unfold enterSum
  rw [List.filter_cons]
  split
  · rw [List.map_cons, List.sum_cons]
  · rw [Int.zero_add]
theorem enterSum_snoc (ps : List (Grp × Int)) (x : Grp × Int) (k : Pr) : enterSum (ps ++ [x]) k = enterSum ps k + if entersB x.1 k = true then x.2 else 0 := by
  induction ps with
  | nil => rw [List.nil_append, enterSum_cons, enterSum_nil]; lia
  | cons a r ih => rw [List.cons_append, enterSum_cons, enterSum_cons, ih]; lia

structure OI (n : Nat) (cs : Cs) (st : PSt) : Prop where
  rest : ∀ k ∈ keysC cs, costOf st.rests k + enterSum st.prices k = costOf cs k
  nil : ∀ k ∈ st.spent, costOf st.rests k = 0
  pos : ∀ x ∈ st.prices, GoodG n x.1 ∧ 0 < x.2
  tied : ∀ x ∈ st.prices, ∃ pre post, st.spent = pre ++ post ∧ (∀ k ∈ pre, entersB x.1 k = false) ∧ ∀ c ∈ x.1, ∀ b ∈ x.1, Reach pre b c
  met : ∀ x ∈ st.prices, ∃ k ∈ st.spent, entersB x.1 k = true
  lam : st.prices.Pairwise fun x y => x.1 ≠ y.1 ∧ ((∀ a ∈ x.1, a ∈ y.1) ∨ ∀ a ∈ x.1, a ∉ y.1)
theorem costOf_lowered {rests : Cs} {ks : List Pr} {price : Int} {k : Pr} (h : k ∈ keysC rests) : costOf (lowered rests ks price) k = if k ∈ ks then costOf rests k - price else costOf rests k := by
  unfold costOf
  rw [look_lowered]
  cases e : lookC rests k with
  | none => exact absurd h (look_none e)
  | some c =>
    simp only [Option.map_some, Option.getD_some]
theorem reach_mono {a b : List Pr} (h : ∀ k ∈ a, k ∈ b) {t x : Int} (r : Reach a t x) : Reach b t x := by
  induction r with
  | base => exact .base
  | step h1 _ ih => exact .step (h _ h1) ih
theorem reach_closed {spent : List Pr} {g : Grp} (hc : ∀ k ∈ spent, entersB g k = false) {t x : Int} (r : Reach spent t x) (ht : t ∈ g) : x ∈ g := by
  induction r with
  | base => exact ht
  | @step a b h1 _ ih =>
    have := hc _ h1
    unfold entersB at this
    simp only [ih, decide_true, Bool.true_and, Bool.not_eq_false', decide_eq_true_eq] at this
    exact this
theorem charge_OI {n : Nat} {cs : Cs} {st : PSt} {g : Grp} (pi : PI n st) (hk : keysC st.rests = keysC cs) (x : OI n cs st) (hc : ∀ k ∈ st.spent, entersB g k = false) (hg : GoodG n g) (hr : ∀ c ∈ g, ∀ b ∈ g, Reach st.spent b c) : OI n cs (chargeF st g) := by
  by_cases he : entering st.rests g = []
  · have e : chargeF st g = { st with lonely := some g } := by unfold chargeF; rw [if_pos he]
    rw [e]
    exact ⟨x.rest, x.nil, x.pos, x.tied, x.met, x.lam⟩
  · have hent : ∀ k, k ∈ keysC cs → (k ∈ entering st.rests g ↔ entersB g k = true) := fun k hks => by
      unfold entering
      rw [hk, List.mem_filter]
      exact ⟨fun h => h.2, fun h => ⟨hks, h⟩⟩
    have hp0 : 0 ≤ priceOf st.rests g := by
      obtain ⟨k, h1, h2⟩ := price_at he
      rw [← h2]
      have h3 := entering_cost pi.nd h1
      exact pi.nn (k, costOf st.rests k) (look_some_mem h3)
    have e : chargeF st g = { rests := lowered st.rests (entering st.rests g) (priceOf st.rests g), spent := st.spent ++ (entering st.rests g).filter fun k => decide (costOf st.rests k = priceOf st.rests g), prices := if priceOf st.rests g = 0 then st.prices else st.prices ++ [(g, priceOf st.rests g)], lonely := st.lonely } := by unfold chargeF; rw [if_neg he]
    have hrest : ∀ k ∈ keysC cs, costOf (chargeF st g).rests k = if entersB g k = true then costOf st.rests k - priceOf st.rests g else costOf st.rests k := fun k hks => by
      rw [e]
      show costOf (lowered _ _ _) k = _
      rw [costOf_lowered (hk ▸ hks)]
      by_cases hb : entersB g k = true
      · rw [if_pos hb, if_pos ((hent k hks).mpr hb)]
      · rw [if_neg hb, if_neg fun z => hb ((hent k hks).mp z)]
    have hpr : (chargeF st g).prices = if priceOf st.rests g = 0 then st.prices else st.prices ++ [(g, priceOf st.rests g)] := by rw [e]
    have hsp : (chargeF st g).spent = st.spent ++ (entering st.rests g).filter fun k => decide (costOf st.rests k = priceOf st.rests g) := by rw [e]
    have hnew : ∃ k ∈ (chargeF st g).spent, entersB g k = true := by
      obtain ⟨k, h1, h2⟩ := price_at he
      exact ⟨k, by rw [hsp]; exact List.mem_append_right _ (List.mem_filter.mpr ⟨h1, by simpa using h2⟩), (List.mem_filter.mp h1).2⟩
    refine ⟨fun k hks => ?_, fun k hks => ?_, fun y hy => ?_, fun y hy => ?_, fun y hy => ?_, ?_⟩
    · rw [hrest k hks, hpr]
      have h0 := x.rest k hks
      by_cases hz : priceOf st.rests g = 0
      · rw [if_pos hz, hz]
        split <;> lia
      · rw [if_neg hz, enterSum_snoc]
        split <;> lia
    · rw [hsp] at hks
      rcases List.mem_append.mp hks with h | h
      · have h1 : k ∈ keysC cs := hk ▸ pi.ssub k h
        rw [hrest k h1, if_neg (by rw [hc k h]; exact Bool.false_ne_true)]
        exact x.nil k h
      · obtain ⟨h1, h2⟩ := List.mem_filter.mp h
        have h3 : k ∈ keysC cs := hk ▸ entering_mem h1
        rw [hrest k h3, if_pos ((hent k h3).mp h1)]
        have : costOf st.rests k = priceOf st.rests g := of_decide_eq_true h2
        lia
    · rw [hpr] at hy
      split at hy
      · exact x.pos y hy
      · rcases List.mem_append.mp hy with h | h
        · exact x.pos y h
        · rw [List.mem_singleton.mp h]
          exact ⟨hg, by show 0 < priceOf st.rests g; lia⟩
    · have old : ∀ y ∈ st.prices, ∃ pre post, (chargeF st g).spent = pre ++ post ∧ (∀ k ∈ pre, entersB y.1 k = false) ∧ ∀ c ∈ y.1, ∀ b ∈ y.1, Reach pre b c := fun y hy => by
        obtain ⟨pre, post, e1, e2, e3⟩ := x.tied y hy
        exact ⟨pre, post ++ (entering st.rests g).filter fun k => decide (costOf st.rests k = priceOf st.rests g), by rw [hsp, e1, List.append_assoc], e2, e3⟩
      rw [hpr] at hy
      split at hy
      · exact old y hy
      · rcases List.mem_append.mp hy with h | h
        · exact old y h
        · rw [List.mem_singleton.mp h]
          exact ⟨st.spent, _, hsp, hc, hr⟩
    · have old : ∀ y ∈ st.prices, ∃ k ∈ (chargeF st g).spent, entersB y.1 k = true := fun y hy => by
        obtain ⟨k, h1, h2⟩ := x.met y hy
        exact ⟨k, by rw [hsp]; exact List.mem_append_left _ h1, h2⟩
      rw [hpr] at hy
      split at hy
      · exact old y hy
      · rcases List.mem_append.mp hy with h | h
        · exact old y h
        · rw [List.mem_singleton.mp h]
          exact hnew
    · rw [hpr]
      split
      · exact x.lam
      · rw [List.pairwise_append]
        refine ⟨x.lam, List.pairwise_singleton _ _, fun y hy z hz => ?_⟩
        rw [List.mem_singleton.mp hz]
        obtain ⟨k, h1, h2⟩ := x.met y hy
        refine ⟨fun e => ?_, ?_⟩
        · have : entersB g k = false := hc k h1
          rw [show y.1 = g from e] at h2
          rw [h2] at this
          cases this
        · by_cases hm : ∃ a ∈ y.1, a ∈ g
          · obtain ⟨a, ha, hag⟩ := hm
            obtain ⟨pre, post, e1, _, e3⟩ := x.tied y hy
            left
            intro b hb
            refine reach_closed hc (reach_mono (fun k hk => ?_) (e3 b hb a ha)) hag
            rw [e1]
            exact List.mem_append_left _ hk
          · right
            exact fun a ha hag => hm ⟨a, ha, hag⟩
theorem cut_tied {n : Nat} {spent : List Pr} {G : Grp} (so : SpOk n spent) (h : cutF n spent = some G) : ∀ c ∈ G, ∀ b ∈ G, Reach spent b c := by
  intro c hc b hb
  have hg := good_cut h
  have hcl := cut_closed so h
  -- behind b stands all of G
  have hb0 := hg.ok b hb
  have sub : ∀ a ∈ behindF n spent b, a ∈ G := fun a ha => reach_closed hcl (mem_behind.mp ha).2 hb
  have hin : behindF n spent b ∈ (groupsF n spent).filter fun g => !decide (g.headD 0 = 0) := by
    refine List.mem_filter.mpr ⟨?_, ?_⟩
    · unfold groupsF
      refine List.mem_map.mpr ⟨(b - 1).toNat, List.mem_range.mpr (by lia), ?_⟩
      have : 1 + (((b - 1).toNat : Nat) : Int) = b := by lia
      simp only [this]
    · cases hbh : behindF n spent b with
      | nil =>
        have : b ∈ behindF n spent b := mem_behind.mpr ⟨⟨by lia, hb0.2⟩, .base⟩
        rw [hbh] at this
        cases this
      | cons a r =>
        have : a ∈ behindF n spent b := by rw [hbh]; exact List.mem_cons_self ..
        have := (hg.ok a (sub a this)).1
        have hne : ¬ a = 0 := by lia
        simp [hne]
  have hle := firstMin_le h _ hin
  have hnd : (behindF n spent b).Nodup := (behind_rise n spent b).imp fun h e => by lia
  have hGnd : G.Nodup := hg.rise.imp fun h e => by lia
  refine Classical.byContradiction fun hno => ?_
  have h1 : ∀ a ∈ behindF n spent b, a ∈ G.erase c := fun a ha => by
    have hne : a ≠ c := fun e => hno (e ▸ (mem_behind.mp ha).2)
    exact (List.mem_erase_of_ne hne).mpr (sub a ha)
  have h2 := nodup_len hnd h1
  rw [List.length_erase_of_mem hc] at h2
  have : 0 < G.length := List.length_pos_of_mem hc
  lia
theorem singles_OI {n : Nat} {cs : Cs} (ho : HsOk n cs) : ∀ i, i ≤ n - 1 → OI n cs (((singles n).take i).foldl chargeF ⟨cs, [], [], none⟩)
  | 0, _ => ⟨(fun k _ => by show costOf cs k + enterSum [] k = _; rw [enterSum_nil]; lia), (fun k hk => by cases hk), (fun k hk => by cases hk), (fun k hk => by cases hk), (fun k hk => by cases hk), .nil⟩
  | i + 1, hi => by
    have e : ((singles n).take (i + 1)).foldl chargeF ⟨cs, [], [], none⟩ = chargeF (((singles n).take i).foldl chargeF ⟨cs, [], [], none⟩) [1 + (i : Int)] := by
      rw [List.take_add_one]
      unfold singles
      rw [List.getElem?_map, List.getElem?_range (by lia)]
      show List.foldl chargeF _ (_ ++ [[1 + (i : Int)]]) = _
      rw [List.foldl_append]
      rfl
    rw [e]
    obtain ⟨h1, h2, _⟩ := singles_inv ho i (by lia)
    have hks : ∀ (L : List Grp) (st : PSt), keysC (L.foldl chargeF st).rests = keysC st.rests := by
      intro L
      induction L with
      | nil => intro st; rfl
      | cons a r ih => intro st; rw [List.foldl_cons, ih, keys_charge]
    refine charge_OI h1 (hks _ _) (singles_OI ho i (by lia)) (singles_step (n := n) h2).1 (good_single (by lia)) fun c hc b hb => ?_
    rw [List.mem_singleton.mp hc, List.mem_singleton.mp hb]
    exact .base
theorem st1_OI {n : Nat} {cs : Cs} (ho : HsOk n cs) : OI n cs (st1 n cs) := by
  have h1 := singles_OI ho (n - 1) (Nat.le_refl _)
  have e : (singles n).take (n - 1) = singles n := by
    have : (singles n).length = n - 1 := by simp [singles]
    rw [← this, List.take_length]
  rw [e] at h1
  exact h1
theorem steps_OI {n : Nat} {cs : Cs} (ho : HsOk n cs) {st : PSt} (h : Steps n (st1 n cs) st) : OI n cs st ∧ keysC st.rests = keysC cs := by
  induction h with
  | refl => exact ⟨st1_OI ho, st1_keys⟩
  | @tail b G h1 h2 _ ih =>
    have pi := (steps_inv ho h1).1
    exact ⟨charge_OI pi ih.2 ih.1 (cut_closed pi.so h2) (good_cut h2) (cut_tied pi.so h2), by rw [keys_charge]; exact ih.2⟩

theorem sum_add {α : Type} (l : List α) (f g : α → Int) : (l.map fun t => f t + g t).sum = (l.map f).sum + (l.map g).sum := by
  induction l with
  | nil => rfl
  | cons a r ih => simp only [List.map_cons, List.sum_cons]; rw [ih]; lia
theorem sum_if {α : Type} (l : List α) (q : α → Bool) (c : Int) : (l.map fun t => if q t = true then c else 0).sum = c * ((l.countP q : Nat) : Int) := by
  induction l with
  | nil => simp
  | cons a r ih =>
    simp only [List.map_cons, List.sum_cons, List.countP_cons]
    rw [ih]
    split
    · rw [Int.natCast_add, Int.mul_add]; simp; lia
    · simp
theorem sum_le {α : Type} (l : List α) (f g : α → Int) (h : ∀ t ∈ l, f t ≤ g t) : (l.map f).sum ≤ (l.map g).sum := by
  induction l with
  | nil => exact Int.le_refl _
  | cons a r ih =>
    simp only [List.map_cons, List.sum_cons]
    have := h a (List.mem_cons_self ..)
    have := ih fun t ht => h t (List.mem_cons_of_mem _ ht)
    lia
theorem sum_enters (l : List Int) (k : Int → Pr) : ∀ ps : List (Grp × Int), (l.map fun t => enterSum ps (k t)).sum = (ps.map fun x => x.2 * ((l.countP (fun t => entersB x.1 (k t)) : Nat) : Int)).sum
  | [] => by
    rw [List.map_nil, List.sum_nil]
    have : (fun t => enterSum [] (k t)) = fun _ : Int => (0 : Int) := rfl
    rw [this]
    induction l with
    | nil => rfl
    | cons a r ih => rw [List.map_cons, List.sum_cons, ih]; rfl
  | x :: r => by
    have e : (fun t => enterSum (x :: r) (k t)) = fun t => (if entersB x.1 (k t) = true then x.2 else 0) + enterSum r (k t) := by
      funext t
      exact enterSum_cons x r (k t)
    rw [e, sum_add, sum_if, sum_enters l k r, List.map_cons, List.sum_cons]

theorem led_enters {p : Int → Int} {g : Grp} {a : Int} (h : Led p a) (h0 : (0 : Int) ∉ g) (ha : a ∈ g) : ∃ t ∈ g, p t ∉ g := by
  induction h with
  | zero => exact absurd ha h0
  | @step t _ ih =>
    by_cases hp : p t ∈ g
    · exact ih hp
    · exact ⟨t, ha, hp⟩
theorem fam_enters {n : Nat} {cs : Cs} {p : Int → Int} (fp : FamP n cs p) {g : Grp} (hg : GoodG n g) : ∃ t ∈ others n, entersB g (p t, t) = true := by
  obtain ⟨a, ha⟩ : ∃ a, a ∈ g := by
    cases hgg : g with
    | nil => exact absurd hgg hg.ne
    | cons a r => exact ⟨a, List.mem_cons_self ..⟩
  obtain ⟨t, ht, hp⟩ := led_enters (fp.led a (hg.ok a ha).1 (hg.ok a ha).2) (fun z => by have := (hg.ok 0 z).1; lia) ha
  exact ⟨t, mem_others.mpr (hg.ok t ht), by simp [entersB, ht, hp]⟩
theorem OI.rest_nn {n : Nat} {cs : Cs} {st : PSt} (pi : PI n st) (hk : keysC st.rests = keysC cs) (x : OI n cs st) {k : Pr} (h : k ∈ keysC cs) : enterSum st.prices k ≤ costOf cs k := by
  have h1 := x.rest k h
  have h2 : 0 ≤ costOf st.rests k := by
    unfold costOf
    cases e : lookC st.rests k with
    | none => exact Int.le_refl _
    | some c => exact pi.nn _ (look_some_mem e)
  lia
noncomputable def total (st : PSt) : Int := (st.prices.map (·.2)).sum
theorem weak {n : Nat} {cs : Cs} {st : PSt} (pi : PI n st) (hk : keysC st.rests = keysC cs) (x : OI n cs st) {p : Int → Int} (fp : FamP n cs p) : total st ≤ worthP n cs p := by
  have h1 : ((others n).map fun t => enterSum st.prices (p t, t)).sum ≤ worthP n cs p := by
    refine sum_le _ _ _ fun t ht => ?_
    have := mem_others.mp ht
    exact x.rest_nn pi hk (fp.has t this.1 this.2)
  rw [sum_enters] at h1
  refine Int.le_trans (sum_le st.prices _ _ fun y hy => ?_) h1
  obtain ⟨hg, hp⟩ := x.pos y hy
  obtain ⟨t, ht, hb⟩ := fam_enters fp hg
  have : 0 < (others n).countP fun t => entersB y.1 (p t, t) := List.countP_pos_iff.mpr ⟨t, ht, hb⟩
  have h3 : y.2 * 1 ≤ y.2 * (((others n).countP (fun t => entersB y.1 (p t, t)) : Nat) : Int) := Int.mul_le_mul_of_nonneg_left (by lia) (by lia)
  lia
theorem count_le_one {l : List Int} (hn : l.Nodup) {q : Int → Bool} (h : ∀ a ∈ l, ∀ b ∈ l, q a = true → q b = true → a = b) : l.countP q ≤ 1 := by
  induction l with
  | nil => simp
  | cons a r ih =>
    obtain ⟨h1, h2⟩ := List.nodup_cons.mp hn
    rw [List.countP_cons]
    by_cases ha : q a = true
    · have : r.countP q = 0 := by
        rw [List.countP_eq_zero]
        intro b hb hq
        have := h a (List.mem_cons_self ..) b (List.mem_cons_of_mem _ hb) ha hq
        exact h1 (this ▸ hb)
      rw [this, if_pos ha]
      exact Nat.le_refl _
    · rw [if_neg ha]
      exact ih h2 fun x hx y hy => h x (List.mem_cons_of_mem _ hx) y (List.mem_cons_of_mem _ hy)

theorem strong {n : Nat} {cs : Cs} {st : PSt} (pi : PI n st) (hk : keysC st.rests = keysC cs) (x : OI n cs st) {p : Int → Int} (fp : FamP n cs p) (hs : ∀ t ∈ others n, (p t, t) ∈ st.spent)
    (once : ∀ y ∈ st.prices, ∀ a ∈ others n, ∀ b ∈ others n, entersB y.1 (p a, a) = true → entersB y.1 (p b, b) = true → a = b) : worthP n cs p = total st := by
  refine Int.le_antisymm ?_ (weak pi hk x fp)
  have h1 : worthP n cs p ≤ ((others n).map fun t => enterSum st.prices (p t, t)).sum := by
    refine sum_le _ _ _ fun t ht => ?_
    have := mem_others.mp ht
    have h1 := x.rest _ (fp.has t this.1 this.2)
    have h2 := x.nil _ (hs t ht)
    lia
  rw [sum_enters] at h1
  refine Int.le_trans h1 (sum_le st.prices _ _ fun y hy => ?_)
  obtain ⟨hg, hp⟩ := x.pos y hy
  have : (others n).countP (fun t => entersB y.1 (p t, t)) ≤ 1 := count_le_one (others_nd n) (once y hy)
  have h3 : y.2 * (((others n).countP (fun t => entersB y.1 (p t, t)) : Nat) : Int) ≤ y.2 * 1 := Int.mul_le_mul_of_nonneg_left (by lia) (by lia)
  lia

noncomputable def parF (f : Fam) (t : Int) : Int := (f.getD t.toNat none).getD 0
theorem led_congr {p p' : Int → Int} {ks : List Int} (h : ∀ t ∈ ks, t ≠ 0 → p t ∈ ks ∧ p' t = p t) {t : Int} (l : Led p t) (ht : t ∈ ks) : Led p' t := by
  induction l with
  | zero => exact .zero
  | @step t _ ih =>
    by_cases h0 : t = 0
    · rw [h0]; exact .zero
    · obtain ⟨h1, h2⟩ := h t ht h0
      have := ih h1
      rw [← h2] at this
      exact .step this
structure GP (n : Nat) (spent : List Pr) (x : Fam × List Int) : Prop where
  sp : ∀ t ∈ x.2, t ≠ 0 → (parF x.1 t, t) ∈ spent ∧ parF x.1 t ∈ x.2 ∧ x.1.getD t.toNat none ≠ none
  led : ∀ t ∈ x.2, Led (parF x.1) t
  hd : x.1.getD 0 none = none
  once : ∀ g : Grp, (∃ pre post, spent = pre ++ post ∧ (∀ k ∈ pre, entersB g k = false) ∧ ∀ c ∈ g, ∀ b ∈ g, Reach pre b c) → ∀ a ∈ x.2, ∀ b ∈ x.2, a ≠ 0 → b ≠ 0 → entersB g (parF x.1 a, a) = true → entersB g (parF x.1 b, b) = true → a = b
theorem parF_set {f : Fam} {i : Nat} {v : Int} {t : Int} (h : t.toNat ≠ i) : parF (f.set i (some v)) t = parF f t ∧ (f.set i (some v)).getD t.toNat none = f.getD t.toNat none := by
  have : (f.set i (some v)).getD t.toNat none = f.getD t.toNat none := by
    simp [List.getD, List.getElem?_set, Ne.symm h]
  exact ⟨by unfold parF; rw [this], this⟩
theorem parF_at {f : Fam} {v : Int} {t : Int} (h : t.toNat < f.length) : parF (f.set t.toNat (some v)) t = v ∧ (f.set t.toNat (some v)).getD t.toNat none = some v := by
  have : (f.set t.toNat (some v)).getD t.toNat none = some v := by
    simp [List.getD, List.getElem?_set, h]
  exact ⟨by unfold parF; rw [this]; rfl, this⟩
theorem enters_in {g : Grp} {k : Pr} (h : entersB g k = true) : k.2 ∈ g ∧ k.1 ∉ g := by
  unfold entersB at h
  simpa using h
theorem grow_GP {n : Nat} {spent : List Pr} (so : SpOk n spent) (hn : 1 ≤ n) (hr : ∀ t : Int, 1 ≤ t → t < n → Reach spent t 0) : ∀ i, i + 1 ≤ n → GP n spent (growI n spent i)
  | 0, _ => by
    refine ⟨fun t ht h0 => absurd (List.mem_singleton.mp ht) h0, fun t ht => ?_, ?_, fun g _ a ha b hb h0 => absurd (List.mem_singleton.mp ha) h0⟩
    · rw [List.mem_singleton.mp ht]; exact .zero
    · show (List.replicate n none).getD 0 none = none
      cases n with
      | zero => rfl
      | succ m => rfl
  | i + 1, h => by
    obtain ⟨g, hl⟩ := grow_inv so hn hr i (by lia)
    have G := grow_GP so hn hr i (by lia)
    obtain ⟨k, e, hk, h1, h2⟩ := find_leads g (by lia) hr
    have e2 : growI n spent (i + 1) = ((growI n spent i).1.set k.2.toNat (some k.1), (growI n spent i).2 ++ [k.2]) := by
      show growStep spent (growI n spent i) = _
      unfold growStep
      rw [e]
    rw [e2]
    generalize growI n spent i = x at *
    obtain ⟨f, ks⟩ := x
    have hk2 := (so.ok k hk).2
    have hk0 : k.2 ≠ 0 := fun z => h2 (z ▸ g.zero)
    have hlt : k.2.toNat < f.length := by have : f.length = n := g.fl; lia
    have pold : ∀ t ∈ ks, parF (f.set k.2.toNat (some k.1)) t = parF f t ∧ (f.set k.2.toNat (some k.1)).getD t.toNat none = f.getD t.toNat none := fun t ht => by
      refine parF_set fun z => ?_
      have := (g.ok t ht).1
      have e3 : t = k.2 := by lia
      exact h2 (e3 ▸ ht)
    have pnew := parF_at (f := f) (v := k.1) hlt
    refine ⟨fun t ht h0 => ?_, fun t ht => ?_, ?_, fun gr hgr a ha b hb ha0 hb0 h3 h4 => ?_⟩
    · rcases List.mem_append.mp ht with ht | ht
      · obtain ⟨a1, a2, a3⟩ := G.sp t ht h0
        show (parF (f.set _ _) t, t) ∈ spent ∧ parF (f.set _ _) t ∈ ks ++ [k.2] ∧ (f.set _ _).getD t.toNat none ≠ none
        rw [(pold t ht).1, (pold t ht).2]
        exact ⟨a1, List.mem_append_left _ a2, a3⟩
      · rw [List.mem_singleton.mp ht]
        show (parF (f.set _ _) k.2, k.2) ∈ spent ∧ parF (f.set _ _) k.2 ∈ ks ++ [k.2] ∧ (f.set _ _).getD k.2.toNat none ≠ none
        rw [pnew.1, pnew.2]
        exact ⟨hk, List.mem_append_left _ h1, fun z => nomatch z⟩
    · have old : ∀ t ∈ ks, Led (parF (f.set k.2.toNat (some k.1))) t := fun t ht => led_congr (fun s hs hs0 => ⟨(G.sp s hs hs0).2.1, (pold s hs).1⟩) (G.led t ht) ht
      rcases List.mem_append.mp ht with ht | ht
      · exact old t ht
      · rw [List.mem_singleton.mp ht]
        refine .step ?_
        show Led (parF (f.set k.2.toNat (some k.1))) (parF (f.set k.2.toNat (some k.1)) k.2)
        rw [pnew.1]
        exact old k.1 h1
    · have h5 := (pold 0 g.zero).2
      exact h5.trans G.hd
    · -- a group is not entered again
      have key : ∀ a ∈ ks, a ≠ 0 → entersB gr (parF f a, a) = true → entersB gr k = true → False := fun a ha _ h3 h4 => by
        obtain ⟨pre, post, e1, e3, e4⟩ := hgr
        have ha' := (enters_in h3).1
        have hb' := (enters_in h4).1
        obtain ⟨k', hk', hb2⟩ := leads_exists (e4 a ha' k.2 hb') ha h2
        have hfind : ∃ k0, pre.find? (leadsB ks) = some k0 := by
          cases hf : pre.find? (leadsB ks) with
          | none => exact absurd hb2 (by simpa using List.find?_eq_none.mp hf k' hk')
          | some k0 => exact ⟨k0, rfl⟩
        obtain ⟨k0, hf⟩ := hfind
        have e5 : spent.find? (leadsB ks) = some k0 := by rw [e1, List.find?_append, hf]; rfl
        have e6 : k0 = k := by
          have : spent.find? (leadsB ks) = some k := e
          rw [this] at e5
          exact (Option.some.inj e5).symm
        have := e3 k (e6 ▸ List.mem_of_find?_eq_some hf)
        rw [h4] at this
        cases this
      rcases List.mem_append.mp ha with ha | ha <;> rcases List.mem_append.mp hb with hb | hb
      · have h3' : entersB gr (parF f a, a) = true := by rw [← (pold a ha).1]; exact h3
        have h4' : entersB gr (parF f b, b) = true := by rw [← (pold b hb).1]; exact h4
        exact G.once gr hgr a ha b hb ha0 hb0 h3' h4'
      · have h3' : entersB gr (parF f a, a) = true := by rw [← (pold a ha).1]; exact h3
        have eb := List.mem_singleton.mp hb
        have h4' : entersB gr k = true := by
          have : (parF (f.set k.2.toNat (some k.1)) b, b) = k := by rw [eb, pnew.1]
          rw [← this]; exact h4
        exact (key a ha ha0 h3' h4').elim
      · have h4' : entersB gr (parF f b, b) = true := by rw [← (pold b hb).1]; exact h4
        have ea := List.mem_singleton.mp ha
        have h3' : entersB gr k = true := by
          have : (parF (f.set k.2.toNat (some k.1)) a, a) = k := by rw [ea, pnew.1]
          rw [← this]; exact h3
        exact (key b hb hb0 h4' h3').elim
      · rw [List.mem_singleton.mp ha, List.mem_singleton.mp hb]

structure IsFam (n : Nat) (cs : Cs) (f : Fam) : Prop where
  len : f.length = n
  hd : f.getD 0 none = none
  full : ∀ t : Int, 1 ≤ t → t < n → f.getD t.toNat none ≠ none
  fp : FamP n cs (parF f)
theorem grow_all {n : Nat} {spent : List Pr} (so : SpOk n spent) (hn : 1 ≤ n) (hr : ∀ t : Int, 1 ≤ t → t < n → Reach spent t 0) : ∀ t : Int, 0 ≤ t → t < n → t ∈ (growI n spent (n - 1)).2 := by
  intro t h1 h2
  obtain ⟨g, hl⟩ := grow_inv so hn hr (n - 1) (by lia)
  refine Classical.byContradiction fun hno => ?_
  have h3 : ∀ x ∈ (growI n spent (n - 1)).2, x ∈ ((List.range n).map Int.ofNat).erase t := fun x hx => by
    have hne : x ≠ t := fun e => hno (e ▸ hx)
    exact (List.mem_erase_of_ne hne).mpr (mem_tellers.mpr (g.ok x hx))
  have h4 := nodup_len g.nd h3
  rw [List.length_erase_of_mem (mem_tellers.mpr ⟨h1, h2⟩), hl] at h4
  simp at h4
  lia

theorem grown_fam {n : Nat} {cs : Cs} {st : PSt} (hn : 1 ≤ n) (ho : HsOk n cs) (pr : Priced n cs st) (h : st.lonely = none) : IsFam n cs (growF n st.spent) ∧ worthP n cs (parF (growF n st.spent)) = total st := by
  have pi := (steps_inv ho pr.1).1
  obtain ⟨oi, hk⟩ := steps_OI ho pr.1
  have hr := priced_reach hn pr h
  have G := grow_GP pi.so hn hr (n - 1) (by lia)
  have al := grow_all pi.so hn hr
  have GI := (grow_inv pi.so hn hr (n - 1) (by lia)).1
  have fp : FamP n cs (parF (growF n st.spent)) := by
    refine ⟨fun t h1 h2 => ?_, fun t h1 h2 => G.led t (al t (by lia) h2)⟩
    exact hk ▸ pi.ssub _ (G.sp t (al t (by lia) h2) (by lia)).1
  refine ⟨⟨GI.fl, G.hd, fun t h1 h2 => (G.sp t (al t (by lia) h2) (by lia)).2.2, fp⟩, ?_⟩
  refine strong pi hk oi fp (fun t ht => ?_) fun y hy a ha b hb h3 h4 => ?_
  · have := mem_others.mp ht
    exact (G.sp t (al t (by lia) this.2) (by lia)).1
  · have h5 := mem_others.mp ha
    have h6 := mem_others.mp hb
    exact G.once y.1 (oi.tied y hy) a (al a (by lia) h5.2) b (al b (by lia) h6.2) (by lia) (by lia) h3 h4

theorem lonely_none {n : Nat} {cs : Cs} {st : PSt} (pr : Priced n cs st) {g : Grp} (h : st.lonely = some g) {p : Int → Int} (fp : FamP n cs p) : False := by
  obtain ⟨hg, hk⟩ := priced_lonely pr h
  obtain ⟨t, ht, hb⟩ := fam_enters fp hg
  have := mem_others.mp ht
  rw [hk _ (fp.has t this.1 this.2)] at hb
  cases hb
structure IsLeast (n : Nat) (cs : Cs) (c : Int) : Prop where
  at' : ∃ f, IsFam n cs f ∧ worthP n cs (parF f) = c
  le : ∀ p, FamP n cs p → c ≤ worthP n cs p
theorem lw_least {n : Nat} {cs : Cs} (hn : 1 ≤ n) (ho : HsOk n cs) {c : Int} (h : lwF n cs = some c) : IsLeast n cs c := by
  obtain ⟨st, pr, h1, rfl⟩ := lw_some ho h
  obtain ⟨f1, f2⟩ := grown_fam hn ho pr h1
  have pi := (steps_inv ho pr.1).1
  obtain ⟨oi, hk⟩ := steps_OI ho pr.1
  exact ⟨⟨_, f1, f2⟩, fun p fp => weak pi hk oi fp⟩
theorem lw_no {n : Nat} {cs : Cs} (ho : HsOk n cs) (h : lwF n cs = none) {p : Int → Int} (fp : FamP n cs p) : False := by
  obtain ⟨st, g, pr, hg⟩ := lw_none ho h
  exact lonely_none pr hg fp
theorem least_unique {n : Nat} {cs : Cs} {a b : Int} (ha : IsLeast n cs a) (hb : IsLeast n cs b) : a = b := by
  obtain ⟨f, h1, h2⟩ := ha.at'
  obtain ⟨g, h3, h4⟩ := hb.at'
  have := ha.le _ h3.fp
  have := hb.le _ h1.fp
  lia

theorem lw_iff {n : Nat} {cs : Cs} (hn : 1 ≤ n) (ho : HsOk n cs) {c : Int} : lwF n cs = some c ↔ IsLeast n cs c := by
  constructor
  · exact lw_least hn ho
  · intro h
    cases e : lwF n cs with
    | none =>
      obtain ⟨f, h1, _⟩ := h.at'
      exact (lw_no ho e h1.fp).elim
    | some d => rw [least_unique (lw_least hn ho e) h]
theorem lw_none_iff {n : Nat} {cs : Cs} (hn : 1 ≤ n) (ho : HsOk n cs) : lwF n cs = none ↔ ∀ p, ¬ FamP n cs p := by
  constructor
  · exact fun h p fp => lw_no ho h fp
  · intro h
    cases e : lwF n cs with
    | none => rfl
    | some d =>
      obtain ⟨f, h1, _⟩ := (lw_least hn ho e).at'
      exact absurd h1.fp (h _)
end Hw

set_option maxHeartbeats 1000000

namespace Hw
open PySem L2 HwSort
theorem w_is {b : Bool} {A B : Prop} (hb : b = true) (h : A) : if b = true then A else B := by rw [if_pos hb]; exact h
noncomputable def iterP (p : Int → Int) : Nat → Int → Int
  | 0, t => t
  | k + 1, t => if iterP p k t = 0 then 0 else p (iterP p k t)
theorem iter_zero (p : Int → Int) : ∀ k, iterP p k 0 = 0
  | 0 => rfl
  | k + 1 => by show (if iterP p k 0 = 0 then 0 else _) = 0; rw [iter_zero p k, if_pos rfl]
theorem iter_add (p : Int → Int) (a t : Int) (j : Nat) : ∀ k, iterP p (j + k) t = iterP p k (iterP p j t)
  | 0 => rfl
  | k + 1 => by
    show (if iterP p (j + k) t = 0 then 0 else p (iterP p (j + k) t)) = if iterP p k (iterP p j t) = 0 then 0 else p (iterP p k (iterP p j t))
    rw [iter_add p a t j k]
theorem iter_one {p : Int → Int} {t : Int} (h : t ≠ 0) : iterP p 1 t = p t := by show (if t = 0 then 0 else p t) = _; rw [if_neg h]
theorem led_iter {p : Int → Int} {t : Int} (h : Led p t) : ∃ k, iterP p k t = 0 := by
  induction h with
  | zero => exact ⟨0, rfl⟩
  | @step t _ ih =>
    by_cases h0 : t = 0
    · exact ⟨0, h0⟩
    · obtain ⟨k, hk⟩ := ih
      refine ⟨1 + k, ?_⟩
      rw [iter_add p 0, iter_one h0]
      exact hk
theorem iter_led {p : Int → Int} : ∀ {k : Nat} {t : Int}, iterP p k t = 0 → Led p t
  | 0, t, h => by rw [show t = 0 from h]; exact .zero
  | k + 1, t, h => by
    by_cases h0 : t = 0
    · rw [h0]; exact .zero
    · rw [Nat.add_comm, iter_add p 0, iter_one h0] at h
      exact .step (iter_led h)
theorem least_nat {q : Nat → Prop} (h : ∃ k, q k) : ∃ k, q k ∧ ∀ j, j < k → ¬ q j := by
  obtain ⟨k, hk⟩ := h
  induction k using Nat.strongRecOn with
  | _ k ih =>
    by_cases h1 : ∃ j, j < k ∧ q j
    · obtain ⟨j, hj, hq⟩ := h1
      exact ih j hj hq
    · exact ⟨k, hk, fun j hj hq => h1 ⟨j, hj, hq⟩⟩

theorem iter_n {n : Nat} {p : Int → Int} (hp : ∀ t : Int, 1 ≤ t → t < n → 0 ≤ p t ∧ p t < n) {t : Int} (h0 : 0 ≤ t) (ht : t < n) (h : Led p t) : iterP p n t = 0 := by
  obtain ⟨d, hd, hmin⟩ := least_nat (led_iter h)
  have hin : ∀ j, 0 ≤ iterP p j t ∧ iterP p j t < n := by
    intro j
    induction j with
    | zero => exact ⟨h0, ht⟩
    | succ j ih =>
      show 0 ≤ (if iterP p j t = 0 then 0 else p (iterP p j t)) ∧ (if iterP p j t = 0 then 0 else p (iterP p j t)) < n
      split
      · lia
      · exact hp _ (by lia) ih.2
  have hnd : ((List.range d).map fun j => iterP p j t).Nodup := by
    rw [List.nodup_iff_pairwise_ne, List.pairwise_map]
    refine List.Pairwise.imp_of_mem ?_ List.pairwise_lt_range
    intro a b ha hb hab e
    have hb' := List.mem_range.mp hb
    have e1 : iterP p (b + (d - b)) t = 0 := by rw [show b + (d - b) = d by lia]; exact hd
    rw [iter_add p 0, ← e, ← iter_add p 0] at e1
    exact hmin (a + (d - b)) (by lia) e1
  have hle := nodup_len hnd (m := (List.range n).map Int.ofNat) fun x hx => by
    obtain ⟨j, _, rfl⟩ := List.mem_map.mp hx
    exact mem_tellers.mpr (hin j)
  simp at hle
  have : iterP p (d + (n - d)) t = 0 := by rw [iter_add p 0, hd]; exact iter_zero p _
  rwa [show d + (n - d) = n by lia] at this

structure FamShape (n : Nat) (cs : Cs) (f : Fam) : Prop where
  len : f.length = n
  hd : f.getD 0 none = none
  full : ∀ t : Int, 1 ≤ t → t < n → f.getD t.toNat none ≠ none
  has : ∀ t : Int, 1 ≤ t → t < n → (parF f t, t) ∈ keysC cs
theorem IsFam.shape {n : Nat} {cs : Cs} {f : Fam} (h : IsFam n cs f) : FamShape n cs f := ⟨h.len, h.hd, h.full, h.fp.has⟩
theorem FamShape.at {n : Nat} {cs : Cs} {f : Fam} (h : FamShape n cs f) {t : Int} (h1 : 1 ≤ t) (h2 : t < n) : (f.map optV)[t.toNat]? = some (V.int (parF f t)) := by
  have hl : t.toNat < f.length := by have := h.len; lia
  have h3 := h.full t h1 h2
  have h4 : f.getD t.toNat none = f[t.toNat] := by simp [List.getD, hl]
  rw [List.getElem?_map, List.getElem?_eq_getElem hl]
  have h5 : parF f t = (f[t.toNat]).getD 0 := by unfold parF; rw [h4]
  rw [h4] at h3
  rw [h5]
  cases e : f[t.toNat] with
  | none => exact absurd e h3
  | some v => rfl
theorem FamShape.at0 {n : Nat} {cs : Cs} {f : Fam} (h : FamShape n cs f) (hn : 1 ≤ n) : (f.map optV)[0]? = some V.non := by
  have hl : 0 < f.length := by have := h.len; lia
  have h4 : f.getD 0 none = f[0] := by simp [List.getD, hl]
  rw [List.getElem?_map, List.getElem?_eq_getElem hl]
  rw [← h4, h.hd]
  rfl
open Classical in
noncomputable def ledB (n : Nat) (f : Fam) : Bool := decide (∀ t : Int, 1 ≤ t → t < n → Led (parF f) t)
theorem IsFam.ledB {n : Nat} {cs : Cs} {f : Fam} (h : IsFam n cs f) : ledB n f = true := by unfold Hw.ledB; exact @decide_eq_true _ (Classical.propDecidable _) h.fp.led
inductive sp_costs (vs : List V) (H : Hp) (Q : VK) (E : XK) : Prop
  | mk (l : Addr) (rs : List V) (cs : Cs) (h09 : vs = [.ref l]) (h19 : H l = some (.lst rs)) (h29 : TupRefs H rs (cs.map tri)) (h39 : (keysC cs).Nodup) (h49 : cs.length ≤ 900) (h59 : ∀ d H', Same H H' → H d = none → H' d = some (.dT (enc cs)) → Q (.ref d) H') : sp_costs vs H Q E
inductive sp_family (vs : List V) (H : Hp) (Q : VK) (E : XK) : Prop
  | mk (l d : Addr) (f : Fam) (cs : Cs) (n : Nat) (h09 : vs = [.ref l, .ref d, .int n]) (h19 : H l = some (.lst (f.map optV))) (h29 : H d = some (.dT (enc cs))) (h39 : 1 ≤ n) (h49 : n ≤ 12) (h59 : (∀ k ∈ keysC cs, Ok2 n k.1 k.2)) (h69 : FamShape n cs f) (h79 : ∀ H', Same H H' → Q (.bl (ledB n f)) H') : sp_family vs H Q E
theorem put_take {cs : Cs} (nd : (keysC cs).Nodup) {i : Nat} {e : Pr × Int} (he : cs[i]? = some e) : cs.take (i + 1) = putC (cs.take i) (e.1.1, e.1.2) e.2 := by
  have hil : i < cs.length := (List.getElem?_eq_some_iff.mp he).1
  rw [put_new]
  · rw [List.take_add_one, he]
    rfl
  · intro hk
    obtain ⟨e', he', e2⟩ := List.mem_map.mp hk
    obtain ⟨j, hj, e3⟩ := List.mem_iff_getElem.mp he'
    rw [List.length_take] at hj
    rw [List.getElem_take] at e3
    have h1 : (keysC cs)[j]? = some e.1 := by
      unfold keysC
      rw [List.getElem?_map, List.getElem?_eq_getElem (by lia), e3]
      exact congrArg some e2
    have h2 : (keysC cs)[i]? = some e.1 := by
      unfold keysC
      rw [List.getElem?_map, he]
      rfl
    have := (List.getElem?_inj (by rw [keys_len]; lia) nd).mp (h1.trans h2.symm)
    lia
theorem tri_get {H : Hp} {rs : List V} {cs : Cs} (tr : TupRefs H rs (cs.map tri)) {i : Nat} {x : V} (hx : rs[i]? = some x) : ∃ b e, x = .ref b ∧ cs[i]? = some e ∧ H b = some (.tup [.int e.1.1, .int e.1.2, .int e.2]) := by
  obtain ⟨b, ks, rfl, hks, hb⟩ := tr.get hx
  rw [List.getElem?_map] at hks
  cases he : cs[i]? with
  | none => rw [he] at hks; cases hks
  | some e =>
    rw [he] at hks
    obtain rfl := Option.some.inj hks
    exact ⟨b, e, rfl, rfl, hb⟩

theorem keys_few {n : Nat} {cs : Cs} (nd : (keysC cs).Nodup) (ok : ∀ k ∈ keysC cs, Ok2 n k.1 k.2) : cs.length ≤ n * n := by
  have h := nodup_len nd (m := ((List.range n).map Int.ofNat).flatMap fun a => ((List.range n).map Int.ofNat).map fun b => (a, b)) fun k hk => by
    obtain ⟨h1, h2, h3, h4, _, _⟩ := ok k hk
    refine List.mem_flatMap.mpr ⟨k.1, mem_tellers.mpr ⟨h1, h2⟩, List.mem_map.mpr ⟨k.2, mem_tellers.mpr ⟨h3, h4⟩, rfl⟩⟩
  rw [keys_len] at h
  refine Nat.le_trans h (Nat.le_of_eq ?_)
  rw [List.length_flatMap]
  simp
  rw [show ((fun _ : Int => n) ∘ Int.ofNat) = fun _ => n from rfl, List.map_const']
  simp
inductive sp_lack (C : Addr) (vs : List V) (H : Hp) (Q : VK) (E : XK) : Prop
  | mk (p d : Addr) (n : Nat) (cs : Cs) (one other : Int) (h09 : vs = [.ref p, .int one, .int other]) (h19 : BookAt C H p d n cs) (h29 : BkOk n cs) (h39 : 1 ≤ n) (h49 : n ≤ 12) (h59 : refuses n one other = none) (h69 : (lookC cs (one, other)).isSome = true) (h79 : ∀ hs H', Same H H' → SortedOf cs hs → Q (optV (lackF n hs one other)) H') : sp_lack C vs H Q E
theorem ok2_refuses {n : Int} {one other : Int} (h : Ok2 n one other) : refuses n one other = none := by
  obtain ⟨h1, h2, h3, h4, h5, h6⟩ := h
  unfold refuses
  rw [if_neg (fun z => z ⟨⟨h1, h2⟩, h3, h4⟩), if_neg h5, if_neg h6]
theorem look_isSome {cs : Cs} {k : Pr} (h : k ∈ keysC cs) : (lookC cs k).isSome = true := by
  cases e : lookC cs k with
  | none => exact absurd h (look_none e)
  | some c => rfl
end Hw

set_option maxHeartbeats 1000000

namespace Hw
open PySem L2 HwSort
theorem costOf_mem {hs : Cs} (nd : (keysC hs).Nodup) {k : Pr} {v : Int} (h : (k, v) ∈ hs) : costOf hs k = v := by
  unfold costOf
  rw [look_mem nd h]
  rfl
theorem key_mem {hs : Cs} {k : Pr} (h : k ∈ keysC hs) : ∃ v, (k, v) ∈ hs := by
  obtain ⟨e, he, rfl⟩ := List.mem_map.mp h
  exact ⟨e.2, he⟩
theorem nd_filter {hs : Cs} (nd : (keysC hs).Nodup) (P : Pr × Int → Bool) : (keysC (hs.filter P)).Nodup := nd.sublist (List.filter_sublist.map _)
theorem costOf_filter {hs : Cs} (nd : (keysC hs).Nodup) {P : Pr × Int → Bool} {k : Pr} (h : k ∈ keysC (hs.filter P)) : costOf (hs.filter P) k = costOf hs k := by
  obtain ⟨v, hv⟩ := key_mem h
  rw [costOf_mem (nd_filter nd P) hv, costOf_mem nd (List.mem_filter.mp hv).1]
theorem fam_sub {n : Nat} {cs hs : Cs} (sub : ∀ k ∈ keysC cs, k ∈ keysC hs) {p : Int → Int} (fp : FamP n cs p) : FamP n hs p := ⟨fun t h1 h2 => sub _ (fp.has t h1 h2), fp.led⟩
theorem filter_sub (hs : Cs) (P : Pr × Int → Bool) : ∀ k ∈ keysC (hs.filter P), k ∈ keysC hs := fun k hk => by
  obtain ⟨e, he, rfl⟩ := List.mem_map.mp hk
  exact List.mem_map_of_mem (List.mem_filter.mp he).1
theorem worth_congr {n : Nat} {cs hs : Cs} {p q : Int → Int} (h : ∀ t : Int, 1 ≤ t → t < n → costOf cs (p t, t) = costOf hs (q t, t)) : worthP n cs p = worthP n hs q := by
  unfold worthP
  congr 1
  apply List.map_congr_left
  intro t ht
  have := mem_others.mp ht
  exact h t this.1 this.2
theorem worth_filter {n : Nat} {hs : Cs} (nd : (keysC hs).Nodup) {P : Pr × Int → Bool} {p : Int → Int} (fp : FamP n (hs.filter P) p) : worthP n (hs.filter P) p = worthP n hs p := worth_congr fun t h1 h2 => costOf_filter nd (fp.has t h1 h2)
theorem lw_mono {n : Nat} {hs : Cs} (hn : 1 ≤ n) (ho : HsOk n hs) (P : Pr × Int → Bool) {h m : Int} (e1 : lwF n (hs.filter P) = some h) (e2 : lwF n hs = some m) : m ≤ h := by
  obtain ⟨f, h1, h2⟩ := (lw_least hn (ho.filter P) e1).at'
  rw [← h2, worth_filter ho.nd h1.fp]
  exact (lw_least hn ho e2).le _ (fam_sub (filter_sub hs P) h1.fp)
theorem fam_only {n : Nat} {hs : Cs} {one other : Int} (h1 : 1 ≤ other) (h2 : other < n) {p : Int → Int} : FamP n (withOnly hs one other) p ↔ FamP n hs p ∧ p other = one := by
  constructor
  · intro fp
    refine ⟨fam_sub (filter_sub hs _) fp, ?_⟩
    obtain ⟨v, hv⟩ := key_mem (fp.has other h1 h2)
    have := (List.mem_filter.mp hv).2
    simpa using this
  · rintro ⟨fp, e⟩
    refine ⟨fun t a b => ?_, fp.led⟩
    obtain ⟨v, hv⟩ := key_mem (fp.has t a b)
    refine List.mem_map.mpr ⟨_, List.mem_filter.mpr ⟨hv, ?_⟩, rfl⟩
    by_cases ht : t = other
    · subst ht
      simp [e]
    · simp [ht]
theorem worth_only {n : Nat} {hs : Cs} (nd : (keysC hs).Nodup) {one other : Int} {p : Int → Int} (fp : FamP n (withOnly hs one other) p) : worthP n (withOnly hs one other) p = worthP n hs p := worth_filter nd fp

theorem fam_congr {n : Nat} {hs : Cs} (ok : ∀ k ∈ keysC hs, Ok2 n k.1 k.2) {p q : Int → Int} (h : ∀ t : Int, 1 ≤ t → t < n → q t = p t) (fp : FamP n hs p) : FamP n hs q := by
  refine ⟨fun t h1 h2 => by rw [h t h1 h2]; exact fp.has t h1 h2, fun t h1 h2 => ?_⟩
  refine led_congr (ks := (List.range n).map Int.ofNat) (fun s hs0 hs1 => ?_) (fp.led t h1 h2) (mem_tellers.mpr ⟨by lia, h2⟩)
  have := mem_tellers.mp hs0
  have h3 := ok _ (fp.has s (by lia) this.2)
  exact ⟨mem_tellers.mpr ⟨h3.1, h3.2.1⟩, h s (by lia) this.2⟩
theorem worth_same {n : Nat} {hs : Cs} {p q : Int → Int} (h : ∀ t : Int, 1 ≤ t → t < n → q t = p t) : worthP n hs q = worthP n hs p := worth_congr fun t h1 h2 => by rw [h t h1 h2]
theorem lw_only_iff {n : Nat} {hs : Cs} (hn : 1 ≤ n) (ho : HsOk n hs) {one other goal : Int} (h1 : 1 ≤ other) (h2 : other < n) (hg : lwF n hs = some goal) : lwF n (withOnly hs one other) = some goal ↔ ∃ p, FamP n hs p ∧ worthP n hs p = goal ∧ p other = one := by
  have L := lw_least hn ho hg
  constructor
  · intro h
    obtain ⟨f, a, b⟩ := (lw_least hn (ho.filter _) h).at'
    obtain ⟨c, d⟩ := (fam_only h1 h2).mp a.fp
    exact ⟨parF f, c, by rw [← worth_only ho.nd a.fp]; exact b, d⟩
  · rintro ⟨p, fp, e, e1⟩
    have fp' := (fam_only h1 h2).mpr ⟨fp, e1⟩
    cases e2 : lwF n (withOnly hs one other) with
    | none => exact (lw_no (ho.filter _) e2 fp').elim
    | some c =>
      have L2 := lw_least hn (ho.filter _) e2
      have a1 := L2.le p fp'
      rw [worth_filter ho.nd fp'] at a1
      have a2 := lw_mono hn ho _ e2 hg
      rw [show c = goal by lia]

noncomputable def lexLe (n : Nat) (f q : Int → Int) : Prop := (∀ t : Int, 1 ≤ t → t < n → q t = f t) ∨ ∃ t : Int, 1 ≤ t ∧ t < n ∧ f t < q t ∧ ∀ s : Int, 1 ≤ s → s < t → q s = f s
structure SI (n : Nat) (hs hi : Cs) (goal : Int) (i : Nat) (f : Int → Int) : Prop where
  sub : ∀ e ∈ hi, e ∈ hs
  lw : lwF n hi = some goal
  fam : ∀ p, FamP n hi p ↔ FamP n hs p ∧ ∀ t : Int, 1 ≤ t → t < 1 + (i : Int) → p t = f t
  one : ∀ k ∈ keysC hi, k.2 < 1 + (i : Int) → k.1 = f k.2
  lex : ∀ q, FamP n hs q → worthP n hs q = goal → (∀ t : Int, 1 ≤ t → t < 1 + (i : Int) → q t = f t) ∨ ∃ t : Int, 1 ≤ t ∧ t < 1 + (i : Int) ∧ f t < q t ∧ ∀ s : Int, 1 ≤ s → s < t → q s = f s
  rise : (keysC hi).Pairwise ltP
  ok : HsOk n hi
theorem settle_find {n : Nat} {hs : Cs} {t goal : Int} : ∀ {L : Cs}, (∃ e ∈ L, e.1.2 = t ∧ lwF n (withOnly hs e.1.1 t) = some goal) → ∃ a e b, L = a ++ e :: b ∧ e.1.2 = t ∧ lwF n (withOnly hs e.1.1 t) = some goal ∧ (∀ x ∈ a, ¬ (x.1.2 = t ∧ lwF n (withOnly hs x.1.1 t) = some goal)) ∧ settleAt n hs t goal L = some (withOnly hs e.1.1 t)
  | [], ⟨_, he, _⟩ => by cases he
  | e :: r, h => by
    by_cases hc : e.1.2 = t ∧ lwF n (withOnly hs e.1.1 t) = some goal
    · exact ⟨[], e, r, rfl, hc.1, hc.2, (fun x hx => by cases hx), by unfold settleAt; rw [if_pos hc]⟩
    · obtain ⟨a, e', b, h1, h2, h3, h4, h5⟩ := settle_find (L := r) (hs := hs) (t := t) (goal := goal) (by
        obtain ⟨x, hx, h1⟩ := h
        rcases List.mem_cons.mp hx with rfl | hx
        · exact absurd h1 hc
        · exact ⟨x, hx, h1⟩)
      refine ⟨e :: a, e', b, by rw [h1]; rfl, h2, h3, fun x hx => ?_, by unfold settleAt; rw [if_neg hc]; exact h5⟩
      rcases List.mem_cons.mp hx with rfl | hx
      · exact hc
      · exact h4 x hx
theorem settle_SI {n : Nat} {hs : Cs} {goal : Int} (hn : 1 ≤ n) (ho : HsOk n hs) (hr : (keysC hs).Pairwise ltP) (hg : lwF n hs = some goal) : ∀ i, i + 1 ≤ n → ∃ f, SI n hs (settleI n hs goal i) goal i f
  | 0, _ => ⟨fun _ => 0, (fun e he => he), hg, fun p => ⟨fun h => ⟨h, fun t h1 h2 => by lia⟩, fun h => h.1⟩, fun k hk h => by
      have := (ho.ok k hk).2.2.1
      have := (ho.ok k hk).2.2.2.2.2
      lia, fun q _ _ => .inl fun t h1 h2 => by lia, hr, ho⟩
  | i + 1, hi => by
    obtain ⟨f, S⟩ := settle_SI hn ho hr hg i (by lia)
    show ∃ f, SI n hs (settledF n (settleI n hs goal i) (1 + (i : Int)) goal) goal (i + 1) f
    generalize settleI n hs goal i = hi' at S
    have t1 : (1 : Int) ≤ 1 + (i : Int) := by lia
    have t2 : 1 + (i : Int) < n := by lia
    obtain ⟨a, e, b, h1, h2, h3, h4, h5⟩ := settle_find (n := n) (hs := hi') (t := 1 + (i : Int)) (goal := goal) (L := hi') (by
      obtain ⟨g, g1, g2⟩ := (lw_least hn S.ok S.lw).at'
      obtain ⟨v, hv⟩ := key_mem (g1.fp.has _ t1 t2)
      exact ⟨_, hv, rfl, (lw_only_iff hn S.ok t1 t2 S.lw).mpr ⟨_, g1.fp, g2, rfl⟩⟩)
    have es : settledF n hi' (1 + (i : Int)) goal = withOnly hi' e.1.1 (1 + (i : Int)) := by
      unfold settledF
      rw [h5]
      rfl
    rw [es]
    have fold : ∀ t : Int, (if t = 1 + (i : Int) then e.1.1 else f t) = if t = 1 + (i : Int) then e.1.1 else f t := fun _ => rfl
    have fam' : ∀ p, FamP n (withOnly hi' e.1.1 (1 + (i : Int))) p ↔ FamP n hs p ∧ ∀ t : Int, 1 ≤ t → t < 1 + ((i + 1 : Nat) : Int) → p t = if t = 1 + (i : Int) then e.1.1 else f t := fun p => by
      rw [fam_only t1 t2, S.fam]
      constructor
      · rintro ⟨⟨a1, a2⟩, a3⟩
        refine ⟨a1, fun t b1 b2 => ?_⟩
        split
        · next e0 => rw [e0]; exact a3
        · exact a2 t b1 (by lia)
      · rintro ⟨a1, a2⟩
        refine ⟨⟨a1, fun t b1 b2 => ?_⟩, ?_⟩
        · have := a2 t b1 (by lia)
          rwa [if_neg (by lia)] at this
        · have := a2 (1 + (i : Int)) t1 (by lia)
          rwa [if_pos rfl] at this
    refine ⟨fun t => if t = 1 + (i : Int) then e.1.1 else f t, ⟨fun x hx => S.sub x (List.mem_filter.mp hx).1, h3, fam', fun k hk hlt => ?_, fun q fq hq => ?_, S.rise.sublist (List.filter_sublist.map _), S.ok.filter _⟩⟩
    · obtain ⟨v, hv⟩ := key_mem hk
      obtain ⟨m1, m2⟩ := List.mem_filter.mp hv
      show k.1 = if k.2 = 1 + (i : Int) then e.1.1 else f k.2
      split
      · next e0 => simpa [e0] using m2
      · exact S.one k (List.mem_map.mpr ⟨_, m1, rfl⟩) (by lia)
    · rcases S.lex q fq hq with hq1 | ⟨t, c1, c2, c3, c4⟩
      · -- as f so far
        have fqi : FamP n hi' q := (S.fam q).mpr ⟨fq, hq1⟩
        have wq : worthP n hi' q = goal := by
          rw [← hq]
          refine worth_congr fun t d1 d2 => ?_
          obtain ⟨v, hv⟩ := key_mem (fqi.has t d1 d2)
          rw [costOf_mem S.ok.nd hv, costOf_mem ho.nd (S.sub _ hv)]
        have hin := (lw_only_iff (one := q (1 + (i : Int))) hn S.ok t1 t2 S.lw).mpr ⟨q, fqi, wq, rfl⟩
        obtain ⟨v, hv⟩ := key_mem (fqi.has _ t1 t2)
        -- the found one is not behind it
        have hle : e.1.1 ≤ q (1 + (i : Int)) := by
          rw [h1] at hv
          rcases List.mem_append.mp hv with hv | hv
          · exact absurd ⟨rfl, hin⟩ (h4 _ hv)
          · rcases List.mem_cons.mp hv with hv | hv
            · rw [← hv]
              exact Int.le_refl _
            · have hp := S.rise
              rw [h1] at hp
              unfold keysC at hp
              rw [List.map_append, List.map_cons, List.pairwise_append] at hp
              have := (List.pairwise_cons.mp hp.2.1).1 _ (List.mem_map_of_mem hv)
              rcases this with h | ⟨h, h'⟩
              · have h' : e.1.1 < q (1 + (i : Int)) := h
                lia
              · have h'' : e.1.1 = q (1 + (i : Int)) := h
                lia
        by_cases heq : q (1 + (i : Int)) = e.1.1
        · left
          intro t d1 d2
          split
          · next e0 => rw [e0]; exact heq
          · exact hq1 t d1 (by lia)
        · right
          refine ⟨1 + (i : Int), t1, by lia, ?_, fun s d1 d2 => ?_⟩
          · show (if 1 + (i : Int) = 1 + (i : Int) then e.1.1 else _) < _
            rw [if_pos rfl]
            lia
          · show q s = if s = 1 + (i : Int) then e.1.1 else f s
            rw [if_neg (by lia)]
            exact hq1 s d1 d2
      · right
        refine ⟨t, c1, by lia, ?_, fun s d1 d2 => ?_⟩
        · show (if t = 1 + (i : Int) then e.1.1 else f t) < _
          rw [if_neg (by lia)]
          exact c3
        · show q s = if s = 1 + (i : Int) then e.1.1 else f s
          rw [if_neg (by lia)]
          exact c4 s d1 d2

theorem famOf_at {n : Nat} {f : Int → Int} {t : Int} (h1 : 1 ≤ t) (h2 : t < n) : ∀ {hs : Cs}, (∀ k ∈ keysC hs, Ok2 n k.1 k.2) → (∀ k ∈ keysC hs, k.1 = f k.2) → ∀ g : Fam, g.length = n → ((∃ k ∈ keysC hs, k.2 = t) ∨ g.getD t.toNat none = some (f t)) →
    (hs.foldl (fun f e => f.set e.1.2.toNat (some e.1.1)) g).getD t.toNat none = some (f t)
  | [], _, _, g, _, h => by
    rcases h with ⟨k, hk, _⟩ | h
    · cases hk
    · exact h
  | e :: r, ok, he, g, gl, h => by
    rw [List.foldl_cons]
    have ok' : ∀ k ∈ keysC r, Ok2 n k.1 k.2 := fun k hk => ok k (List.mem_cons_of_mem _ hk)
    have he' : ∀ k ∈ keysC r, k.1 = f k.2 := fun k hk => he k (List.mem_cons_of_mem _ hk)
    have hoe := ok e.1 (List.mem_cons_self ..)
    refine famOf_at h1 h2 ok' he' _ (by rw [List.length_set]; exact gl) ?_
    by_cases ht : e.1.2 = t
    · right
      subst ht
      have := he e.1 (List.mem_cons_self ..)
      rw [← this]
      exact (parF_at (f := g) (v := e.1.1) (t := e.1.2) (by lia)).2
    · rcases h with ⟨k, hk, hk2⟩ | h
      · rcases List.mem_cons.mp hk with rfl | hk
        · exact absurd hk2 ht
        · exact .inl ⟨k, hk, hk2⟩
      · right
        have hne : t.toNat ≠ e.1.2.toNat := by
          obtain ⟨_, _, a3, _, _, _⟩ := hoe
          lia
        rw [(parF_set (f := g) (v := e.1.1) hne).2]
        exact h
theorem famOf_at0 {n : Nat} : ∀ {hs : Cs}, (∀ k ∈ keysC hs, Ok2 n k.1 k.2) → ∀ g : Fam, g.getD 0 none = none → (hs.foldl (fun f e => f.set e.1.2.toNat (some e.1.1)) g).getD 0 none = none
  | [], _, g, h => h
  | e :: r, ok, g, h => by
    rw [List.foldl_cons]
    refine famOf_at0 (fun k hk => ok k (List.mem_cons_of_mem _ hk)) _ ?_
    obtain ⟨_, _, a3, _, _, a6⟩ := ok e.1 (List.mem_cons_self ..)
    have hne : (0 : Int).toNat ≠ e.1.2.toNat := by lia
    exact (parF_set (f := g) (v := e.1.1) hne).2.trans h
structure FirstFam (n : Nat) (hs : Cs) (goal : Int) (F : Fam) : Prop where
  fam : IsFam n hs F
  worth : worthP n hs (parF F) = goal
  least : ∀ q, FamP n hs q → goal ≤ worthP n hs q
  lex : ∀ q, FamP n hs q → worthP n hs q = goal → lexLe n (parF F) q
theorem first_fam {n : Nat} {hs : Cs} {goal : Int} (hn : 1 ≤ n) (ho : HsOk n hs) (hr : (keysC hs).Pairwise ltP) (hg : lwF n hs = some goal) : FirstFam n hs goal (firstF n hs goal) := by
  obtain ⟨f, S⟩ := settle_SI hn ho hr hg (n - 1) (by lia)
  have en : 1 + (((n - 1 : Nat)) : Int) = n := by lia
  have one' : ∀ k ∈ keysC (settleI n hs goal (n - 1)), k.1 = f k.2 := fun k hk => S.one k hk (by rw [en]; exact (S.ok.ok k hk).2.2.2.1)
  obtain ⟨g, g1, g2⟩ := (lw_least hn S.ok S.lw).at'
  have at' : ∀ t : Int, 1 ≤ t → t < n → (firstF n hs goal).getD t.toNat none = some (f t) := fun t h1 h2 => by
    unfold firstF famOf
    exact famOf_at h1 h2 S.ok.ok one' _ (by simp) (.inl ⟨_, g1.fp.has t h1 h2, rfl⟩)
  have par : ∀ t : Int, 1 ≤ t → t < n → parF (firstF n hs goal) t = f t := fun t h1 h2 => by
    unfold parF
    rw [at' t h1 h2]
    rfl
  obtain ⟨b1, b2⟩ := (S.fam _).mp g1.fp
  have agree : ∀ t : Int, 1 ≤ t → t < n → parF (firstF n hs goal) t = parF g t := fun t h1 h2 => by rw [par t h1 h2, b2 t h1 (by lia)]
  have fp : FamP n hs (parF (firstF n hs goal)) := fam_congr ho.ok agree b1
  have wf : worthP n hs (parF (firstF n hs goal)) = goal := by
    rw [worth_same agree, ← g2]
    refine worth_congr fun t d1 d2 => ?_
    obtain ⟨v, hv⟩ := key_mem (g1.fp.has t d1 d2)
    rw [costOf_mem S.ok.nd hv, costOf_mem ho.nd (S.sub _ hv)]
  refine ⟨⟨famOf_len _ _, ?_, (fun t h1 h2 => by rw [at' t h1 h2]; exact fun z => nomatch z), fp⟩, wf, (lw_least hn ho hg).le, fun q fq hq => ?_⟩
  · unfold firstF famOf
    refine famOf_at0 S.ok.ok _ ?_
    cases n with
    | zero => rfl
    | succ m => rfl
  · rcases S.lex q fq hq with h | ⟨t, c1, c2, c3, c4⟩
    · exact .inl fun t h1 h2 => by rw [h t h1 (by lia), par t h1 h2]
    · refine .inr ⟨t, c1, by lia, by rw [par t c1 (by lia)]; exact c3, fun s d1 d2 => by rw [par s d1 (by lia)]; exact c4 s d1 d2⟩
theorem lex_antisymm {n : Nat} {f q : Int → Int} (h1 : lexLe n f q) (h2 : lexLe n q f) : ∀ t : Int, 1 ≤ t → t < n → q t = f t := by
  rcases h1 with h | ⟨t, a1, a2, a3, a4⟩
  · exact h
  · rcases h2 with h | ⟨s, b1, b2, b3, b4⟩
    · have := h t a1 a2
      lia
    · exfalso
      by_cases hts : t < s
      · have := b4 t a1 hts
        lia
      · by_cases hst : s < t
        · have := a4 s b1 hst
          lia
        · have : s = t := by lia
          subst this
          lia
theorem fam_ext {n : Nat} {cs hs : Cs} {F G : Fam} (hF : IsFam n cs F) (hG : IsFam n hs G) (h : ∀ t : Int, 1 ≤ t → t < n → parF F t = parF G t) : F = G := by
  apply List.ext_getElem?
  intro i
  by_cases hi : i < n
  · have f1 : i < F.length := by rw [hF.len]; exact hi
    have g1 : i < G.length := by rw [hG.len]; exact hi
    rw [List.getElem?_eq_getElem f1, List.getElem?_eq_getElem g1]
    congr 1
    have f2 : F.getD i none = F[i] := by simp [List.getD, f1]
    have g2 : G.getD i none = G[i] := by simp [List.getD, g1]
    by_cases h0 : i = 0
    · subst h0
      rw [← f2, ← g2, hF.hd, hG.hd]
    · have h1 := h (i : Int) (by lia) (by lia)
      have f3 := hF.full (i : Int) (by lia) (by lia)
      have g3 := hG.full (i : Int) (by lia) (by lia)
      unfold parF at h1
      rw [Int.toNat_natCast] at h1 f3 g3
      rw [f2, g2] at h1
      rw [f2] at f3
      rw [g2] at g3
      cases eF : F[i] with
      | none => exact absurd eF f3
      | some a =>
        cases eG : G[i] with
        | none => exact absurd eG g3
        | some b =>
          rw [eF, eG] at h1
          exact congrArg some h1
  · rw [List.getElem?_eq_none (by rw [hF.len]; lia), List.getElem?_eq_none (by rw [hG.len]; lia)]

end Hw

set_option maxHeartbeats 1000000

namespace Hw
open PySem L2 HwSort
theorem lack_some {n : Nat} {hs : Cs} {one other h : Int} (hn : 1 ≤ n) (ho : HsOk n hs) (e : lwF n (withOnly hs one other) = some h) : ∃ m, lwF n hs = some m ∧ lackF n hs one other = some (h - m) ∧ m ≤ h := by
  obtain ⟨m, hm⟩ := lw_only hn ho e
  refine ⟨m, hm, ?_, lw_mono hn ho _ e hm⟩
  unfold lackF
  rw [e, hm]
  rfl
theorem lack_no {n : Nat} {hs : Cs} {one other : Int} (e : lwF n (withOnly hs one other) = none) : lackF n hs one other = none := by
  unfold lackF
  rw [e]
inductive sp_pairs (vs : List V) (H : Hp) (Q : VK) (E : XK) : Prop
  | mk (l m : Addr) (rs ss : List V) (ps : List Pr) (h09 : vs = [.ref l, .ref m]) (h19 : H l = some (.lst rs)) (h29 : H m = some (.lst ss)) (h39 : TupRefs H rs (ps.map two)) (h49 : TupRefs H ss (ps.map two)) (h59 : Q (.bl true) H) : sp_pairs vs H Q E

theorem mem_free {n : Nat} {cs : Cs} {goal : Int} (hg : lwF n cs = some goal) {k : Pr} : k ∈ freeF n cs ↔ k ∈ keysC cs ∧ lwF n (withOnly cs k.1 k.2) = some goal := by
  unfold freeF
  rw [hg]
  show k ∈ (cs.filter fun e => decide (lwF n (withOnly cs e.1.1 e.1.2) = some goal)).map (·.1) ↔ _
  rw [List.mem_map]
  constructor
  · rintro ⟨e, he, rfl⟩
    obtain ⟨h1, h2⟩ := List.mem_filter.mp he
    exact ⟨List.mem_map_of_mem h1, of_decide_eq_true h2⟩
  · rintro ⟨h1, h2⟩
    obtain ⟨v, hv⟩ := key_mem h1
    exact ⟨_, List.mem_filter.mpr ⟨hv, decide_eq_true h2⟩, rfl⟩
noncomputable def without (cs : Cs) (k : Pr) : Cs := cs.filter fun e => !decide (e.1 = k)
theorem fam_without {n : Nat} {cs : Cs} {k : Pr} (h1 : 1 ≤ k.2) (h2 : k.2 < n) {p : Int → Int} : FamP n (without cs k) p ↔ FamP n cs p ∧ p k.2 ≠ k.1 := by
  constructor
  · intro fp
    refine ⟨fam_sub (filter_sub cs _) fp, fun e => ?_⟩
    obtain ⟨v, hv⟩ := key_mem (fp.has k.2 h1 h2)
    have := (List.mem_filter.mp hv).2
    simp [e] at this
  · rintro ⟨fp, hne⟩
    refine ⟨fun t a b => ?_, fp.led⟩
    obtain ⟨v, hv⟩ := key_mem (fp.has t a b)
    refine List.mem_map.mpr ⟨_, List.mem_filter.mpr ⟨hv, ?_⟩, rfl⟩
    have : ¬ (p t, t) = k := fun z => by
      rw [← z] at hne
      exact hne rfl
    simp [this]
theorem lw_without {n : Nat} {cs : Cs} {k : Pr} {goal : Int} (hn : 1 ≤ n) (ho : HsOk n cs) (h1 : 1 ≤ k.2) (h2 : k.2 < n) (hg : lwF n cs = some goal) : lwF n (without cs k) = some goal ↔ ∃ p, FamP n cs p ∧ worthP n cs p = goal ∧ p k.2 ≠ k.1 := by
  constructor
  · intro h
    obtain ⟨f, a, b⟩ := (lw_least hn (ho.filter _) h).at'
    obtain ⟨c, d⟩ := (fam_without h1 h2).mp a.fp
    refine ⟨parF f, c, ?_, d⟩
    rw [← b]
    exact (worth_filter ho.nd a.fp).symm
  · rintro ⟨p, fp, e, e1⟩
    have fp' := (fam_without h1 h2).mpr ⟨fp, e1⟩
    cases e2 : lwF n (without cs k) with
    | none => exact (lw_no (ho.filter _) e2 fp').elim
    | some c =>
      have L2 := lw_least hn (ho.filter _) e2
      have a1 := L2.le p fp'
      rw [worth_filter ho.nd fp'] at a1
      have a2 := lw_mono hn ho _ e2 hg
      rw [show c = goal by lia]
theorem count_one {l : List Pr} (hn : l.Nodup) {k : Pr} (hk : k ∈ l) : (l.map (·.2)).countP (fun x => decide (x = k.2)) = 1 ↔ ∀ j ∈ l, j.2 = k.2 → j = k := by
  rw [List.countP_map]
  constructor
  · intro h j hj hjk
    refine Classical.byContradiction fun hne => ?_
    have h3 : 2 ≤ (l.filter fun x => decide (x.2 = k.2)).length := by
      have a1 : j ∈ l.filter fun x => decide (x.2 = k.2) := List.mem_filter.mpr ⟨hj, by simpa using hjk⟩
      have a2 : k ∈ l.filter fun x => decide (x.2 = k.2) := List.mem_filter.mpr ⟨hk, by simp⟩
      have := nodup_len (l := [j, k]) (m := l.filter fun x => decide (x.2 = k.2)) (by simp [hne]) (fun x hx => by
        rcases List.mem_cons.mp hx with rfl | hx
        · exact a1
        · rw [List.mem_singleton.mp hx]; exact a2)
      exact this
    rw [← List.countP_eq_length_filter] at h3
    have h4 : l.countP ((fun x => decide (x = k.2)) ∘ fun x : Pr => x.2) = l.countP fun x => decide (x.2 = k.2) := rfl
    lia
  · intro h
    have h1 : (l.filter fun x => decide (x.2 = k.2)).length ≤ [k].length := nodup_len (hn.sublist List.filter_sublist) fun x hx => by
      obtain ⟨a1, a2⟩ := List.mem_filter.mp hx
      rw [h x a1 (of_decide_eq_true a2)]
      exact List.mem_singleton.mpr rfl
    have h2 : 0 < (l.filter fun x => decide (x.2 = k.2)).length := List.length_pos_of_mem (List.mem_filter.mpr ⟨hk, by simp⟩)
    rw [← List.countP_eq_length_filter] at h1 h2
    have h4 : l.countP ((fun x => decide (x = k.2)) ∘ fun x : Pr => x.2) = l.countP fun x => decide (x.2 = k.2) := rfl
    rw [h4]
    have : [k].length = 1 := rfl
    lia
theorem free_nd {n : Nat} {cs : Cs} (ho : HsOk n cs) : (freeF n cs).Nodup := by
  unfold freeF
  split
  · exact List.nodup_nil
  · exact ho.nd.sublist (List.filter_sublist.map _)
theorem bound_eq {n : Nat} {cs : Cs} (hn : 1 ≤ n) (ho : HsOk n cs) : boundL (freeF n cs) = (freeF n cs).filter fun k => !decide (lwF n (without cs k) = lwF n cs) := by
  unfold boundL
  cases hg : lwF n cs with
  | none =>
    have : freeF n cs = [] := by unfold freeF; rw [hg]
    rw [this]
    rfl
  | some goal =>
    apply List.filter_congr
    intro k hk
    obtain ⟨hk1, hk2⟩ := (mem_free hg).mp hk
    obtain ⟨_, _, a3, a4, _, a6⟩ := ho.ok k hk1
    have h1 : 1 ≤ k.2 := by lia
    have key : ((freeF n cs).map (·.2)).countP (fun x => decide (x = k.2)) = 1 ↔ ¬ lwF n (without cs k) = some goal := by
      rw [count_one (free_nd ho) hk, lw_without hn ho h1 a4 hg]
      constructor
      · rintro h ⟨p, fp, w, hne⟩
        have := h (p k.2, k.2) ((mem_free hg).mpr ⟨fp.has _ h1 a4, (lw_only_iff hn ho h1 a4 hg).mpr ⟨p, fp, w, rfl⟩⟩) rfl
        exact hne (congrArg Prod.fst this)
      · intro h j hj hjk
        obtain ⟨j1, j2⟩ := (mem_free hg).mp hj
        rw [hjk] at j2
        obtain ⟨p, fp, w, e⟩ := (lw_only_iff hn ho h1 a4 hg).mp j2
        refine Classical.byContradiction fun hne => h ⟨p, fp, w, fun z => hne ?_⟩
        exact Prod.ext (e.symm.trans z) hjk
    by_cases hc : ((freeF n cs).map (·.2)).countP (fun x => decide (x = k.2)) = 1
    · rw [decide_eq_true hc, decide_eq_false (key.mp hc)]
      rfl
    · rw [decide_eq_false hc, decide_eq_true (Classical.not_not.mp fun z => hc (key.mpr z))]
      rfl
end Hw

set_option maxHeartbeats 1000000

namespace L2
open PySem PySem.Spec PyProof.Rows

end L2

set_option maxHeartbeats 1000000

namespace Hw
open PySem L2 HwSort
inductive sp_worth (vs : List V) (H : Hp) (Q : VK) (E : XK) : Prop
  | mk (lf d : Addr) (f : Fam) (cs : Cs) (n : Nat) (h09 : vs = [.ref lf, .ref d]) (h19 : H lf = some (.lst (f.map optV))) (h29 : H d = some (.dT (enc cs))) (h39 : 1 ≤ n) (h49 : n ≤ 12) (h59 : FamShape n cs f) (h69 : ∀ H', Same H H' → Q (.int (worthP n cs (parF f))) H') : sp_worth vs H Q E
end Hw

set_option maxHeartbeats 1000000

namespace HT

noncomputable def lexLe : List Int → List Int → Bool
  | [], [] => true
  | [], _ :: _ => false
  | _ :: _, [] => true
  | x :: xs, y :: ys => if x = y then lexLe xs ys else decide (y ≤ x)
theorem lexLe_cons (x y : Int) (xs ys : List Int) : lexLe (x :: xs) (y :: ys) = if x = y then lexLe xs ys else decide (y ≤ x) := rfl
end HT
namespace CmpL
open PySem PyProof.Rows
section
open PySem.SeqAt
open PySem.AutoSeq1 (wpAny_loadPart')
open PySem.MeetsSeq PySem.MeetsSeq2 PySem.MeetsSeq3

end
end CmpL
namespace L2
open PySem PySem.Spec PyProof.Rows
theorem ints_of {ns : List Int} {its : List Value} (h : Vals (ns.map V.int) its) : ∀ (j : Nat) (v : Int), ns[j]? = some v → ∃ t, its.toArray[j]? = some (Value.int v t) := by
  induction ns generalizing its with
  | nil => intro j v h; simp at h
  | cons a r ih =>
    cases h with
    | cons x y =>
      intro j v hv
      cases j with
      | zero =>
        obtain ⟨t, rfl⟩ := x
        refine ⟨t, ?_⟩
        simp at hv
        subst hv
        rfl
      | succ j =>
        obtain ⟨t, ht⟩ := ih y j v hv
        exact ⟨t, by simpa using ht⟩

end L2

set_option maxHeartbeats 1000000

namespace Hw
open PySem L2 HwSort
noncomputable def upI (lo : Int) (m : Nat) : List Int := (List.range m).map fun (i : Nat) => lo + (i : Int)
theorem upI_succ (lo : Int) (m : Nat) : upI lo (m + 1) = lo :: upI (lo + 1) m := by
  unfold upI
  rw [List.range_succ_eq_map, List.map_cons, List.map_map]
  congr 1
  · simp
  · apply List.map_congr_left
    intro i _
    simp only [Function.comp]
    lia
theorem lex_up (f q : Int → Int) : ∀ (m : Nat) (lo : Int), ((∀ t : Int, lo ≤ t → t < lo + m → q t = f t) ∨ ∃ t : Int, lo ≤ t ∧ t < lo + m ∧ f t < q t ∧ ∀ s : Int, lo ≤ s → s < t → q s = f s) →
    HT.lexLt ((upI lo m).map q) ((upI lo m).map f) = false ∧ HT.lexLe ((upI lo m).map q) ((upI lo m).map f) = true
  | 0, lo, _ => ⟨rfl, rfl⟩
  | m + 1, lo, h => by
    rw [upI_succ, List.map_cons, List.map_cons, HT.lexLt_cons, HT.lexLe_cons]
    by_cases e : q lo = f lo
    · rw [if_pos e, if_pos e]
      refine lex_up f q m (lo + 1) ?_
      rcases h with h | ⟨t, h1, h2, h3, h4⟩
      · exact .inl fun t a b => h t (by lia) (by lia)
      · refine .inr ⟨t, ?_, by lia, h3, fun s a b => h4 s (by lia) b⟩
        by_cases h5 : t = lo
        · rw [h5, e] at h3
          lia
        · lia
    · rw [if_neg e, if_neg e]
      rcases h with h | ⟨t, h1, h2, h3, h4⟩
      · exact absurd (h lo (by lia) (by lia)) e
      · have h5 : t = lo := by
          by_cases h6 : t = lo
          · exact h6
          · exact absurd (h4 lo (by lia) (by lia)) e
        rw [h5] at h3
        exact ⟨decide_eq_false (by lia), decide_eq_true (by lia)⟩
theorem lex_tails {n : Nat} {f q : Int → Int} (hn : 1 ≤ n) (h : lexLe n f q) : HT.lexLt ((others n).map q) ((others n).map f) = false ∧ HT.lexLe ((others n).map q) ((others n).map f) = true := by
  refine lex_up f q (n - 1) 1 ?_
  rcases h with h | ⟨t, h1, h2, h3, h4⟩
  · exact .inl fun t a b => h t a (by lia)
  · exact .inr ⟨t, h1, by lia, h3, h4⟩

theorem fam_tail {n : Nat} {cs : Cs} {f : Fam} (h : FamShape n cs f) (hn : 1 ≤ n) : cutV (f.map optV) (some 1) none = ((others n).map (parF f)).map V.int := by
  have e1 : HT.sIx (f.map optV).length 0 (some 1) = min 1 (f.map optV).length := HT.sIx_nat _ _ 1
  have e2 : HT.sIx (f.map optV).length (f.map optV).length none = (f.map optV).length := rfl
  have hl : (f.map optV).length = n := by rw [List.length_map, h.len]
  unfold cutV
  rw [e1, e2, hl, show min 1 n = 1 by lia]
  apply List.ext_getElem?
  intro i
  rw [List.getElem?_take]
  by_cases hi : i < n - 1
  · rw [if_pos hi, List.getElem?_drop]
    have := h.at (t := 1 + (i : Int)) (by lia) (by lia)
    rw [show (1 + (i : Int)).toNat = 1 + i by lia] at this
    rw [this]
    unfold others
    rw [List.getElem?_map, List.getElem?_map, List.getElem?_map, List.getElem?_range hi]
    rfl
  · rw [if_neg hi]
    unfold others
    rw [List.getElem?_eq_none]
    rw [List.length_map, List.length_map, List.length_map, List.length_range]
    lia
end Hw

set_option maxHeartbeats 1000000

namespace CmpL
open PySem PyProof.Rows
section
open PySem.SeqAt
open PySem.AutoSeq1 (wpAny_loadPart')
open PySem.MeetsSeq PySem.MeetsSeq2 PySem.MeetsSeq3

theorem ltL_loop (l b : Addr) (items items2 : Array Value) (n n2 : Nat) (dd dd2 : Option Addr) (sl sl2 : Array (Option Value)) (ns ms : List Int) (hsz : ns.length = ms.length) (z1 : items.size = ns.length) (z2 : items2.size = ms.length)
    (hi : ∀ (j : Nat) (v : Int), ns[j]? = some v → ∃ t, items[j]? = some (Value.int v t)) (hj : ∀ (j : Nat) (v : Int), ms[j]? = some v → ∃ t, items2[j]? = some (Value.int v t)) (k : Nat) :
    ∀ i : Nat, ns.length - i = k → Meets (Builtin.«list.__eq__.loop» ⟨[.ref l, .ref b, rawInt i, rawInt 0], []⟩)
      (fun A R s => s.heap.get? l = some { cls := .type "list", dict := dd, data := .seq items n, slots := sl } ∧ s.heap.get? b = some { cls := .type "list", dict := dd2, data := .seq items2 n2, slots := sl2 } ∧
        R (.ok (.ret (.bool (HT.lexLt (ns.drop i) (ms.drop i))))) s) := by
  induction k with
  | zero =>
    intro i hk prog w A R s h
    obtain ⟨hp, g, d, tk, os⟩ := s
    obtain ⟨hl, hb, h⟩ := h
    wp_walk using wpAny_loadPart' hl, wpAny_loadPart' hb
    have hi1 : items[((i : Nat) : Int).toNat]? = none := by simp; lia
    have hi2 : items2[((i : Nat) : Int).toNat]? = none := by simp; lia
    have hd : ns.drop i = [] := by simp; lia
    have hd2 : ms.drop i = [] := by simp; lia
    rw [hd, hd2] at h
    rw [hi1, hi2]
    wp_walk using wpAny_loadPart' hl, wpAny_loadPart' hb
    show R (.ok (.ret (.bool (decide (items.size < items2.size))))) _
    rw [z1, z2, hsz]
    have e : decide (ms.length < ms.length) = HT.lexLt [] [] := by
      show _ = false
      simp
    rw [e]
    exact h
  | succ k ih =>
    intro i hk prog w A R s h
    obtain ⟨hp, g, d, tk, os⟩ := s
    obtain ⟨hl, hb, h⟩ := h
    wp_walk using wpAny_loadPart' hl, wpAny_loadPart' hb
    have hlt : i < ns.length := by lia
    have hlt2 : i < ms.length := by lia
    obtain ⟨t, ht⟩ := hi i ns[i] (List.getElem?_eq_getElem hlt)
    obtain ⟨u, hu⟩ := hj i ms[i] (List.getElem?_eq_getElem hlt2)
    have hi1 : items[((i : Nat) : Int).toNat]? = some (.int ns[i] t) := by rw [Int.toNat_natCast]; exact ht
    have hi2 : items2[((i : Nat) : Int).toNat]? = some (.int ms[i] u) := by rw [Int.toNat_natCast]; exact hu
    have hc : ((i : Int) + 1) = ((i + 1 : Nat) : Int) := by push_cast; rfl
    rw [List.drop_eq_getElem_cons hlt, List.drop_eq_getElem_cons hlt2, HT.lexLt_cons] at h
    rw [hi1, hi2]
    obtain ⟨e, he, hiff⟩ := HT.eqAt_int A.in1 ⟨hp, g, d, tk, os⟩ ns[i] t ms[i] u
    refine wpAny_bind (he prog w _ _ ?_)
    cases e with
    | true =>
      rw [if_pos (hiff.mp rfl)] at h
      wp_walk
      rw [hc]
      exact ⟨plainId_quiet plain_eq_loop _, codeAny_builtin entry_eq_loop (by
        rw [Around.under_plainId plain_eq_loop _]
        exact ih (i + 1) (by lia) prog w A R _ ⟨hl, hb, h⟩)⟩
    | false =>
      rw [if_neg (fun q => absurd (hiff.mpr q) Bool.false_ne_true)] at h
      have hri : ∀ (E : Value → Shared → Prop) (Q : Value → Shared → Prop), Q (.bool (decide (ns[i] < ms[i]))) ⟨hp, g, d, tk, os⟩ → wpAny (model prog w) A.in1 (richCompare .Lt (.int ns[i] t) (.int ms[i] u)) Q E ⟨hp, g, d, tk, os⟩ := fun E Q h => (PyProof.Rows.lt_int h : wpAny (model prog w) A.in1 (compareOp .Lt (.int ns[i] t) (.int ms[i] u)) Q E ⟨hp, g, d, tk, os⟩)
      wp_walk using wpAny_loadPart' hl, wpAny_loadPart' hb
      rw [hi1, hi2]
      wp_walk using hri
      exact h
theorem ltL_ints (l b : Addr) (items items2 : Array Value) (n n2 : Nat) (dd dd2 : Option Addr) (sl sl2 : Array (Option Value)) (ns ms : List Int) (hsz : ns.length = ms.length) (z1 : items.size = ns.length) (z2 : items2.size = ms.length)
    (hi : ∀ (j : Nat) (v : Int), ns[j]? = some v → ∃ t, items[j]? = some (Value.int v t)) (hj : ∀ (j : Nat) (v : Int), ms[j]? = some v → ∃ t, items2[j]? = some (Value.int v t)) :
    Meets (Builtin.«list.__lt__» ⟨[.ref l, .ref b], []⟩)
      (fun A R s => s.heap.get? l = some { cls := .type "list", dict := dd, data := .seq items n, slots := sl } ∧ s.heap.get? b = some { cls := .type "list", dict := dd2, data := .seq items2 n2, slots := sl2 } ∧
        R (.ok (.ret (.bool (HT.lexLt ns ms)))) s) := by
  intro prog w A R s h
  obtain ⟨hp, g, d, tk, os⟩ := s
  obtain ⟨hl, hb, h⟩ := h
  have f3 := AutoSeq1.sub_list_list
  wp_walk using wpAny_loadPart' hl, wpAny_loadPart' hb
  exact ⟨plainId_quiet plain_eq_loop _, codeAny_builtin entry_eq_loop (by
    rw [Around.under_plainId plain_eq_loop _]
    exact ltL_loop l b items items2 n n2 dd dd2 sl sl2 ns ms hsz z1 z2 hi hj _ 0 rfl prog w A R _ ⟨hl, hb, by simpa using h⟩)⟩

end
end CmpL
namespace L2
open PySem PySem.Spec PyProof.Rows
theorem ltL_at {X : Cx} {pins : List (Addr × Obj)} {s : Shared} {σ : St} {H : Hp} {p q : Addr} {ns ms : List Int} {Q : Value → Shared → Prop} {E : Value → Shared → Prop} (hu : X.A.units < cLine) (I : Inv X pins σ H s) (hp : SqL X.K H p (ns.map V.int)) (hq : SqL X.K H q (ms.map V.int)) (hsz : ns.length = ms.length) (k : Q (.bool (HT.lexLt ns ms)) s) :
    wpAny (model X.prog X.w) X.A (compareOp .Lt (.ref p) (.ref q)) Q E s := by
  obtain ⟨its, rv, pl, z⟩ := I.list hp
  obtain ⟨jts, rw', ql, z'⟩ := I.list hq
  obtain ⟨⟨cls, dd, data, sl⟩, ho, hc, n, hd⟩ := id pl.isList
  obtain ⟨⟨cls2, dd2, data2, sl2⟩, ho2, hc2, n2, hd2⟩ := id ql.isList
  simp only at hc hd hc2 hd2
  subst hc hd hc2 hd2
  have e1 := rv.length
  have e2 := rw'.length
  rw [List.length_map] at e1 e2
  exact richCompare_meets_room (op := .Lt) ⟨_, ho, rfl⟩ ⟨_, ho2, rfl⟩ PySem.F.slot_list_lt PySem.F.entry_list_lt (PySem.F.args_list_lt_2 _ _) (CmpL.ltL_ints p q _ _ n n2 dd dd2 sl sl2 ns ms hsz (by simpa using e1.symm) (by simpa using e2.symm) (ints_of rv) (ints_of rw'))
    ⟨ho, ho2, show Value.bool (HT.lexLt ns ms) ≠ Value.notImplemented ∧ Q (.bool (HT.lexLt ns ms)) s from ⟨(fun x => nomatch x), k⟩⟩ hu

end L2

set_option maxHeartbeats 1000000

namespace L2
open PySem PySem.Spec PyProof.Rows
noncomputable abbrev Cx.in1 (X : Cx) : Cx := { X with A := X.A.in1 }
noncomputable abbrev Kh (H H' : Hp) : Prop := ∀ c o, H c = some o → H' c = some o
section
variable {X : Cx} {pins : List (Addr × Obj)} {σ : St} {H : Hp} {s : Shared}
theorem Inv.in1 (I : Inv X pins σ H s) : Inv X.in1 pins σ H s :=
  ⟨⟨I.ok.mod, I.ok.kind, I.ok.glob, I.ok.blt, I.ok.above, I.ok.inj, I.ok.has, I.ok.cab, I.ok.hd, I.ok.frames, I.ok.stk, I.ok.exf, I.ok.bs, I.ok.bsz, I.ok.noex, I.ok.exfs, I.ok.funs, I.ok.frf⟩, I.os, I.bare, I.base, I.loc, I.cell, I.free, I.freeC, I.pin, I.hok, I.len⟩
theorem Inv.out1 (I : Inv X.in1 pins σ H s) : Inv X pins σ H s :=
  ⟨⟨I.ok.mod, I.ok.kind, I.ok.glob, I.ok.blt, I.ok.above, I.ok.inj, I.ok.has, I.ok.cab, I.ok.hd, I.ok.frames, I.ok.stk, I.ok.exf, I.ok.bs, I.ok.bsz, I.ok.noex, I.ok.exfs, I.ok.funs, I.ok.frf⟩, I.os, I.bare, I.base, I.loc, I.cell, I.free, I.freeC, I.pin, I.hok, I.len⟩

theorem key_run {k : Nat} {f : Addr} {fd : FuncData} {x : Str} {sp : Sp} {Q : VK} {g : V} {v : Value} (F : FnOk X.prog X.w X.K X.mg X.base CX0 k f fd [x] sp) (hr : Room (k + 1) X.A) (hb : Binds X.K fd [x] []) (I : Inv X pins σ H s) (r : RelV g v) (h : sp [g] H Q E0) :
    wpAny (model X.prog X.w) X.A.in1 (call (.ref f) [v]) (EP X pins σ Q) (fun _ _ => False) s :=
  wpAny_mono (run_fn (X := X.in1.nox) F hr.in1 hb .nil pass0 (I.in1.wish _) (.cons r .nil) h) (fun _ _ hh9 => by obtain ⟨v, H', I', r, q⟩ := hh9; exact ⟨v, H', I'.unwish.out1, r, q⟩) fun _ _ z => z

structure Own (X : Cx) (pins : List (Addr × Obj)) (a : Addr) : Prop where
  nl : a ≠ X.env.locals
  s0 : X.s₀.heap.objs.size ≤ a
  nc : ∀ x c, X.env.cells.lookup x = some c → c ≠ a
  nf : a ∉ X.fs
  np : ∀ p ∈ X.pn ++ pins, p.1 ≠ a
theorem Inv.own (I : Inv X pins σ H s) {a : Addr} (h : s.heap.objs.size ≤ a) : Own X pins a := by
  refine ⟨fun z => ?_, Nat.le_trans I.sz h, fun x c e z => ?_, I.nofs h, fun p hp z => ?_⟩
  · have := I.lt
    rw [← z] at this
    exact absurd (Nat.lt_of_lt_of_le this h) (Nat.lt_irrefl _)
  · obtain ⟨v, o, ho, _⟩ := I.cell x c e
    have := Heap.lt_size ho
    rw [z] at this
    exact absurd (Nat.lt_of_lt_of_le this h) (Nat.lt_irrefl _)
  · have := Heap.lt_size (I.pin p hp).1
    rw [z] at this
    exact absurd (Nat.lt_of_lt_of_le this h) (Nat.lt_irrefl _)
theorem Own.more {a b : Addr} {o : Obj} (O : Own X pins a) (h : b ≠ a) : Own X ((b, o) :: pins) a := by
  refine ⟨O.nl, O.s0, O.nc, O.nf, fun p hp => ?_⟩
  rcases List.mem_append.mp hp with hp | hp
  · exact O.np p (List.mem_append_left _ hp)
  · rcases List.mem_cons.mp hp with rfl | hp
    · exact h
    · exact O.np p (List.mem_append_right _ hp)
theorem Inv.turnO {h' : Heap} {t' : Nat} {a : Addr} (I : Inv X pins σ H s) (O : Own X pins a) (hn : H a = none) (k : ∀ b o, b ≠ a → s.heap.get? b = some o → h'.get? b = some o) : Inv X pins σ H { s with heap := h', toks := t' } :=
  I.turned k hn O.nl (.inr O.s0) O.nc O.np
theorem Inv.pinO {a : Addr} {o : Obj} (I : Inv X pins σ H s) (O : Own X pins a) (hn : H a = none) (e : s.heap.get? a = some o) (hd : ∀ v, o.data ≠ .cell v) : Inv X ((a, o) :: pins) σ H s :=
  I.pins_of fun p hp => by
    rcases List.mem_cons.mp hp with rfl | hp
    · exact ⟨e, hn, O.nl, O.nf, hd⟩
    · exact I.pin p (List.mem_append_right _ hp)
theorem Inv.unpin {q : Addr × Obj} (I : Inv X (q :: pins) σ H s) : Inv X pins σ H s := I.pins_of fun p hp => I.pin p (List.mem_append_right _ (List.mem_cons_of_mem _ hp))
theorem Inv.top {a : Addr} {o : Obj} (I : Inv X ((a, o) :: pins) σ H s) : s.heap.get? a = some o ∧ H a = none := ⟨(I.pin (a, o) (List.mem_append_right _ List.mem_cons_self)).1, (I.pin (a, o) (List.mem_append_right _ List.mem_cons_self)).2.1⟩
theorem vals_refs : ∀ {bs : List Addr} {us : List Value}, Vals (bs.map V.ref) us → us = bs.map Value.ref
  | [], _, .nil => rfl
  | b :: r, _, .cons h t => by rw [List.map_cons, vals_refs t]; cases h; rfl
theorem Inv.refs {l : Addr} {bs : List Addr} (I : Inv X pins σ H s) (h : H l = some (.lst (bs.map V.ref))) : s.heap.IsList l (bs.map Value.ref).toArray := by
  obtain ⟨its, rv, pl, _⟩ := I.list (SqL.of h)
  rw [← vals_refs rv]
  exact pl.isList
end
section
variable {X : Cx} {pins : List (Addr × Obj)} {σ : St} {H1 : Hp} {l I S f b0 : Addr} {bs : List Addr} {kss : List (List Int)} {k0 : List Int} {k : Nat} {fd : FuncData} {x : Str} {sp : Sp} {R : Result → Shared → Prop}

noncomputable def KeyOk (sp : Sp) (bs : List Addr) (kss : List (List Int)) (H1 : Hp) : Prop := ∀ (i : Nat) (b : Addr) (ks : List Int), bs[i]? = some b → kss[i]? = some ks → ∀ H', Kh H1 H' →
  sp [.ref b] H' (fun u H'' => ∃ p, u = .ref p ∧ Kh H' H'' ∧ H'' p = some (.lst (ks.map V.int))) E0
theorem mink_loop (F : FnOk X.prog X.w X.K X.mg X.base CX0 k f fd [x] sp) (hr : Room (k + 1) X.A) (hb : Binds X.K fd [x] []) (hh : X.A.handled = none) (hl : H1 l = some (.lst (bs.map V.ref))) (hlen : kss.length = bs.length)
    (hk : ∀ ks ∈ kss, ks.length = k0.length ∧ HT.lexLt ks k0 = false) (key : KeyOk sp bs kss H1) (hlI : l ≠ I) (hSI : S ≠ I) (OI : Own X pins I) (OS : Own X pins S)
    (hR : ∀ s' H', Inv X pins σ H' s' → Kh H1 H' → R (.ok (.ret (.ref b0))) s') :
    ∀ (r j : Nat) (s : Shared) (H : Hp) (p0 : Addr) (c : Nat), bs.length - (j + 1) = r → j + 1 ≤ bs.length → Inv X ((S, seqObj "list" #[.ref b0, .ref p0] c) :: pins) σ H s → Kh H1 H → s.heap.IsListIter I l (j + 1) → H I = none → H p0 = some (.lst (k0.map V.int)) →
      codeAny (model X.prog X.w) X.A (.builtin "min.loop" ⟨[.ref I, .ref f, .ref S], []⟩) R s := by
  have hname : (toString "min" ++ toString ".loop" : String) = "min.loop" := by decide
  have W := Walks.list (prog := X.prog) (w := X.w) (A := X.A.in1) hh I l hlI (bs.map Value.ref).toArray
  have hsz : (bs.map Value.ref).toArray.size = bs.length := by rw [List.size_toArray, List.length_map]
  intro r
  induction r with
  | zero =>
    intro j s H p0 c hr' hj V K hit hI hp0
    have hin : j + 1 = bs.length := by lia
    refine codeAny_builtin PySem.F.entry_min_loop ?_
    rw [Around.under_plainId PySem.F.plain_min_loop _]
    show wpAny _ X.A.in1 (seqItems? (.ref S) >>= _) _ _ _
    refine wpAny_bind (wpAny_seqItems V.top.1 rfl ?_)
    show wpAny _ X.A.in1 (tryCatch (pyNext (.ref I)) _ >>= _) _ _ _
    refine wpAny_bind (wpAny_tryCatch (W.done _ _ _ ⟨by rw [hsz, ← hin]; exact hit, V.refs (K _ _ hl)⟩ fun h' tk' hk' => ?_))
    have V1 := V.turnO (h' := h') (t' := tk') (OI.more hSI) hI fun b o hb e => hk' b o (by simpa using hb) e
    show wpAny _ X.A.in1 (updateSeq S (fun _ => #[]) >>= _) _ _ _
    refine wpAny_bind ?_
    refine wpAny_updateSeq V1.top.1 rfl (wpAny_bind (wpAny_letGo (wpAny_pure ?_)))
    have s1 := Heap.SameBut.update h' S (Obj.mapSeq fun _ => (#[] : Array Value))
    exact hR _ H (V1.unpin.turnO (t' := tk') OS V1.top.2 fun b o hb e => (s1.2 b hb).trans e) K
  | succ r ih =>
    intro j s H p0 c hr' hj V K hit hI hp0
    have hlt : j + 1 < bs.length := by lia
    refine codeAny_builtin PySem.F.entry_min_loop ?_
    rw [Around.under_plainId PySem.F.plain_min_loop _]
    show wpAny _ X.A.in1 (seqItems? (.ref S) >>= _) _ _ _
    refine wpAny_bind (wpAny_seqItems V.top.1 rfl ?_)
    show wpAny _ X.A.in1 (tryCatch (pyNext (.ref I)) _ >>= _) _ _ _
    refine wpAny_bind (wpAny_tryCatch (W.item (j + 1) _ _ _ (by rw [hsz]; exact hlt) ⟨hit, V.refs (K _ _ hl)⟩ fun v h' tk' hP hst' hk' => ?_))
    have hb1 : bs[j + 1]? = some bs[j + 1] := List.getElem?_eq_getElem hlt
    have hv : (bs.map Value.ref)[j + 1]? = some v := by simpa using hP
    rw [List.getElem?_map, hb1] at hv
    obtain rfl : Value.ref bs[j + 1] = v := Option.some.inj hv
    have hks : kss[j + 1]? = some (kss[j + 1]'(by lia)) := List.getElem?_eq_getElem (by lia)
    obtain ⟨hkl, hkc⟩ := hk _ (List.mem_of_getElem? hks)
    have V1 := V.turnO (h' := h') (t' := tk') (OI.more hSI) hI fun b o hb e => hk' b o (by simpa using hb) e
    obtain ⟨oI, hoI, hoc, hod⟩ := id hst'.1
    have V2 := V1.pinO (OI.more hSI) hI hoI (fun v z => by rw [hod] at z; cases z)
    show wpAny _ X.A.in1 (tryCatch (holding [.ref bs[j + 1]] (call (.ref f) [.ref bs[j + 1]])) _ >>= _) _ _ _
    refine wpAny_bind (wpAny_tryCatch (wpAny_holding (wpAny_mono (key_run (g := .ref bs[j + 1]) F hr hb V2 rfl (key (j + 1) _ _ hb1 hks H K)) (fun u s2 he => ?_) fun _ _ hF => hF.elim)))
    obtain ⟨u', H2, V3, ru, p, rfl, K2, hp⟩ := he
    cases ru
    show wpAny _ X.A.in1 (tryCatch (holding [.ref bs[j + 1], .ref p] (richCompare .Lt (.ref p) (.ref p0) >>= _)) _ >>= _) _ _ _
    have hu1 : X.A.in1.units < cLine := hr.in1.units0
    refine wpAny_bind (wpAny_tryCatch (wpAny_holding (wpAny_bind (ltL_at (X := X.in1) hu1 V3.in1 (SqL.of hp) (SqL.of (K2 _ _ hp0)) hkl ?_))))
    rw [hkc]
    refine wpAny_bind (wpAny_holding (wpAny_truthy_bool ?_))
    refine wpAny_bind (wpAny_letGo (wpAny_pure ?_))
    simp only [Bool.false_eq_true, if_false]
    refine wpAny_bind (wpAny_letGo ?_)
    rw [hname]
    exact wpAny_pure ⟨plainId_quiet PySem.F.plain_min_loop _, ih (j + 1) _ _ p0 c (by lia) hlt V3.unpin (fun b o e => K2 _ _ (K _ _ e)) ⟨oI, V3.top.1, hoc, hod⟩ V3.top.2 (K2 _ _ hp0)⟩
theorem mink_args (a v : Value) : argsOk "min" ⟨[a], [(Str.ofString "key", v)]⟩ := by unfold argsOk; kernel_rfl
theorem mink_call {s : Shared} {Q : Value → Shared → Prop} {E : Value → Shared → Prop} (F : FnOk X.prog X.w X.K X.mg X.base CX0 k f fd [x] sp) (hr : Room (k + 1) X.A) (hb : Binds X.K fd [x] []) (hh : X.A.handled = none) (hl : H1 l = some (.lst (bs.map V.ref))) (hlen : kss.length = bs.length)
    (hk : ∀ ks ∈ kss, ks.length = k0.length ∧ HT.lexLt ks k0 = false) (key : KeyOk sp bs kss H1) (hb0 : bs[0]? = some b0) (hk0 : kss[0]? = some k0) (V : Inv X pins σ H1 s) (hQ : ∀ s' H', Inv X pins σ H' s' → Kh H1 H' → Q (.ref b0) s') :
    wpAny (model X.prog X.w) X.A (call (.builtin "min") [.ref l] [(Str.ofString "key", .ref f)]) Q E s := by
  have hname : (toString "min" ++ toString ".loop" : String) = "min.loop" := by decide
  have hls := V.refs hl
  obtain ⟨ol, hol, _⟩ := id hls
  have hll : l < s.heap.objs.size := Heap.lt_size hol
  refine kmb_tree PySem.F.kind_min PySem.F.plain_min PySem.F.entry_min (mink_args _ _) ?_
  show wpAny _ X.A.in1 (Builtin.Builtins.bindParams "min" ["key", "default"] 0 ⟨[], [(Str.ofString "key", .ref f)]⟩ >>= _) _ _ s
  refine wpAny_bind (wpAny_of_eq (show Builtin.Builtins.bindParams "min" ["key", "default"] 0 ⟨[], [(Str.ofString "key", .ref f)]⟩ = pure [some (.ref f), none] from rfl) ?_)
  refine wpAny_bind (wpAny_pure ?_)
  refine wpAny_bind (wpAny_pyIter_list hls ?_)
  refine wpAny_bind (wpAny_newList ?_ (Nat.zero_le _))
  rw [hname]
  generalize hh1 : s.heap.push { cls := .type "list_iterator", data := .fields #[.ref l, .int 0 0] } = h1
  have z1 : h1.objs.size = s.heap.objs.size + 1 := by rw [← hh1]; exact size_push' ..
  have hlI : l ≠ s.heap.objs.size := Nat.ne_of_lt hll
  have hSI : h1.objs.size ≠ s.heap.objs.size := by lia
  have k1 : ∀ b o, s.heap.get? b = some o → h1.get? b = some o := fun b o e => by rw [← hh1]; exact Heap.get?_push_of_some _ e
  have gI : (h1.push (seqObj "list" #[] 0)).get? s.heap.objs.size = some { cls := .type "list_iterator", data := .fields #[.ref l, .int 0 0] } := Heap.get?_push_of_some _ (by rw [← hh1]; exact Heap.get?_push_size _ rfl)
  have gS : (h1.push (seqObj "list" #[] 0)).get? h1.objs.size = some (seqObj "list" #[] 0) := Heap.get?_push_size _ rfl
  have OI : Own X pins s.heap.objs.size := V.own (Nat.le_refl _)
  have OS : Own X pins h1.objs.size := V.own (by lia)
  have nI : H1 s.heap.objs.size = none := V.hok.fresh (Nat.le_refl _)
  have nS : H1 h1.objs.size = none := V.hok.fresh (by lia)
  have V0 : Inv X pins σ H1 { s with heap := h1.push (seqObj "list" #[] 0) } := V.kept (t' := s.toks) fun b o e => Heap.get?_push_of_some _ (k1 b o e)
  refine wpAny_pure ⟨plainId_quiet PySem.F.plain_min_loop _, ?_⟩
  have W := Walks.list (prog := X.prog) (w := X.w) (A := X.A.in1) hh s.heap.objs.size l hlI (bs.map Value.ref).toArray
  have hsz : (bs.map Value.ref).toArray.size = bs.length := by rw [List.size_toArray, List.length_map]
  have hlt : 0 < bs.length := (List.getElem?_eq_some_iff.mp hb0).1
  refine codeAny_builtin PySem.F.entry_min_loop ?_
  rw [Around.under_plainId PySem.F.plain_min_loop _]
  show wpAny _ X.A.in1 (seqItems? (.ref h1.objs.size) >>= _) _ _ _
  refine wpAny_bind (wpAny_seqItems gS rfl ?_)
  show wpAny _ X.A.in1 (tryCatch (pyNext (.ref s.heap.objs.size)) _ >>= _) _ _ _
  refine wpAny_bind (wpAny_tryCatch (W.item 0 _ _ _ (by rw [hsz]; exact hlt) ⟨⟨_, gI, rfl, rfl⟩, V0.refs hl⟩ fun v h' tk' hP hst' hk' => ?_))
  have hv : (bs.map Value.ref)[0]? = some v := by simpa using hP
  rw [List.getElem?_map, hb0] at hv
  obtain rfl : Value.ref b0 = v := Option.some.inj hv
  have V1 := V0.turnO (h' := h') (t' := tk') OI nI fun b o hb e => hk' b o (by simpa using hb) e
  obtain ⟨oI, hoI, hoc, hod⟩ := id hst'.1
  have V2 := V1.pinO OS nS (hk' _ _ (by simpa using hSI) gS) (fun v z => by cases z)
  have V3 := V2.pinO (OI.more hSI) nI hoI (fun v z => by rw [hod] at z; cases z)
  show wpAny _ X.A.in1 (tryCatch (holding [.ref b0] (call (.ref f) [.ref b0])) _ >>= _) _ _ _
  refine wpAny_bind (wpAny_tryCatch (wpAny_holding (wpAny_mono (key_run (g := .ref b0) F hr hb V3 rfl (key 0 _ _ hb0 hk0 H1 fun _ _ e => e)) (fun u s2 he => ?_) fun _ _ hF => hF.elim)))
  obtain ⟨u', H2, V4, ru, p, rfl, K2, hp⟩ := he
  cases ru
  have tI := V4.top
  have V5 := V4.unpin
  have tS := V5.top
  have V6 := V5.unpin
  obtain ⟨c2, hc2⟩ : ∃ c2, (s2.heap.update h1.objs.size (Obj.mapSeq fun _ => #[.ref b0, .ref p])).get? h1.objs.size = some (seqObj "list" #[.ref b0, .ref p] c2) := ⟨_, get?_update_seq tS.1 fun _ => #[.ref b0, .ref p]⟩
  have s1 := Heap.SameBut.update s2.heap h1.objs.size (Obj.mapSeq fun _ => #[.ref b0, .ref p])
  have V7 := (V6.turnO (t' := s2.toks) OS tS.2 fun b o hb e => (s1.2 b hb).trans e).pinO OS tS.2 hc2 (fun v z => by cases z)
  show wpAny _ X.A.in1 (updateSeq h1.objs.size (fun _ => #[.ref b0, .ref p]) >>= _) _ _ _
  refine wpAny_bind ?_
  refine wpAny_updateSeq tS.1 rfl ?_
  rw [hname]
  exact wpAny_pure ⟨plainId_quiet PySem.F.plain_min_loop _, mink_loop F hr hb hh hl hlen hk key hlI hSI OI OS hQ _ 0 _ _ p c2 rfl hlt V7 K2 ⟨oI, (s1.2 _ hSI.symm).trans tI.1, hoc, hod⟩ tI.2 hp⟩
end

noncomputable def tMinKey (sp : Sp) (t : TA) : TE := fun σ H Q => t σ H fun vs H1 => ∃ (l : Addr) (bs : List Addr) (kss : List (List Int)) (b0 : Addr) (k0 : List Int), vs = [V.ref l] ∧ H1 l = some (.lst (bs.map V.ref)) ∧ bs[0]? = some b0 ∧ kss[0]? = some k0 ∧ kss.length = bs.length ∧
  (∀ ks ∈ kss, ks.length = k0.length ∧ HT.lexLt ks k0 = false) ∧ KeyOk sp bs kss H1 ∧ ∀ H', Kh H1 H' → Q (.ref b0) H'
theorem w_minkey {sp : Sp} {t : TA} {σ : St} {H : Hp} {Q : VK} (h : t σ H fun vs H1 => ∃ (l : Addr) (bs : List Addr) (kss : List (List Int)) (b0 : Addr) (k0 : List Int), vs = [V.ref l] ∧ H1 l = some (.lst (bs.map V.ref)) ∧ bs[0]? = some b0 ∧ kss[0]? = some k0 ∧ kss.length = bs.length ∧
  (∀ ks ∈ kss, ks.length = k0.length ∧ HT.lexLt ks k0 = false) ∧ KeyOk sp bs kss H1 ∧ ∀ H', Kh H1 H' → Q (.ref b0) H') : tMinKey sp t σ H Q := h
theorem pe_minKey {X : Cx} {e : Expr} {t : TA} {x y : Str} {sp : Sp} {k : Nat} {p q pos kp : Pos} (hc : X.calm = true) (hg : Gl X "min") (hm : X.mg "min" = none) (D : Def X.prog X.w X.K X.mg X.base k x [y] sp) (hr : Room (k + 1) X.A) (hgx : Gl X x) (ha : PA X [e] t)
    (hdb : (x == ("__debug__" : Str)) = false := by decide) (hst : starEach [e] X.env = [(false, eval e X.env)] := by rfl) :
    PE X (.Call (.Name "min" p) [e] [⟨some "key", .Name x q, kp⟩] pos) (tMinKey sp t) := by
  intro pins s σ H Q I h
  obtain ⟨f, fd, F, hmx, hk, hb⟩ := D
  refine wpAny_Call_Name_kw (ld_blt I hg hm L2.boot_min ?_ (by decide) (by decide))
  refine PyProof.Rows.callWith_kw ?_ (by rw [hst]; rfl) (by rw [hst]; rfl)
  refine thn (ha pos pins s σ H _ I h) fun us s1 hh9 => ?_
  obtain ⟨vs, H1, I1, r, l, bs, kss, b0, k0, ev, hl, hb0, hk0, hlen, hks, key, q1⟩ := hh9
  subst ev
  obtain ⟨u, rfl, ru⟩ := vals1 r
  cases ru
  show wpAny _ _ (evalAll [(do let v ← eval (.Name x q) X.env; standAt pos; pure v)]) _ _ s1
  refine wpAny_evalAll_cons (wpAny_bind (ld_glob I1 hgx hmx (wpAny_bind (wpAny_standAt (wpAny_pure (wpAny_evalAll_nil ?_)))) hdb))
  exact mink_call F hr hb (I1.ok.hd hc) hl hlen hks key hb0 hk0 I1 fun s' H' I' K' => ⟨.ref b0, H', I', rfl, q1 H' K'⟩
end L2

set_option maxHeartbeats 1000000

namespace Hw
open PySem L2 HwSort
noncomputable def hearersOf (cs : Cs) (t : Int) : List Int := (cs.filter fun e => decide (e.1.2 = t)).map (·.1.1)
theorem mem_hearers {cs : Cs} {t a : Int} : a ∈ hearersOf cs t ↔ (a, t) ∈ keysC cs := by
  unfold hearersOf keysC
  constructor
  · intro h
    obtain ⟨e, he, rfl⟩ := List.mem_map.mp h
    obtain ⟨h1, h2⟩ := List.mem_filter.mp he
    exact List.mem_map.mpr ⟨e, h1, Prod.ext rfl (of_decide_eq_true h2)⟩
  · intro h
    obtain ⟨e, he, h2⟩ := List.mem_map.mp h
    exact List.mem_map.mpr ⟨e, List.mem_filter.mpr ⟨he, decide_eq_true (by rw [h2])⟩, by rw [h2]⟩
noncomputable def buildF (cs : Cs) : Nat → List Fam
  | 0 => [[none]]
  | k + 1 => (buildF cs k).flatMap fun f => (hearersOf cs (1 + (k : Int))).map fun a => f ++ [some a]
theorem mem_build {cs : Cs} : ∀ {k : Nat} {f : Fam}, f ∈ buildF cs k ↔ FamShape (k + 1) cs f
  | 0, f => by
    constructor
    · intro h
      rw [show f = [none] from List.mem_singleton.mp h]
      exact ⟨rfl, rfl, fun t h1 h2 => by lia, fun t h1 h2 => by lia⟩
    · intro h
      refine List.mem_singleton.mpr ?_
      obtain ⟨a, rfl⟩ := len_one h.len
      have := h.hd
      simp at this
      rw [this]
  | k + 1, f => by
    show f ∈ (buildF cs k).flatMap _ ↔ _
    rw [List.mem_flatMap]
    constructor
    · rintro ⟨g, hg, hf⟩
      obtain ⟨a, ha, rfl⟩ := List.mem_map.mp hf
      have sg := mem_build.mp hg
      have hl := sg.len
      have old : ∀ t : Int, 0 ≤ t → t < k + 1 → (g ++ [some a]).getD t.toNat none = g.getD t.toNat none := fun t h1 h2 => by
        rw [List.getD_eq_getElem?_getD, List.getD_eq_getElem?_getD, List.getElem?_append_left (by lia)]
      have new : (g ++ [some a]).getD (k + 1) none = some a := by
        rw [List.getD_eq_getElem?_getD, List.getElem?_append_right (by lia), hl, Nat.sub_self]
        rfl
      refine ⟨by rw [List.length_append, hl]; rfl, ?_, fun t h1 h2 => ?_, fun t h1 h2 => ?_⟩
      · have := old 0 (by lia) (by lia)
        exact this.trans sg.hd
      · by_cases ht : t = 1 + (k : Int)
        · rw [ht, show (1 + (k : Int)).toNat = k + 1 by lia, new]
          exact fun z => nomatch z
        · rw [old t (by lia) (by lia)]
          exact sg.full t h1 (by lia)
      · by_cases ht : t = 1 + (k : Int)
        · unfold parF
          rw [ht, show (1 + (k : Int)).toNat = k + 1 by lia, new]
          exact mem_hearers.mp ha
        · unfold parF
          rw [old t (by lia) (by lia)]
          exact sg.has t h1 (by lia)
    · intro sf
      have hl := sf.len
      have hd : f.dropLast.length = k + 1 := by rw [List.length_dropLast]; lia
      obtain ⟨v, hv⟩ : ∃ v, f.getD (k + 1) none = some v := by
        have := sf.full (1 + (k : Int)) (by lia) (by lia)
        rw [show (1 + (k : Int)).toNat = k + 1 by lia] at this
        cases h : f.getD (k + 1) none with
        | none => exact absurd h this
        | some v => exact ⟨v, rfl⟩
      have fe : f = f.dropLast ++ [some v] := by
        have hne : f ≠ [] := fun z => by rw [z] at hl; cases hl
        have h1 := (List.dropLast_concat_getLast hne).symm
        have h2 : f.getLast hne = some v := by
          rw [List.getLast_eq_getElem]
          have h3 : f.length - 1 = k + 1 := by lia
          have h4 : f.getD (k + 1) none = f[k + 1]'(by lia) := by simp [List.getD, show k + 1 < f.length by lia]
          simp only [h3]
          rw [← h4]
          exact hv
        rw [h2] at h1
        exact h1
      have old : ∀ t : Int, 0 ≤ t → t < k + 1 → f.dropLast.getD t.toNat none = f.getD t.toNat none := fun t h1 h2 => by
        conv => rhs; rw [fe]
        rw [List.getD_eq_getElem?_getD, List.getD_eq_getElem?_getD, List.getElem?_append_left (by lia)]
      refine ⟨f.dropLast, mem_build.mpr ⟨hd, ?_, fun t h1 h2 => ?_, fun t h1 h2 => ?_⟩, List.mem_map.mpr ⟨v, mem_hearers.mpr ?_, fe.symm⟩⟩
      · exact (old 0 (by lia) (by lia)).trans sf.hd
      · rw [old t (by lia) (by lia)]
        exact sf.full t h1 (by lia)
      · unfold parF
        rw [old t (by lia) (by lia)]
        exact sf.has t h1 (by lia)
      · have := sf.has (1 + (k : Int)) (by lia) (by lia)
        unfold parF at this
        rw [show (1 + (k : Int)).toNat = k + 1 by lia, hv] at this
        exact this

noncomputable def allF (n : Nat) (cs : Cs) : List Fam := (buildF cs (n - 1)).filter fun f => ledB n f
theorem mem_all {n : Nat} {cs : Cs} (hn : 1 ≤ n) {f : Fam} : f ∈ allF n cs ↔ IsFam n cs f := by
  unfold allF
  rw [List.mem_filter, mem_build, show n - 1 + 1 = n by lia]
  constructor
  · rintro ⟨sh, hl⟩
    refine ⟨sh.len, sh.hd, sh.full, ⟨sh.has, ?_⟩⟩
    unfold ledB at hl
    exact @of_decide_eq_true _ (Classical.propDecidable _) hl
  · intro h
    exact ⟨h.shape, h.ledB⟩

theorem fam_list {n : Nat} {cs : Cs} (hn : 1 ≤ n) (ok : ∀ k ∈ keysC cs, Ok2 n k.1 k.2) {p : Int → Int} (fp : FamP n cs p) : ∃ f, IsFam n cs f ∧ ∀ t : Int, 1 ≤ t → t < n → parF f t = p t := by
  have hat : ∀ t : Int, 1 ≤ t → t < n → ((none :: (others n).map fun t => some (p t)) : Fam).getD t.toNat none = some (p t) := fun t h1 h2 => by
    obtain ⟨i, hi⟩ : ∃ i : Nat, t = 1 + (i : Int) := ⟨(t - 1).toNat, by lia⟩
    subst hi
    rw [show (1 + (i : Int)).toNat = i + 1 by lia, List.getD_cons_succ, List.getD_eq_getElem?_getD, List.getElem?_map]
    unfold others
    rw [List.getElem?_map, List.getElem?_range (by lia)]
    rfl
  have hp : ∀ t : Int, 1 ≤ t → t < n → parF (none :: (others n).map fun t => some (p t)) t = p t := fun t h1 h2 => by
    unfold parF
    rw [hat t h1 h2]
    rfl
  refine ⟨none :: (others n).map fun t => some (p t), ⟨?_, rfl, fun t h1 h2 => ?_, fam_congr ok hp fp⟩, hp⟩
  · rw [List.length_cons, List.length_map]
    have : (others n).length = n - 1 := by simp [others]
    lia
  · rw [hat t h1 h2]
    exact fun z => nomatch z
noncomputable def wF (n : Nat) (cs : Cs) (f : Fam) : Int := worthP n cs (parF f)
theorem all_nil {n : Nat} {cs : Cs} (hn : 1 ≤ n) (ho : HsOk n cs) : allF n cs = [] ↔ lwF n cs = none := by
  rw [lw_none_iff hn ho]
  constructor
  · intro h p fp
    obtain ⟨f, hf, _⟩ := fam_list hn ho.ok fp
    have := (mem_all hn).mpr hf
    rw [h] at this
    cases this
  · intro h
    refine List.eq_nil_iff_forall_not_mem.mpr fun f hf => ?_
    exact h _ ((mem_all hn).mp hf).fp

theorem all_least {n : Nat} {cs : Cs} (hn : 1 ≤ n) (ho : HsOk n cs) {c : Int} (hm : c ∈ (allF n cs).map (wF n cs)) (hle : ∀ x ∈ (allF n cs).map (wF n cs), c ≤ x) : lwF n cs = some c := by
  rw [lw_iff hn ho]
  obtain ⟨f, hf, rfl⟩ := List.mem_map.mp hm
  refine ⟨⟨f, (mem_all hn).mp hf, rfl⟩, fun p fp => ?_⟩
  obtain ⟨g, hg, hp⟩ := fam_list hn ho.ok fp
  have := hle _ (List.mem_map_of_mem ((mem_all hn).mpr hg))
  unfold wF at this ⊢
  rwa [worth_same hp] at this

theorem lack_all {n : Nat} {cs : Cs} (hn : 1 ≤ n) (ho : HsOk n cs) {a t : Int} (h1 : 1 ≤ t) (h2 : t < n) {c : Int} (hm : c ∈ ((allF n cs).filter fun f => decide (parF f t = a)).map (wF n cs)) (hle : ∀ x ∈ ((allF n cs).filter fun f => decide (parF f t = a)).map (wF n cs), c ≤ x) : lwF n (withOnly cs a t) = some c := by
  have ho' : HsOk n (withOnly cs a t) := ho.filter _
  rw [lw_iff hn ho']
  obtain ⟨f, hf, rfl⟩ := List.mem_map.mp hm
  obtain ⟨hf1, hf2⟩ := List.mem_filter.mp hf
  have ff := (mem_all hn).mp hf1
  have fo : FamP n (withOnly cs a t) (parF f) := (fam_only h1 h2).mpr ⟨ff.fp, of_decide_eq_true hf2⟩
  refine ⟨⟨f, ⟨ff.len, ff.hd, ff.full, fo⟩, worth_only ho.nd fo⟩, fun p fp => ?_⟩
  obtain ⟨fp1, fp2⟩ := (fam_only h1 h2).mp fp
  obtain ⟨g, hg, hp⟩ := fam_list hn ho.ok fp1
  have := hle _ (List.mem_map_of_mem (List.mem_filter.mpr ⟨(mem_all hn).mpr hg, decide_eq_true ((hp t h1 h2).trans fp2)⟩))
  rw [worth_only ho.nd fp]
  unfold wF at this ⊢
  rwa [worth_same hp] at this
theorem lack_all_no {n : Nat} {cs : Cs} (hn : 1 ≤ n) (ho : HsOk n cs) {a t : Int} (h1 : 1 ≤ t) (h2 : t < n) (h : ((allF n cs).filter fun f => decide (parF f t = a)) = []) : lwF n (withOnly cs a t) = none := by
  have ho' : HsOk n (withOnly cs a t) := ho.filter _
  rw [lw_none_iff hn ho']
  intro p fp
  obtain ⟨fp1, fp2⟩ := (fam_only h1 h2).mp fp
  obtain ⟨g, hg, hp⟩ := fam_list hn ho.ok fp1
  have : g ∈ (allF n cs).filter fun f => decide (parF f t = a) := List.mem_filter.mpr ⟨(mem_all hn).mpr hg, decide_eq_true ((hp t h1 h2).trans fp2)⟩
  rw [h] at this
  cases this

noncomputable def goodF (n : Nat) (cs : Cs) (c : Int) : List Fam := (allF n cs).filter fun f => decide (wF n cs f = c)
theorem mem_good {n : Nat} {cs : Cs} (hn : 1 ≤ n) {c : Int} {f : Fam} : f ∈ goodF n cs c ↔ IsFam n cs f ∧ wF n cs f = c := by
  unfold goodF
  rw [List.mem_filter, mem_all hn, decide_eq_true_eq]

theorem free_good {n : Nat} {cs : Cs} (hn : 1 ≤ n) (ho : HsOk n cs) {c : Int} (hg : lwF n cs = some c) {e : Pr × Int} (he : e ∈ cs) : (lwF n (withOnly cs e.1.1 e.1.2) = some c) ↔ ∃ f ∈ goodF n cs c, parF f e.1.2 = e.1.1 := by
  obtain ⟨_, _, k3, k4, _, k6⟩ := ho.ok e.1 (List.mem_map_of_mem he)
  have h1 : 1 ≤ e.1.2 := by lia
  rw [lw_only_iff hn ho h1 k4 hg]
  constructor
  · rintro ⟨p, fp, hw, hp⟩
    obtain ⟨f, hf, hq⟩ := fam_list hn ho.ok fp
    exact ⟨f, (mem_good hn).mpr ⟨hf, (worth_same hq).trans hw⟩, (hq _ h1 k4).trans hp⟩
  · rintro ⟨f, hf, hp⟩
    obtain ⟨h5, h6⟩ := (mem_good hn).mp hf
    exact ⟨parF f, h5.fp, h6, hp⟩

theorem free_list {n : Nat} {cs : Cs} (hn : 1 ≤ n) (ho : HsOk n cs) {c : Int} (hg : lwF n cs = some c) : freeF n cs = (cs.filter fun e => decide (0 < ((goodF n cs c).filter fun f => decide (parF f e.1.2 = e.1.1)).length)).map (·.1) := by
  have e1 : freeF n cs = freeL n cs c := by
    unfold freeF
    rw [hg]
  rw [e1]
  unfold freeL
  congr 1
  refine List.filter_congr fun e he => ?_
  have h := free_good hn ho hg he
  by_cases hx : lwF n (withOnly cs e.1.1 e.1.2) = some c
  · rw [decide_eq_true hx]
    obtain ⟨f, hf, hp⟩ := h.mp hx
    exact (decide_eq_true (List.length_pos_iff.mpr (List.ne_nil_of_mem (List.mem_filter.mpr ⟨hf, decide_eq_true hp⟩)))).symm
  · rw [decide_eq_false hx]
    refine (decide_eq_false fun z => hx (h.mpr ?_)).symm
    obtain ⟨f, hf⟩ := List.exists_mem_of_ne_nil _ (List.length_pos_iff.mp z)
    obtain ⟨h5, h6⟩ := List.mem_filter.mp hf
    exact ⟨f, h5, of_decide_eq_true h6⟩

theorem bound_good {n : Nat} {cs : Cs} (hn : 1 ≤ n) (ho : HsOk n cs) {c : Int} (hg : lwF n cs = some c) {k : Pr} (hk : k ∈ keysC cs) : (lwF n (without cs k) = lwF n cs) ↔ ∃ f ∈ goodF n cs c, parF f k.2 ≠ k.1 := by
  obtain ⟨_, _, k3, k4, _, k6⟩ := ho.ok k hk
  have h1 : 1 ≤ k.2 := by lia
  rw [hg, lw_without hn ho h1 k4 hg]
  constructor
  · rintro ⟨p, fp, hw, hp⟩
    obtain ⟨f, hf, hq⟩ := fam_list hn ho.ok fp
    exact ⟨f, (mem_good hn).mpr ⟨hf, (worth_same hq).trans hw⟩, fun z => hp ((hq _ h1 k4).symm.trans z)⟩
  · rintro ⟨f, hf, hp⟩
    obtain ⟨h5, h6⟩ := (mem_good hn).mp hf
    exact ⟨parF f, h5.fp, h6, hp⟩
theorem good_ne {n : Nat} {cs : Cs} (hn : 1 ≤ n) (ho : HsOk n cs) {c : Int} (hg : lwF n cs = some c) : goodF n cs c ≠ [] := by
  obtain ⟨f, hf, hw⟩ := (lw_least hn ho hg).at'
  exact List.ne_nil_of_mem ((mem_good hn).mpr ⟨hf, hw⟩)
theorem bound_list {n : Nat} {cs : Cs} (hn : 1 ≤ n) (ho : HsOk n cs) {c : Int} (hg : lwF n cs = some c) : boundL (freeF n cs) = (cs.filter fun e => decide (((goodF n cs c).filter fun f => decide (parF f e.1.2 = e.1.1)).length = (goodF n cs c).length)).map (·.1) := by
  have gne := good_ne hn ho hg
  rw [bound_eq hn ho, free_list hn ho hg, List.filter_map, List.filter_filter]
  congr 1
  refine List.filter_congr fun e he => ?_
  have hk : e.1 ∈ keysC cs := List.mem_map_of_mem he
  have hb := bound_good hn ho hg hk
  by_cases hall : ∀ f ∈ goodF n cs c, parF f e.1.2 = e.1.1
  · have e2 : ((goodF n cs c).filter fun f => decide (parF f e.1.2 = e.1.1)) = goodF n cs c := List.filter_eq_self.mpr fun f hf => decide_eq_true (hall f hf)
    rw [e2, decide_eq_true rfl, decide_eq_true (List.length_pos_iff.mpr gne), Bool.and_true]
    show (!decide (lwF n (without cs e.1) = lwF n cs)) = true
    rw [decide_eq_false fun z => by obtain ⟨f, hf, hp⟩ := hb.mp z; exact hp (hall f hf)]
    rfl
  · obtain ⟨f, hf, hp⟩ : ∃ f ∈ goodF n cs c, parF f e.1.2 ≠ e.1.1 := Classical.byContradiction fun z => hall fun f hf => Classical.byContradiction fun y => z ⟨f, hf, y⟩
    have e3 : ¬ ((goodF n cs c).filter fun f => decide (parF f e.1.2 = e.1.1)).length = (goodF n cs c).length := fun z => by
      have := List.length_filter_eq_length_iff.mp z f hf
      exact hp (of_decide_eq_true this)
    rw [decide_eq_false e3]
    show (!decide (lwF n (without cs e.1) = lwF n cs) && _) = false
    rw [decide_eq_true (hb.mpr ⟨f, hf, hp⟩)]
    rfl
theorem hearers_rise {cs : Cs} (rise : (keysC cs).Pairwise ltP) (t : Int) : (hearersOf cs t).Pairwise (· < ·) := by
  unfold hearersOf
  rw [List.pairwise_map]
  have h1 : cs.Pairwise fun a b => ltP a.1 b.1 := List.pairwise_map.mp rise
  refine List.Pairwise.imp_of_mem ?_ (h1.sublist List.filter_sublist)
  intro a b ha hb h
  have h2 := of_decide_eq_true (List.mem_filter.mp ha).2
  have h3 := of_decide_eq_true (List.mem_filter.mp hb).2
  rcases h with h | ⟨_, h⟩
  · exact h
  · lia

noncomputable def LexB (m : Nat) (f g : Fam) : Prop := ∃ t : Int, 1 ≤ t ∧ t < m ∧ parF f t < parF g t ∧ ∀ s : Int, 1 ≤ s → s < t → parF g s = parF f s
theorem par_snoc {f : Fam} {a : Int} {t : Int} (h0 : 0 ≤ t) (h : t < f.length) : parF (f ++ [some a]) t = parF f t := by
  unfold parF
  rw [List.getD_eq_getElem?_getD, List.getD_eq_getElem?_getD, List.getElem?_append_left (by lia)]
theorem par_last {f : Fam} {a : Int} {t : Int} (h : t = f.length) : parF (f ++ [some a]) t = a := by
  unfold parF
  rw [List.getD_eq_getElem?_getD, List.getElem?_append_right (by lia), show t.toNat - f.length = 0 by lia]
  rfl
theorem build_lex {cs : Cs} (rise : (keysC cs).Pairwise ltP) : ∀ k, (buildF cs k).Pairwise (LexB (k + 1))
  | 0 => List.pairwise_singleton _ _
  | k + 1 => by
    show ((buildF cs k).flatMap fun f => (hearersOf cs (1 + (k : Int))).map fun a => f ++ [some a]).Pairwise _
    rw [List.pairwise_flatMap]
    refine ⟨fun f hf => ?_, ?_⟩
    · have hl := (mem_build.mp hf).len
      rw [List.pairwise_map]
      refine (hearers_rise rise _).imp fun {a b} hab => ?_
      refine ⟨1 + (k : Int), by lia, by lia, ?_, fun s h1 h2 => ?_⟩
      · rw [par_last (by lia), par_last (by lia)]
        exact hab
      · rw [par_snoc (by lia) (by lia), par_snoc (by lia) (by lia)]
    · refine List.Pairwise.imp_of_mem ?_ (build_lex rise k)
      rintro f g hf hg ⟨t, h1, h2, h3, h4⟩ x hx y hy
      have lf := (mem_build.mp hf).len
      have lg := (mem_build.mp hg).len
      obtain ⟨a, _, rfl⟩ := List.mem_map.mp hx
      obtain ⟨b, _, rfl⟩ := List.mem_map.mp hy
      refine ⟨t, h1, by lia, ?_, fun s s1 s2 => ?_⟩
      · rw [par_snoc (by lia) (by lia), par_snoc (by lia) (by lia)]
        exact h3
      · rw [par_snoc (by lia) (by lia), par_snoc (by lia) (by lia)]
        exact h4 s s1 s2
theorem good_lex {n : Nat} {cs : Cs} (hn : 1 ≤ n) (rise : (keysC cs).Pairwise ltP) (c : Int) : (goodF n cs c).Pairwise (LexB n) := by
  have h := build_lex rise (n - 1)
  rw [show n - 1 + 1 = n by lia] at h
  unfold goodF allF
  exact (h.sublist List.filter_sublist).sublist List.filter_sublist

theorem first_good {n : Nat} {cs : Cs} (hn : 1 ≤ n) (ho : HsOk n cs) (rise : (keysC cs).Pairwise ltP) {c : Int} (hg : lwF n cs = some c) : (goodF n cs c)[0]? = some (firstF n cs c) := by
  have F := first_fam hn ho rise hg
  have hm : firstF n cs c ∈ goodF n cs c := (mem_good hn).mpr ⟨F.fam, F.worth⟩
  have hl := good_lex hn rise c
  cases e : goodF n cs c with
  | nil => rw [e] at hm; cases hm
  | cons f r =>
    have hf : f ∈ goodF n cs c := by rw [e]; exact List.mem_cons_self
    obtain ⟨f1, f2⟩ := (mem_good hn).mp hf
    rw [e] at hl hm
    refine congrArg some ?_
    rcases List.mem_cons.mp hm with h | h
    · exact h.symm
    · obtain ⟨t, h1, h2, h3, h4⟩ := List.rel_of_pairwise_cons hl h
      have lx : lexLe n (parF f) (parF (firstF n cs c)) := .inr ⟨t, h1, h2, h3, h4⟩
      exact fam_ext f1 F.fam fun s s1 s2 => (lex_antisymm lx (F.lex _ f1.fp f2) s s1 s2).symm

noncomputable def FamRefs (N : Addr → Prop) (H : Hp) : List V → List Fam → Prop := Paired fun y f => ∃ b, y = V.ref b ∧ H b = some (.lst (f.map optV)) ∧ N b
theorem FamRefs.length {N : Addr → Prop} {H : Hp} {vs : List V} {fs : List Fam} (x : FamRefs N H vs fs) : vs.length = fs.length := Paired.length x
theorem FamRefs.same {N : Addr → Prop} {H H' : Hp} {vs : List V} {fs : List Fam} (x : FamRefs N H vs fs) (k : Same H H') : FamRefs N H' vs fs := Paired.mapP x fun _ _ h => by obtain ⟨b, e, h1, h2⟩ := h; exact ⟨b, e, k _ _ h1, h2⟩
theorem FamRefs.imp {N N' : Addr → Prop} {H : Hp} {vs : List V} {fs : List Fam} (x : FamRefs N H vs fs) (k : ∀ b f, H b = some (.lst f) → N b → N' b) : FamRefs N' H vs fs := Paired.mapP x fun _ _ h => by obtain ⟨b, e, h1, h2⟩ := h; exact ⟨b, e, h1, k _ _ h1 h2⟩
theorem FamRefs.upd {N : Addr → Prop} {H : Hp} {p : Addr} {o : HO} {vs : List V} {fs : List Fam} (x : FamRefs N H vs fs) (k : ∀ b, N b → b ≠ p) : FamRefs N (L2.upd H p o) vs fs := Paired.mapP x fun _ _ h => by obtain ⟨b, e, h1, h2⟩ := h; exact ⟨b, e, (upd_ne (k b h2)).trans h1, h2⟩
theorem FamRefs.snoc {N : Addr → Prop} {H : Hp} {vs : List V} {fs : List Fam} (x : FamRefs N H vs fs) {b : Addr} {f : Fam} (h : H b = some (.lst (f.map optV))) (hN : N b) : FamRefs N H (vs ++ [.ref b]) (fs ++ [f]) := paired_snoc x ⟨b, rfl, h, hN⟩
theorem FamRefs.app {N : Addr → Prop} {H : Hp} {vs ws : List V} {fs gs : List Fam} (x : FamRefs N H vs fs) (y : FamRefs N H ws gs) : FamRefs N H (vs ++ ws) (fs ++ gs) := by
  unfold FamRefs at x ⊢
  induction x with
  | nil => exact y
  | cons h t ih => exact .cons h ih
theorem FamRefs.get {N : Addr → Prop} {H : Hp} {vs : List V} {fs : List Fam} (x : FamRefs N H vs fs) {i : Nat} {y : V} (hy : vs[i]? = some y) : ∃ b f, y = .ref b ∧ fs[i]? = some f ∧ H b = some (.lst (f.map optV)) ∧ N b := by
  unfold FamRefs at x
  induction x generalizing i with
  | nil => simp at hy
  | cons h t ih =>
    cases i with
    | zero =>
      obtain ⟨b, e, h1, h2⟩ := h
      rw [List.getElem?_cons_zero] at hy
      exact ⟨b, _, (Option.some.inj hy).symm.trans e, rfl, h1, h2⟩
    | succ i => exact ih hy
theorem hearers_len (cs : Cs) (t : Int) : (hearersOf cs t).length ≤ cs.length := by
  unfold hearersOf
  rw [List.length_map]
  exact List.length_filter_le ..
theorem build_len {cs : Cs} (h : cs.length ≤ 16) : ∀ k, (buildF cs k).length ≤ 16 ^ k
  | 0 => Nat.le_refl _
  | k + 1 => by
    show ((buildF cs k).flatMap fun f => (hearersOf cs (1 + (k : Int))).map fun a => f ++ [some a]).length ≤ _
    rw [List.length_flatMap]
    have e : ((buildF cs k).map fun f => ((hearersOf cs (1 + (k : Int))).map fun a => f ++ [some a]).length) = List.replicate (buildF cs k).length (hearersOf cs (1 + (k : Int))).length := by
      apply List.ext_getElem?
      intro i
      rw [List.getElem?_map, List.getElem?_replicate]
      by_cases hi : i < (buildF cs k).length
      · rw [List.getElem?_eq_getElem hi, if_pos hi, Option.map_some, List.length_map]
      · rw [List.getElem?_eq_none (by lia), if_neg hi]
        rfl
    rw [e, List.sum_replicate_nat, Nat.pow_succ]
    exact Nat.mul_le_mul (build_len h k) (Nat.le_trans (hearers_len _ _) h)

theorem take_hear {cs : Cs} {j : Nat} {e : Pr × Int} (he : cs[j]? = some e) (t : Int) (f : Fam) : (hearersOf (cs.take (j + 1)) t).map (fun a => f ++ [some a]) = (hearersOf (cs.take j) t).map (fun a => f ++ [some a]) ++ if e.1.2 = t then [f ++ [some e.1.1]] else [] := by
  unfold hearersOf
  rw [List.take_add_one, he, List.filter_append, List.map_append, List.map_append]
  congr 1
  by_cases h : e.1.2 = t
  · simp [h]
  · simp [h]
theorem take_build {cs : Cs} {k j : Nat} {f : Fam} (hf : (buildF cs k)[j]? = some f) : (((buildF cs k).take (j + 1)).flatMap fun f => (hearersOf cs (1 + (k : Int))).map fun a => f ++ [some a]) = (((buildF cs k).take j).flatMap fun f => (hearersOf cs (1 + (k : Int))).map fun a => f ++ [some a]) ++ (hearersOf cs (1 + (k : Int))).map fun a => f ++ [some a] := by
  rw [List.take_add_one, hf, List.flatMap_append]
  simp
theorem flat_len {α β : Type} (g : α → List β) (m : Nat) (h : ∀ x, (g x).length ≤ m) : ∀ l : List α, (l.flatMap g).length ≤ l.length * m
  | [] => Nat.zero_le _
  | a :: r => by
    rw [List.flatMap_cons, List.length_append, List.length_cons, Nat.succ_mul]
    have := flat_len g m h r
    have := h a
    lia
theorem grown_few {cs : Cs} (h : cs.length ≤ 16) {i j : Nat} (hi : i ≤ 3) : (((buildF cs i).take j).flatMap fun f => (hearersOf cs (1 + (i : Int))).map fun a => f ++ [some a]).length ≤ 65536 := by
  have h1 := flat_len (fun f : Fam => (hearersOf cs (1 + (i : Int))).map fun a => f ++ [some a]) 16 (fun f => by rw [List.length_map]; exact Nat.le_trans (hearers_len _ _) h) ((buildF cs i).take j)
  have h2 := build_len h i
  have h3 : 16 ^ i ≤ 16 ^ 3 := Nat.pow_le_pow_right (by decide) hi
  rw [List.length_take] at h1
  have h4 : min j (buildF cs i).length * 16 ≤ 65536 := by lia
  exact Nat.le_trans h1 h4
theorem len5D {α : Type} {l : List α} (h : l.length = 5) : ∃ a b c d e, l = [a, b, c, d, e] := by
  match l, h with
  | [a, b, c, d, e], _ => exact ⟨a, b, c, d, e, rfl⟩
end Hw

set_option maxHeartbeats 1000000
set_option compiler.extract_closed false


namespace Hw
open PySem L2 HwSort

noncomputable def top (i : Nat) : Stmt := PySem.Challenge.pw_hearwood_k13_whole_by_all_families.main.body.getD i (.Pass ⟨0, 0, 0, 0⟩)
noncomputable abbrev s_Pricing___init__ : Stmt := inClass (top 9) 0
noncomputable abbrev s_Pricing_charge : Stmt := inClass (top 9) 1
noncomputable abbrev s_tellers_behind : Stmt := top 10
noncomputable abbrev s_cut_off : Stmt := top 11
noncomputable abbrev s_priced : Stmt := top 12
noncomputable abbrev s_grown : Stmt := top 13
noncomputable abbrev s_judged : Stmt := top 14
noncomputable abbrev s_least_worth : Stmt := top 16
noncomputable abbrev s_with_only : Stmt := top 17
noncomputable abbrev s_least_with : Stmt := top 18
noncomputable abbrev s_least : Stmt := top 19
noncomputable abbrev s_settled : Stmt := top 20
noncomputable abbrev s_first : Stmt := top 21
noncomputable abbrev s_lack : Stmt := top 22
noncomputable abbrev s_free : Stmt := top 23
noncomputable abbrev s_bound : Stmt := top 24
noncomputable abbrev s_check_pair : Stmt := top 27
noncomputable abbrev s_Book___init__ : Stmt := inClass (top 28) 0
noncomputable abbrev s_Book_many : Stmt := inClass (top 28) 1
noncomputable abbrev s_Book_let : Stmt := inClass (top 28) 2
noncomputable abbrev s_Book_cost : Stmt := inClass (top 28) 4
noncomputable abbrev s_Book_hearings : Stmt := inClass (top 28) 5
noncomputable abbrev s_law_cell_at : Stmt := top 30
noncomputable abbrev s_law_whole : Stmt := top 31
noncomputable abbrev s_law_mix : Stmt := top 32
noncomputable abbrev s_law_rows : Stmt := top 33
noncomputable abbrev s_law_book : Stmt := top 34
noncomputable abbrev s_law_costs : Stmt := top 35
noncomputable abbrev s_law_family : Stmt := top 36
noncomputable abbrev s_law_worth : Stmt := top 37
noncomputable abbrev s_law_all : Stmt := top 38
noncomputable abbrev s_law_pairs : Stmt := top 39
noncomputable abbrev s_law_rest : Stmt := top 40
noncomputable abbrev s_law_lack_is : Stmt := top 41
noncomputable abbrev s_law : Stmt := top 42

set_option bootstrap.genMatcherCode true
local macro_rules | `(tactic| walk_at "rd") => `(tactic| try simp only [tSeq, tIfS, tNot, tAnd, tOr, tTest, tChain, tB, tVar, tC, tOp, tUn, rI0_int, rI_int, rU_int, rEq_int, rNe_int, tAndV, tOrV, tNotV, tIf, tNext, tRet, tRetN, tDrop, tAsg, gName, tNever, tCons, tNil, tCB, tCall, tCallX, tRaise, tTup, tLst, L2.start,
  List.map_cons, List.map_nil, List.length_cons, List.length_nil, List.replicate, List.cons_append, List.nil_append, List.append_nil, List.getElem?_cons_zero, List.getElem?_cons_succ, List.set_cons_zero, List.set_cons_succ, Nat.reduceAdd, Nat.reduceSub, Nat.zero_add, Nat.sub_self,
  Option.some.injEq, V.int.injEq, V.bl.injEq, exists_eq_left', exists_eq_left, exists_eq', decide_eq_true_eq, Bool.not_eq_true', decide_eq_false_iff_not])
local macro_rules | `(tactic| walk_at "c") => `(tactic| try dsimp only [tC])
local macro_rules | `(tactic| walk_at "s") => `(tactic| repeat (first
  | (with_reducible first | refine w_seq ?_ | refine w_next ?_ | refine w_drop ?_ | refine w_ret ?_ | refine w_retN ?_ | refine w_ifS ?_ | refine w_asg ?_ | refine w_gname ?_ | refine w_c ?_ | refine w_B ?_ | refine w_test ?_ | refine w_and ?_ | refine w_or ?_ | refine w_not ?_ | refine w_andV ?_ | refine w_orV ?_ | refine w_notV ?_ | refine w_if ?_ | refine w_op ?_ | refine w_un ?_ | refine w_chain ?_ | refine w_nil ?_ | refine w_cons ?_ | refine w_tup ?_ | refine w_lst ?_ | refine w_call ?_ | refine w_meth ?_ | refine w_make ?_ | refine w_CB ?_ | refine w_BM0 ?_ | refine w_BM ?_ | refine w_fld ?_ | refine w_sfld ?_ | refine w_gsub ?_ | refine w_sl ?_ | refine w_nopart ?_ | refine w_part ?_ | refine w_dget ?_ | refine w_din ?_ | refine w_dnotin ?_ | refine w_dput ?_ | refine w_comp ?_ | refine w_ilist ?_ | refine w_irng1 ?_ | refine w_irng2 ?_ | refine w_yes ?_ | refine w_while ?_ | refine w_disp ?_ | refine w_pnil ?_ | refine w_pcons ?_ | refine w_gtup ?_ | refine w_gcons ?_ | refine w_gnil ?_ | refine w_thaw ?_ | refine w_idict ?_ | refine w_minlen ?_ | refine w_for ?_ | refine w_rI0 ?_ | refine w_eqI ?_ | refine w_neI ?_ | refine w_eqS ?_ | refine w_neS ?_ | refine w_T ?_ | refine w_F ?_ | refine w_nT ?_ | refine w_nF ?_ | refine w_exbl ?_ | refine w_exint ?_ | refine w_andr ?_)
  | ((with_reducible apply w_var); exact rfl)
  | (with_reducible refine w_pos (by assumption) ?_) | (with_reducible refine w_neg (by assumption) ?_) | (with_reducible refine w_npos (by assumption) ?_) | (with_reducible refine w_nneg (by assumption) ?_)
  | (with_reducible refine w_fdiv (by first | decide | lia) (by first | decide | lia) ?_)
  | (with_reducible refine w_mulL (by first | decide | lia) (by first | decide | lia) ?_) | (with_reducible refine w_mulR (by first | decide | lia) (by first | decide | lia) ?_)
  | (with_reducible refine w_rI (C := fun _ j => 0 < j) (by first | decide | lia) ?_)
  | (with_reducible refine w_pow (by decide) (by decide) (by decide) ?_)))
set_option bootstrap.genMatcherCode false
section
variable {P : Program} {w : World} {K : PySem.W.Frag} {mg : Str → Option Value} {base : Heap} {C : Addr}
theorem sc_check_pair : FnScope ["many", "one", "other"] ["many", "one", "other"] (defScope s_check_pair) := ⟨rfl, rfl, rfl, by decide +kernel, rfl, by decide +kernel, by decide +kernel⟩
theorem bi_check_pair : BindOk "check_pair" "check_pair" s_check_pair ["many", "one", "other"] := fun _ _ _ _ _ _ us hl => by
  obtain ⟨_, _, _, rfl⟩ := len3D hl
  rfl
theorem d_check (F : FunAt K mg "check_pair" "check_pair" s_check_pair) : Def P w K mg base 1 "check_pair" ["many", "one", "other"] sp_check := by
  refine F.def sc_check_pair bi_check_pair (fun vs H Q E h => ?_) (fun f cdv A outer s H vs Q E hr h => ?_)
  · obtain ⟨a, b, c, rfl, _⟩ := h
    rfl
  · obtain ⟨many, one, other, rfl, ⟨h1, h2, h3, h4, h5, h6⟩, q⟩ := h
    refine ⟨_, (pss_cons (ps_if (pt_not (PW.pt (pw_and (pt_chain op_le op_lt pe_int (pv 1) (pv 0)) (pw_and1 (pt_chain op_le op_lt pe_int (pv 2) (pv 0))))))
      (pss_one ps_never)
      pss_nil)
      (pss_cons (ps_if (pt_cmpR op_eq (pv 1) (pv 2) (nomark _))
      (pss_one ps_never)
      pss_nil)
      (pss_one (ps_if (pt_cmpR op_eq (pv 2) pe_int (nomark _))
      (pss_one ps_never)
      pss_nil)))), ?_⟩
    try clear hu
    try clear hu0
    try clear hu64
    try dsimp only [cxOf, cxComp, Cx.nox]
    walk_at "s"
    exact q
theorem sc_Book___init__ : FnScope ["self", "many"] ["self", "many"] (defScope s_Book___init__) := ⟨rfl, rfl, rfl, by decide +kernel, rfl, by decide +kernel, by decide +kernel⟩
theorem bi_Book___init__ : BindOk "__init__" "Book.__init__" s_Book___init__ ["self", "many"] := fun _ _ _ _ _ _ us hl => by
  obtain ⟨_, _, rfl⟩ := len2D hl
  rfl
theorem d_init (F : MakAt K mg C "Book" "__init__" "Book.__init__" s_Book___init__) (T : Txt K mg C) : MakD P w K mg base C 1 "Book" ["self", "many"] (sp_init C) := by
  refine F.def sc_Book___init__ bi_Book___init__ (fun vs H Q E h => ?_) (fun f cdv A outer s H vs Q E hr h => ?_)
  · obtain ⟨p, dx, m, rfl, _⟩ := h
    rfl
  · obtain ⟨p, dx, many, rfl, hp, h1, h2, k⟩ := h
    obtain ⟨t, hg_MOST_TELLERS⟩ := T.g_MOST_TELLERS
    refine ⟨_, (pss_cons (ps_if (pt_not (pt_chain op_le op_le pe_int (pv 1) (pe_glob (v := V.int 12) rfl hg_MOST_TELLERS ⟨_, rfl⟩)))
      (pss_one ps_never)
      pss_nil)
      (pss_cons (ps_fld (pv 0) (pv 1) rfl)
      (pss_one (ps_fld (pv 0) pe_dnewT rfl)))), ?_⟩
    try clear hu
    try clear hu0
    try clear hu64
    try dsimp only [cxOf, cxComp, Cx.nox]
    walk_at "rd"
    simp only [h1, h2, if_true, not_true, if_false]
    refine ⟨_, rfl, _, rfl, p, C, dx, [], rfl, hp, T.cl, T.aT, (by show 0 < 1000; decide), ?_⟩
    intro d hd
    have npd : p ≠ d := by
      intro e
      subst e
      rw [upd_same] at hd
      cases hd
    have hd' : H d = none := by rw [upd_ne npd.symm] at hd; exact hd
    refine ⟨_, rfl, p, C, dx, _, rfl, (by rw [upd_ne npd, upd_same]), T.cl, T.aC, (by show 1 < 1000; decide), ?_⟩
    refine k d _ hd' ⟨⟨dx, upd_same⟩, by rw [upd_ne npd.symm, upd_same]; rfl⟩ fun b o e hb => ?_
    rw [upd_ne hb, upd_ne (ne_of_none e hd'), upd_ne hb]
    exact e
theorem sc_Book_many : FnScope ["self"] ["self"] (defScope s_Book_many) := ⟨rfl, rfl, rfl, by decide +kernel, rfl, by decide +kernel, by decide +kernel⟩
theorem bi_Book_many : BindOk "many" "Book.many" s_Book_many ["self"] := fun _ _ _ _ _ _ us hl => by
  obtain ⟨_, rfl⟩ := len1D hl
  rfl
theorem d_many (F : MetAt K C "many" "Book.many" s_Book_many) (T : Txt K mg C) : MetD P w K mg base C 1 "many" ["self"] (sp_many C) := by
  refine F.def sc_Book_many bi_Book_many (fun vs H Q E h => ?_) (fun f cdv A outer s H vs Q E hr h => ?_)
  · obtain ⟨p, d, m, cs, rfl, _⟩ := h
    rfl
  · obtain ⟨p, d, many, cs, rfl, B, k⟩ := h
    obtain ⟨dx, h1⟩ := B.ob
    refine ⟨_, (pss_one (ps_ret (pe_fld (pv 0) rfl))), ?_⟩
    try clear hu
    try clear hu0
    try clear hu64
    try dsimp only [cxOf, cxComp, Cx.nox]
    exact rd_fld h1 T.cl T.aT (flds_many _ _) k
theorem sc_Book_let : FnScope ["self", "one", "other", "cost"] ["self", "one", "other", "cost"] (defScope s_Book_let) := ⟨rfl, rfl, rfl, by decide +kernel, rfl, by decide +kernel, by decide +kernel⟩
theorem bi_Book_let : BindOk "let" "Book.let" s_Book_let ["self", "one", "other", "cost"] := fun _ _ _ _ _ _ us hl => by
  obtain ⟨_, _, _, _, rfl⟩ := len4D hl
  rfl
theorem d_let (F : MetAt K C "let" "Book.let" s_Book_let) (T : Txt K mg C) (D_check_pair : Def P w K mg base 1 "check_pair" ["many", "one", "other"] sp_check) : MetD P w K mg base C 2 "let" ["self", "one", "other", "cost"] (sp_let C) := by
  refine F.def sc_Book_let bi_Book_let (fun vs H Q E h => ?_) (fun f cdv A outer s H vs Q E hr h => ?_)
  · obtain ⟨p, d, m, cs, a, b, c, rfl, _⟩ := h
    rfl
  · obtain ⟨p, d, many, cs, one, other, cost, rfl, B, ok, hl, k⟩ := h
    have hu := hu_of hr
    obtain ⟨dx, h1⟩ := B.ob
    refine ⟨_, (pss_cons (ps_expr (pe_callD D_check_pair (hr.mono (by decide)) (pa_cons (pe_fld (pv 0) rfl) (pa_cons (pv 1) (pa_cons (pv 2) pa_nil)))))
      (pss_cons (ps_dput hu (pe_fld (pv 0) rfl) (pe_tup (pa_cons (pv 1) (pa_cons (pv 2) pa_nil))) (pv 3) rfl)
      (pss_one (ps_ret (pe_callB call_lenT (by rfl) T.n_len L2.boot_len (pa_cons (pe_fld (pv 0) rfl) pa_nil)))))), ?_⟩
    try clear hu
    try clear hu0
    try clear hu64
    try dsimp only [cxOf, cxComp, Cx.nox]
    walk_at "rd"
    refine rd_fld h1 T.cl T.aT (flds_many _ _) ⟨many, one, other, rfl, ok, ?_⟩
    refine ⟨_, rfl, rd_fld h1 T.cl T.aC (flds_costs _ _) ?_⟩
    walk_at "rd"
    refine ⟨by simp [sizeLine_eq], fun t ht => ?_⟩
    have nd : d ≠ t := ne_of_none B.dc ht
    have np : p ≠ t := ne_of_none h1 ht
    refine ⟨d, _, rfl, DPut.t (k := encK (one, other)) ((upd_ne nd).trans B.dc) upd_same (by rw [enc_len]; exact small1000 (by lia)), ?_⟩
    rw [put_enc]
    have h1' : upd (upd H t (.tup [.int one, .int other])) d (.dT (enc (putC cs (one, other) cost))) p = some (.ins C dx (flds many d)) := by rw [upd_ne B.ne, upd_ne np]; exact h1
    refine rd_fld h1' T.cl T.aC (flds_costs _ _) ⟨d, _, rfl, upd_same, ?_⟩
    rw [enc_len]
    exact k _ ⟨⟨dx, h1'⟩, upd_same⟩ fun b o e hb => by rw [upd_ne hb, upd_ne (ne_of_none e ht)]; exact e
theorem sc_Book_cost : FnScope ["self", "one", "other"] ["self", "one", "other"] (defScope s_Book_cost) := ⟨rfl, rfl, rfl, by decide +kernel, rfl, by decide +kernel, by decide +kernel⟩
theorem bi_Book_cost : BindOk "cost" "Book.cost" s_Book_cost ["self", "one", "other"] := fun _ _ _ _ _ _ us hl => by
  obtain ⟨_, _, _, rfl⟩ := len3D hl
  rfl
theorem d_cost (F : MetAt K C "cost" "Book.cost" s_Book_cost) (T : Txt K mg C) (D_check_pair : Def P w K mg base 1 "check_pair" ["many", "one", "other"] sp_check) : MetD P w K mg base C 2 "cost" ["self", "one", "other"] (sp_cost C) := by
  refine F.def sc_Book_cost bi_Book_cost (fun vs H Q E h => ?_) (fun f cdv A outer s H vs Q E hr h => ?_)
  · obtain ⟨p, d, m, cs, a, b, rfl, _⟩ := h
    rfl
  · obtain ⟨p, d, many, cs, one, other, rfl, B, ok, k⟩ := h
    have hu := hu_of hr
    obtain ⟨dx, h1⟩ := B.ob
    refine ⟨_, (pss_cons (ps_expr (pe_callD D_check_pair (hr.mono (by decide)) (pa_cons (pe_fld (pv 0) rfl) (pa_cons (pv 1) (pa_cons (pv 2) pa_nil)))))
      (pss_one (ps_ret (pe_dget1 hu (pe_fld (pv 0) rfl) (pe_tup (pa_cons (pv 1) (pa_cons (pv 2) pa_nil))) ⟨rfl, rfl, rfl, rfl⟩)))), ?_⟩
    try clear hu
    try clear hu0
    try clear hu64
    try dsimp only [cxOf, cxComp, Cx.nox]
    walk_at "rd"
    refine rd_fld h1 T.cl T.aT (flds_many _ _) ⟨many, one, other, rfl, ok, ?_⟩
    simp only [tDGet1]
    refine rd_fld h1 T.cl T.aC (flds_costs _ _) ⟨d, rfl, .inr ⟨_, .inl B.dc⟩, ?_⟩
    walk_at "rd"
    refine ⟨by simp [sizeLine_eq], fun t ht => ?_⟩
    have nd : d ≠ t := ne_of_none B.dc ht
    refine ⟨_, DGet.t (k := encK (one, other)) ((upd_ne nd).trans B.dc) upd_same, ?_⟩
    rw [val_enc]
    have e : ((lookC cs (one, other)).map V.int).getD .non = optV (lookC cs (one, other)) := by cases lookC cs (one, other) <;> rfl
    rw [e]
    exact k _ (same_upd ht)
theorem sc_Book_hearings : FnScope ["self"] ["self"] (defScope s_Book_hearings) := ⟨rfl, rfl, rfl, by decide +kernel, rfl, by decide +kernel, by decide +kernel⟩
theorem bi_Book_hearings : BindOk "hearings" "Book.hearings" s_Book_hearings ["self"] := fun _ _ _ _ _ _ us hl => by
  obtain ⟨_, rfl⟩ := len1D hl
  rfl
theorem d_hear (F : MetAt K C "hearings" "Book.hearings" s_Book_hearings) (T : Txt K mg C) : MetD P w K mg base C 1 "hearings" ["self"] (sp_hearR C) := by
  refine F.def sc_Book_hearings bi_Book_hearings (fun vs H Q E h => ?_) (fun f cdv A outer s H vs Q E hr h => ?_)
  · obtain ⟨p, d, m, cs, rfl, _⟩ := h
    rfl
  · obtain ⟨p, d, many, cs, rfl, B, hn, h900, h64, k⟩ := h
    have hu := hu_of hr
    obtain ⟨dx, h1⟩ := B.ob
    refine ⟨_, (pss_one (ps_ret (pe_comp (N' := ["self", "one", "other"]) (n0 := 2) (osc := defScope s_Book_hearings) (pi_list (pe_callB (call_sortD rfl) (by rfl) T.n_sorted L2.boot_sorted (pa_cons (pe_fld (pv 0) rfl) pa_nil))) (fun z => (pg_tup rfl (pgs_cons (pg_name (i := 1) (show (["self", "one", "other"] : List Str).Nodup by decide +kernel) rfl (Or.inl rfl)) (pgs_cons (pg_name (i := 2) (show (["self", "one", "other"] : List Str).Nodup by decide +kernel) rfl (Or.inl rfl)) pgs_nil)))) (fun z => pif_nil) (fun z => (pe_tup (pa_cons (pv 1) (pa_cons (pv 2) (pa_cons (pe_dget hu (pe_fld (pv 0) rfl) (pe_tup (pa_cons (pv 1) (pa_cons (pv 2) pa_nil))) (fun _ _ => rfl)) pa_nil))))) rfl rfl (names_ok (N := ["self"]) (by decide +kernel)) rfl))), ?_⟩
    try clear hu
    try clear hu0
    try clear hu64
    try dsimp only [cxOf, cxComp, Cx.nox]
    simp only [tRet, tComp, iList, tCB, tCons, tNil]
    refine rd_fld h1 T.cl T.aC (flds_costs _ _) ⟨d, enc cs, (keysC cs).map two, rfl, B.dc, ?_, ?_, ?_, h64.imp (fun h => by rw [enc_len]; exact h) rise_two, fun l rs oss hl tr pm pw => ?_⟩
    · exact enc_keys cs
    · exact two_ne cs
    · exact two_nodup hn
    · refine ⟨l, rfl, ⟨_, .inl (.inl upd_same)⟩, ?_⟩
      have sl : Same H (upd H l (.lst rs)) := same_upd hl
      refine comp_list_map (xs := rs) (RelT fun i => triC cs (oss.getD i [])) relT_keep (.inl (.inl upd_same)) ?_ ?_ ?_
      · rw [tr.length, pm.length_eq, List.length_map]
        unfold keysC
        rw [List.length_map]
        lia
      · intro z i x ws H2 F hx hw s2 hF
        obtain ⟨b, ks, rfl, hks, hb⟩ := tr.get hx
        obtain ⟨k0, c, rfl, hc⟩ := key_of_mem hn pm hks
        have hb2 : H2 b = some (.tup [.int k0.1, .int k0.2]) := s2 _ _ (sl _ _ hb)
        have h12 : H2 p = some (.ins C dx (flds many d)) := s2 _ _ (sl _ _ h1)
        have hd2 : H2 d = some (.dT (enc cs)) := s2 _ _ (sl _ _ B.dc)
        obtain ⟨w1, w2, rfl⟩ : ∃ w1 w2, ws = [w1, w2] := len_two hw
        refine ⟨b, _, rfl, .inl (.inl hb2), rfl, ?_⟩
        have hval : valV (enc cs) (encK k0) = some (V.int c) := by rw [val_enc, hc]; rfl
        refine ⟨_, _, rfl, _, _, rfl, rfl, _, rfl, _, rfl, ?_⟩
        simp only [tCons, tDGet, tNil]
        refine rd_fld h12 T.cl T.aC (flds_costs _ _) ?_
        simp only [tTup, tCons, tVar, tNil]
        refine ⟨_, rfl, _, rfl, by simp [sizeLine_eq], fun t ht => ?_⟩
        have nd : d ≠ t := ne_of_none hd2 ht
        refine ⟨d, _, rfl, hval ▸ DGet.t (k := encK k0) ((upd_ne nd).trans hd2) upd_same, by simp [sizeLine_eq], fun u hu' => ?_⟩
        refine hF [some (.int k0.1), some (.int k0.2)] _ _ rfl ((same_upd ht).trans (same_upd hu')) ⟨u, rfl, ?_⟩
        have e1 : oss.getD i [] = two k0 := by simp [List.getD, hks]
        show _ = some (HO.tup ((triC cs (oss.getD i [])).map V.int))
        rw [e1, triC_two cs k0 hc]
        exact upd_same
      · intro l2 vs H' hl2 sm hv hlen hrel
        have hl3 : H l2 = none := sl.free hl2
        have e0 : (List.range vs.length).map (fun i => triC cs (oss.getD i [])) = oss.map (triC cs) := by
          rw [hlen, tr.length]
          exact map_getD (triC cs) oss []
        have tt := relT_refs hrel
        rw [e0] at tt
        exact k l2 vs _ H' (sl.trans sm) hl3 hv tt (tri_perm hn pm) (tri_rise hn pm pw)
end
section
variable {P : Program} {w : World} {K : PySem.W.Frag} {mg : Str → Option Value} {base : Heap} {C : Addr}
theorem sc_law_cell_at : FnScope ["script", "k"] ["script", "k"] (defScope s_law_cell_at) := ⟨rfl, rfl, rfl, by decide +kernel, rfl, by decide +kernel, by decide +kernel⟩
theorem bi_law_cell_at : BindOk "_law_cell_at" "_law_cell_at" s_law_cell_at ["script", "k"] := fun _ _ _ _ _ _ us hl => by
  obtain ⟨_, _, rfl⟩ := len2D hl
  rfl
theorem d_cell (F : FunAt K mg "_law_cell_at" "_law_cell_at" s_law_cell_at) (T : Txt K mg C) : Def P w K mg base 1 "_law_cell_at" ["script", "k"] (sp_cell K) := by
  refine F.def sc_law_cell_at bi_law_cell_at (fun vs H Q E h => ?_) (fun f cdv A outer s H vs Q E hr h => ?_)
  · obtain ⟨a, ns, k, rfl, _⟩ := h
    rfl
  · obtain ⟨a, ns, k, rfl, hS, hl, hk, q⟩ := h
    refine ⟨_, (pss_cons (ps_if (pt_cmpR op_lt (pv 1) (pe_callB call_len_seq (by rfl) T.n_len L2.boot_len (pa_cons (pv 0) pa_nil)) (nomark _))
      (pss_one (ps_ret (pe_ix ix_list (pv 0) (pv 1) (fun _ _ => rfl))))
      pss_nil)
      (pss_one (ps_ret pe_int))), ?_⟩
    try clear hu
    try clear hu0
    try clear hu64
    try dsimp only [cxOf, cxComp, Cx.nox]
    walk_at "rd"
    refine ⟨a, _, rfl, .inl hS, ?_⟩
    walk_at "rd"
    rw [List.length_map]
    obtain ⟨n, rfl⟩ : ∃ n : Nat, k = n := ⟨k.toNat, by lia⟩
    unfold cellF at q
    by_cases hlt : (n : Int) < (ns.length : Int)
    · rw [if_pos hlt] at q ⊢
      have hn : n < ns.length := by lia
      refine ⟨a, _, _, _, rfl, rfl, hS, atI_nat (v := .int (ns.getD n 0)) ?_, q⟩
      simp [hn]
    · rw [if_neg hlt] at q ⊢
      exact q
theorem sc_law_whole : FnScope ["found"] ["found"] (defScope s_law_whole) := ⟨rfl, rfl, rfl, by decide +kernel, rfl, by decide +kernel, by decide +kernel⟩
theorem bi_law_whole : BindOk "_law_whole" "_law_whole" s_law_whole ["found"] := fun _ _ _ _ _ _ us hl => by
  obtain ⟨_, rfl⟩ := len1D hl
  rfl
theorem d_whole (F : FunAt K mg "_law_whole" "_law_whole" s_law_whole) (T : Txt K mg C) : Def P w K mg base 1 "_law_whole" ["found"] sp_whole := by
  refine F.def sc_law_whole bi_law_whole (fun vs H Q E h => ?_) (fun f cdv A outer s H vs Q E hr h => ?_)
  · obtain ⟨i, rfl, _⟩ := h
    rfl
  · obtain ⟨i, rfl, q⟩ := h
    refine ⟨_, (pss_one (ps_ret (pe_and (pe_callB call_isi (by rfl) T.n_isinstance L2.boot_isinstance (pa_cons (pv 0) (pa_cons (pe_bltn (v := V.ty "int") rfl T.n_int L2.boot_int rfl) pa_nil))) (pe_one (pe_not (pe_callB call_isi (by rfl) T.n_isinstance L2.boot_isinstance (pa_cons (pv 0) (pa_cons (pe_bltn (v := V.ty "bool") rfl T.n_bool L2.boot_bool rfl) pa_nil)))))))), ?_⟩
    try clear hu
    try clear hu0
    try clear hu64
    try dsimp only [cxOf, cxComp, Cx.nox]
    walk_at "rd"
    refine ⟨_, _, _, _, rfl, .int i, isi_int_int, ?_⟩
    simp only [V.bl.injEq, exists_eq_left', if_true]
    refine ⟨_, _, _, _, rfl, .int i, isi_int_bool, ?_⟩
    simp only [V.bl.injEq, exists_eq_left', Bool.not_false]
    exact q
theorem sc_law_mix : FnScope ["cell", "k", "seed"] ["cell", "k"] (defScope s_law_mix) := ⟨rfl, rfl, rfl, by decide +kernel, rfl, by decide +kernel, by decide +kernel⟩
theorem bi_law_mix : BindOk "_law_mix" "_law_mix" s_law_mix ["cell", "k"] := fun _ _ _ _ _ _ us hl => by
  obtain ⟨_, _, rfl⟩ := len2D hl
  rfl
theorem d_mix (F : FunAt K mg "_law_mix" "_law_mix" s_law_mix) : Def P w K mg base 1 "_law_mix" ["cell", "k"] sp_mix := by
  refine F.def sc_law_mix bi_law_mix (fun vs H Q E h => ?_) (fun f cdv A outer s H vs Q E hr h => ?_)
  · obtain ⟨c, k, rfl, _⟩ := h
    rfl
  · obtain ⟨c, k, rfl, h0, h1, q⟩ := h
    refine ⟨_, (pss_cons (ps_set (i := 2) sc_law_mix.nd rfl (Or.inl rfl) (pe_op op_mod (pe_op op_add (pe_op op_add (pe_op op_mul (pv 0) pe_int) (pe_op op_mul pe_int (pv 1))) pe_int) pe_int))
      (pss_cons (ps_set (i := 2) sc_law_mix.nd rfl (Or.inl rfl) (pe_op op_mod (pe_op op_add (pe_op op_add (pe_op op_mul (pv 2) (pv 2)) (pe_op op_mul pe_int (pv 1))) pe_int) pe_int))
      (pss_one (ps_ret (pe_op op_mod (pe_op op_mul (pv 2) (pv 2)) pe_int))))), ?_⟩
    try clear hu
    try clear hu0
    try clear hu64
    try dsimp only [cxOf, cxComp, Cx.nox]
    walk_at "rd"
    have b1 := Int.emod_nonneg (c * 48271 + 104729 * k + 11) (show (2147483647 : Int) ≠ 0 by decide)
    have b2 := Int.emod_lt_of_pos (c * 48271 + 104729 * k + 11) (show (0 : Int) < 2147483647 by decide)
    have b3 := Int.emod_nonneg ((c * 48271 + 104729 * k + 11) % 2147483647 * ((c * 48271 + 104729 * k + 11) % 2147483647) + 7919 * k + 5) (show (2147483629 : Int) ≠ 0 by decide)
    have b4 := Int.emod_lt_of_pos ((c * 48271 + 104729 * k + 11) % 2147483647 * ((c * 48271 + 104729 * k + 11) % 2147483647) + 7919 * k + 5) (show (0 : Int) < 2147483629 by decide)
    refine ⟨.inr ⟨by decide, by decide⟩, .inl ⟨by decide, by decide⟩, by decide, .inl ⟨by lia, by lia⟩, .inl ⟨by decide, by decide⟩, by decide, .inl ⟨by lia, by lia⟩, by decide, ?_⟩
    exact q
end
section
variable {P : Program} {w : World} {K : PySem.W.Frag} {mg : Str → Option Value} {base : Heap} {C : Addr}
inductive RowsI1 (a l : Addr) (many share most : Int) (H : Hp) (i : Nat) (σ : St) (H' : Hp) : Prop
  | mk (o1 o2 o3 o4 : Option V) (rs : List V) (cs : Cs) (e : σ = [some (.ref a), some (.int many), some (.int share), some (.int most), some (.ref l), o1, o2, o3, o4]) (h1 : Same H H') (h2 : H' l = some (.lst rs)) (h3 : TupRefs H' rs (cs.map tri)) (h4 : (keysC cs).Pairwise ltP) (h5 : ∀ k ∈ keysC cs, Ok2 many k.1 k.2 ∧ k.1 < (i : Int)) (h6 : ∀ e ∈ cs, 0 ≤ e.2 ∧ e.2 ≤ 1000000) (h7 : cs.length ≤ 12 * i) : RowsI1 a l many share most H i σ H'
inductive RowsI2 (a l : Addr) (many share most : Int) (H : Hp) (i j : Nat) (σ : St) (H' : Hp) : Prop
  | mk (o2 o3 o4 : Option V) (rs : List V) (cs : Cs) (e : σ = [some (.ref a), some (.int many), some (.int share), some (.int most), some (.ref l), some (.int (0 + i)), o2, o3, o4]) (h1 : Same H H') (h2 : H' l = some (.lst rs)) (h3 : TupRefs H' rs (cs.map tri)) (h4 : (keysC cs).Pairwise ltP) (h5 : ∀ k ∈ keysC cs, Ok2 many k.1 k.2 ∧ (k.1 < (i : Int) ∨ k.1 = (i : Int) ∧ k.2 < 1 + (j : Int))) (h6 : ∀ e ∈ cs, 0 ≤ e.2 ∧ e.2 ≤ 1000000) (h7 : cs.length ≤ 12 * i + j) : RowsI2 a l many share most H i j σ H'
theorem sc_law_rows : FnScope ["script", "many", "share", "most", "rows", "one", "other", "cell", "drawn"] ["script", "many"] (defScope s_law_rows) := ⟨rfl, rfl, rfl, by decide +kernel, rfl, by decide +kernel, by decide +kernel⟩
theorem bi_law_rows : BindOk "_law_rows" "_law_rows" s_law_rows ["script", "many"] := fun _ _ _ _ _ _ us hl => by
  obtain ⟨_, _, rfl⟩ := len2D hl
  rfl
theorem d_rows (F : FunAt K mg "_law_rows" "_law_rows" s_law_rows) (T : Txt K mg C) (D_law_cell_at : Def P w K mg base 1 "_law_cell_at" ["script", "k"] (sp_cell K)) (D_law_mix : Def P w K mg base 1 "_law_mix" ["cell", "k"] sp_mix) : Def P w K mg base 2 "_law_rows" ["script", "many"] (sp_rows K) := by
  refine F.def sc_law_rows bi_law_rows (fun vs H Q E h => ?_) (fun f cdv A outer s H vs Q E hr h => ?_)
  · obtain ⟨a, ns, m, rfl, _⟩ := h
    rfl
  · obtain ⟨a, ns, many, rfl, hS, hl, hm1, hm2, q⟩ := h
    have hu := hu_of hr
    refine ⟨_, (pss_cons (ps_set (i := 2) sc_law_rows.nd rfl (Or.inl rfl) (pe_ix ix_list (pe_lst (pa_cons pe_int (pa_cons pe_int (pa_cons pe_int (pa_cons pe_int (pa_cons pe_int pa_nil)))))) (pe_op op_mod (pe_callD D_law_cell_at (hr.mono (by decide)) (pa_cons (pv 0) (pa_cons pe_int pa_nil))) pe_int) (fun _ _ => rfl)))
      (pss_cons (ps_set (i := 3) sc_law_rows.nd rfl (Or.inl rfl) (pe_ix ix_list (pe_lst (pa_cons pe_int (pa_cons pe_int (pa_cons pe_int pa_nil)))) (pe_op op_mod (pe_op op_fdiv (pe_callD D_law_cell_at (hr.mono (by decide)) (pa_cons (pv 0) (pa_cons pe_int pa_nil))) pe_int) pe_int) (fun _ _ => rfl)))
      (pss_cons (ps_set (i := 4) sc_law_rows.nd rfl (Or.inl rfl) (pe_lst pa_nil))
      (pss_cons (ps_for PassesOwn.never rfl (pi_range1 rfl T.n_range (pa_cons (pv 1) pa_nil)) (pg_name (i := 5) sc_law_rows.nd rfl (Or.inl rfl))
      (pss_one (ps_for PassesOwn.never rfl (pi_range2 rfl T.n_range (pa_cons pe_int (pa_cons (pv 1) pa_nil))) (pg_name (i := 6) sc_law_rows.nd rfl (Or.inl rfl))
      (pss_cons (ps_set (i := 7) sc_law_rows.nd rfl (Or.inl rfl) (pe_op op_add (pe_callD D_law_cell_at (hr.mono (by decide)) (pa_cons (pv 0) (pa_cons (pe_op op_add pe_int (pe_op op_mod (pe_op op_add (pe_op op_mul pe_int (pv 5)) (pv 6)) pe_int)) pa_nil))) (pe_op op_mul pe_int (pv 5))))
      (pss_cons (ps_set (i := 8) sc_law_rows.nd rfl (Or.inl rfl) (pe_op op_fdiv (pe_callD D_law_mix (hr.mono (by decide)) (pa_cons (pv 7) (pa_cons (pv 6) pa_nil))) pe_int))
      (pss_one (ps_if (PW.pt (pw_and (pt_cmpR op_ne (pv 5) (pv 6) (nomark _)) (pw_and1 (pt_cmpR op_lt (pe_op op_mod (pv 8) pe_int) (pv 2) (nomark _)))))
      (pss_one (ps_expr (pe_bm PySem.F.plainAttrs_list PySem.F.slot_list_append PySem.F.type_list_append mt_append (pv 4) (pa_cons (pe_tup (pa_cons (pv 5) (pa_cons (pv 6) (pa_cons (pe_op op_mod (pe_op op_fdiv (pv 8) pe_int) (pv 3)) pa_nil)))) pa_nil))))
      pss_nil)))))))
      (pss_one (ps_ret (pv 4))))))), ?_⟩
    try clear hu
    try clear hu0
    try clear hu64
    try dsimp only [cxOf, cxComp, Cx.nox]
    walk_at "s"
    refine ⟨by simp [sizeLine_eq], fun l1 hl1 => ?_⟩
    walk_at "s"
    have s1 : Same H (upd H l1 (.lst [.int 2, .int 4, .int 6, .int 8, .int 10])) := same_upd hl1
    refine ⟨a, ns, 1, rfl, s1.seq hS, hl, by decide, ?_⟩
    generalize hc1 : cellF ns 1 = c1
    walk_at "s"
    obtain ⟨share, hsh⟩ : ∃ v : Int, atI [V.int 2, V.int 4, V.int 6, V.int 8, V.int 10] (c1 % 5) = some (.int v) := by
      have : c1 % 5 = 0 ∨ c1 % 5 = 1 ∨ c1 % 5 = 2 ∨ c1 % 5 = 3 ∨ c1 % 5 = 4 := by lia
      rcases this with e | e | e | e | e <;> rw [e]
      · exact ⟨2, atI_nat (j := 0) rfl⟩
      · exact ⟨4, atI_nat (j := 1) rfl⟩
      · exact ⟨6, atI_nat (j := 2) rfl⟩
      · exact ⟨8, atI_nat (j := 3) rfl⟩
      · exact ⟨10, atI_nat (j := 4) rfl⟩
    refine ⟨l1, _, _, _, rfl, rfl, SqL.of upd_same, hsh, ?_⟩
    walk_at "s"
    refine ⟨by simp [sizeLine_eq], fun l2 hl2 => ?_⟩
    have s2 := s1.trans (same_upd (o := .lst [.int 8, .int 40, .int 1000001]) hl2)
    walk_at "s"
    refine ⟨a, ns, 1, rfl, s2.seq hS, hl, by decide, ?_⟩
    rw [hc1]
    walk_at "s"
    obtain ⟨most, hmo, hm0, hmm⟩ : ∃ v : Int, atI [V.int 8, V.int 40, V.int 1000001] (c1 / 5 % 3) = some (.int v) ∧ 0 < v ∧ v ≤ 1000001 := by
      have : c1 / 5 % 3 = 0 ∨ c1 / 5 % 3 = 1 ∨ c1 / 5 % 3 = 2 := by lia
      rcases this with e | e | e <;> rw [e]
      · exact ⟨8, atI_nat (j := 0) rfl, by decide, by decide⟩
      · exact ⟨40, atI_nat (j := 1) rfl, by decide, by decide⟩
      · exact ⟨1000001, atI_nat (j := 2) rfl, by decide, by decide⟩
    refine ⟨l2, _, _, _, rfl, rfl, SqL.of upd_same, hmo, ?_⟩
    walk_at "s"
    refine ⟨by simp [sizeLine_eq], fun l hl' => ?_⟩
    have s3 := s2.trans (same_upd (o := .lst []) hl')
    have hlH : H l = none := s2.free hl'
    walk_at "s"
    refine ⟨many, rfl, (rng1m hm1 hm2).2.2.1, (rng1m hm1 hm2).2.2.2, for_range (n := many.toNat) (fun i σ H' => RowsI1 a l many share most H i σ H')
      ⟨none, none, none, none, [], [], rfl, s3, upd_same, .nil, .nil, (fun k h => by cases h), (fun k h => by cases h), Nat.le_refl _⟩ ?_ ?_⟩
    · rintro i σ H1 hi ⟨o1, o2, o3, o4, rs, cs, rfl, sm, hl1', tr, hri, hok, hco, hle⟩
      walk_at "s"
      refine ⟨1, many, rfl, rng1m hm1 hm2, for_range (n := (many - 1).toNat) (fun j σ H' => RowsI2 a l many share most H i j σ H')
        ⟨o2, o3, o4, rs, cs, rfl, sm, hl1', tr, hri, (fun k h => ⟨(hok k h).1, .inl (hok k h).2⟩), hco, hle⟩ ?_ ?_⟩
      · rintro j σ H2 hj ⟨o2, o3, o4, rs, cs, rfl, sm, hl2', tr, hri, hok, hco, hle⟩
        walk_at "s"
        refine ⟨a, ns, _, rfl, sm.seq hS, hl, by lia, ?_⟩
        generalize cellF ns (3 + (5 * (0 + (i : Int)) + (1 + (j : Int))) % 30) = c2
        walk_at "s"
        refine ⟨_, _, rfl, by lia, by lia, ?_⟩
        have hmx := (mixF_in (c2 + 5003 * (0 + (i : Int))) (1 + (j : Int))).1
        generalize mixF (c2 + 5003 * (0 + (i : Int))) (1 + (j : Int)) = dr at hmx
        by_cases hij : (0 + (i : Int)) = 1 + (j : Int)
        · walk_at "s"
          exact ⟨_, _, _, rs, cs, rfl, sm, hl2', tr, hri, (fun k h => ⟨(hok k h).1, by have := (hok k h).2; lia⟩), hco, by lia⟩
        · by_cases hs : dr / 7 % 10 < share
          · walk_at "s"
            refine ⟨.inl ⟨rfl, _, SqL.of hl2'⟩, ?_⟩
            walk_at "s"
            refine ⟨by simp [sizeLine_eq], fun t ht => ?_⟩
            have hc0 := Int.emod_nonneg (dr / 7 / 10) (show most ≠ 0 by lia)
            have hc1 := Int.emod_lt_of_pos (dr / 7 / 10) hm0
            generalize dr / 7 / 10 % most = co at hc0 hc1
            have st : Same H2 (upd H2 t (.tup [.int (0 + i), .int (1 + j), .int co])) := same_upd ht
            have lt : l ≠ t := ne_of_none hl2' ht
            have len : rs.length = cs.length := by rw [tr.length, List.length_map]
            refine ⟨l, rs, _, rfl, rfl, (upd_ne lt).trans hl2', by rw [sizeLine_eq, len]; lia, ?_⟩
            walk_at "s"
            have kn : KeepNL H2 (upd (upd H2 t (.tup [.int (0 + i), .int (1 + j), .int co])) l (.lst (rs ++ [.ref t]))) := st.nl.trans (nl_upd ((upd_ne lt).trans hl2'))
            refine ⟨_, _, _, rs ++ [.ref t], cs ++ [(((0 : Int) + (i : Int), (1 : Int) + (j : Int)), co)], rfl, ?_, upd_same, ?_, ?_, ?_, ?_, ?_⟩
            · intro b o e
              rw [upd_ne (ne_of_none e hlH)]
              exact st _ _ (sm _ _ e)
            · rw [List.map_append]
              refine TupRefs.snoc (TupRefs.nl tr kn) ?_
              rw [upd_ne lt.symm, upd_same]
              rfl
            · rw [keys_snoc, List.pairwise_append]
              refine ⟨hri, List.pairwise_singleton _ _, fun x hx y hy => ?_⟩
              rw [List.mem_singleton.mp hy]
              rcases (hok x hx).2 with h | ⟨h1, h2⟩
              · exact .inl (by show x.1 < 0 + (i : Int); lia)
              · exact .inr ⟨by show x.1 = 0 + (i : Int); lia, by show x.2 < 1 + (j : Int); lia⟩
            · intro k hk
              rw [keys_snoc] at hk
              rcases List.mem_append.mp hk with hk | hk
              · exact ⟨(hok k hk).1, by have := (hok k hk).2; lia⟩
              · rw [List.mem_singleton.mp hk]
                refine ⟨⟨by show (0 : Int) ≤ 0 + i; lia, by show (0 : Int) + i < many; lia, by show (0 : Int) ≤ 1 + j; lia, by show (1 : Int) + j < many; lia, hij, by show ¬ (1 : Int) + j = 0; lia⟩, .inr ⟨by show (0 : Int) + i = i; lia, by show (1 : Int) + j < 1 + ((j + 1 : Nat) : Int); lia⟩⟩
            · intro e he
              rcases List.mem_append.mp he with he | he
              · exact hco e he
              · rw [List.mem_singleton.mp he]
                exact ⟨hc0, by show co ≤ 1000000; lia⟩
            · rw [List.length_append, List.length_singleton]
              lia
          · walk_at "s"
            exact ⟨_, _, _, rs, cs, rfl, sm, hl2', tr, hri, (fun k h => ⟨(hok k h).1, by have := (hok k h).2; lia⟩), hco, by lia⟩
      · rintro σ H2 ⟨o2, o3, o4, rs, cs, rfl, sm, hl2', tr, hri, hok, hco, hle⟩
        exact ⟨_, o2, o3, o4, rs, cs, rfl, sm, hl2', tr, hri, (fun k h => ⟨(hok k h).1, by have := (hok k h).2; lia⟩), hco, by lia⟩
    · rintro σ H1 ⟨o1, o2, o3, o4, rs, cs, rfl, sm, hl1', tr, hri, hok, hco, hle⟩
      walk_at "s"
      exact q l rs cs H1 sm hlH hl1' tr ⟨hri, fun k h => (hok k h).1, hco, by lia⟩
theorem sc_law_book : FnScope ["many", "rows", "book", "row"] ["many", "rows"] (defScope s_law_book) := ⟨rfl, rfl, rfl, by decide +kernel, rfl, by decide +kernel, by decide +kernel⟩
theorem bi_law_book : BindOk "_law_book" "_law_book" s_law_book ["many", "rows"] := fun _ _ _ _ _ _ us hl => by
  obtain ⟨_, _, rfl⟩ := len2D hl
  rfl
theorem d_bookL (F : FunAt K mg "_law_book" "_law_book" s_law_book) (T : Txt K mg C) (K_Book : MakD P w K mg base C 1 "Book" ["self", "many"] (sp_init C)) (M_let : MetD P w K mg base C 2 "let" ["self", "one", "other", "cost"] (sp_let C)) : Def P w K mg base 3 "_law_book" ["many", "rows"] (sp_bookL C) := by
  refine F.def sc_law_book bi_law_book (fun vs H Q E h => ?_) (fun f cdv A outer s H vs Q E hr h => ?_)
  · obtain ⟨a, ns, m, cs, rfl, _⟩ := h
    rfl
  · obtain ⟨l, rs, many, cs, rfl, hl, tr, G, hm1, hm2, h900, q⟩ := h
    have hu := hu_of hr
    refine ⟨_, (pss_cons (ps_set (i := 2) sc_law_book.nd rfl (Or.inl rfl) (pe_makeD K_Book (hr.mono (by decide)) (pa_cons (pv 0) pa_nil)))
      (pss_cons (ps_for PassesOwn.never rfl (pi_list (pv 1)) (pg_name (i := 3) sc_law_book.nd rfl (Or.inl rfl))
      (pss_one (ps_expr (pe_methD M_let T.cl (hr.mono (by decide)) (pv 2) (pa_cons (pe_ix ix_tup (pv 3) pe_int (fun _ _ => rfl)) (pa_cons (pe_ix ix_tup (pv 3) pe_int (fun _ _ => rfl)) (pa_cons (pe_ix ix_tup (pv 3) pe_int (fun _ _ => rfl)) pa_nil)))))))
      (pss_one (ps_ret (pv 2))))), ?_⟩
    try clear hu
    try clear hu0
    try clear hu64
    try dsimp only [cxOf, cxComp, Cx.nox]
    walk_at "s"
    intro x dx nx ndx nex
    refine ⟨x, dx, many, rfl, upd_same, hm1, hm2, fun d H1 hd B1 kp1 => ⟨rfl, ?_⟩⟩
    have s01 : Same H H1 := fun b o e => kp1 b o (by rw [upd_ne (ne_of_none e nx), upd_ne (ne_of_none e ndx)]; exact e) (ne_of_none e nx)
    have hd0 : H d = none := by
      have : Same H (upd (upd H dx (.own x)) x (.ins C dx [])) := fun b o e => by rw [upd_ne (ne_of_none e nx), upd_ne (ne_of_none e ndx)]; exact e
      exact this.free hd
    walk_at "s"
    have len : rs.length = cs.length := by rw [tr.length, List.length_map]
    refine ⟨l, rfl, ⟨_, SqL.of (s01 _ _ hl)⟩, for_list (xs := rs) (fun i σ H' => ∃ o, σ = [some (.int many), some (.ref l), some (.ref x), o] ∧ Same H H' ∧ BookAt C H' x d many (cs.take i)) ⟨none, rfl, s01, B1⟩ (fun i σ H' _ hh9 => by obtain ⟨_, _, sm, _⟩ := hh9; exact SqL.of (sm _ _ hl)) ?_ ?_⟩
    · rintro i y σ H2 hy ⟨o, rfl, sm, B2⟩
      obtain ⟨b, ks, rfl, hks, hb⟩ := tr.get hy
      rw [List.getElem?_map] at hks
      cases he : cs[i]? with
      | none => rw [he] at hks; cases hks
      | some e =>
        rw [he] at hks
        obtain rfl := Option.some.inj hks
        have hb2 : H2 b = some (.tup ((tri e).map V.int)) := sm _ _ hb
        have hil : i < cs.length := (List.getElem?_eq_some_iff.mp he).1
        have hem : e ∈ cs := List.mem_of_getElem? he
        walk_at "s"
        refine meth_book B2 (by decide +kernel) (by decide +kernel) ?_
        walk_at "s"
        refine ⟨b, _, 0, _, rfl, rfl, SqT.of hb2, atI_nat (j := 0) rfl, ?_⟩
        walk_at "s"
        refine ⟨b, _, 1, _, rfl, rfl, SqT.of hb2, atI_nat (j := 1) rfl, ?_⟩
        walk_at "s"
        refine ⟨b, _, 2, _, rfl, rfl, SqT.of hb2, atI_nat (j := 2) rfl, ?_⟩
        walk_at "s"
        refine ⟨x, d, many, _, _, _, _, rfl, B2, G.ok e.1 (List.mem_map_of_mem hem), by rw [List.length_take]; lia, fun H3 B3 kb => ?_⟩
        walk_at "s"
        refine ⟨_, rfl, fun b o e => kb b o (sm _ _ e) (ne_of_none e hd0), ?_⟩
        have e1 : cs.take (i + 1) = putC (cs.take i) (e.1.1, e.1.2) e.2 := by
          rw [put_new]
          · rw [List.take_add_one, he]
            rfl
          · intro hk
            obtain ⟨e', he', e2⟩ := List.mem_map.mp hk
            obtain ⟨j, hj, e3⟩ := List.mem_iff_getElem.mp he'
            rw [List.length_take] at hj
            rw [List.getElem_take] at e3
            have nd := G.nd
            have h1 : (keysC cs)[j]? = some e.1 := by
              unfold keysC
              rw [List.getElem?_map, List.getElem?_eq_getElem (by lia), e3]
              exact congrArg some e2
            have h2 : (keysC cs)[i]? = some e.1 := by
              unfold keysC
              rw [List.getElem?_map, he]
              rfl
            have := (List.getElem?_inj (by rw [keys_len]; lia) nd).mp (h1.trans h2.symm)
            lia
        rw [e1]
        exact B3
    · rintro σ H2 ⟨o, rfl, sm, B2⟩
      rw [len, List.take_length] at B2
      walk_at "s"
      exact q x d H2 sm nx hd0 B2
end
section
variable {P : Program} {w : World} {K : PySem.W.Frag} {mg : Str → Option Value} {base : Heap} {C C1 : Addr}
theorem sc_Pricing___init__ : FnScope ["self", "hearings"] ["self", "hearings"] (defScope s_Pricing___init__) := ⟨rfl, rfl, rfl, by decide +kernel, rfl, by decide +kernel, by decide +kernel⟩
theorem bi_Pricing___init__ : BindOk "__init__" "Pricing.__init__" s_Pricing___init__ ["self", "hearings"] := fun _ _ _ _ _ _ us hl => by
  obtain ⟨_, _, rfl⟩ := len2D hl
  rfl
theorem d_initP (F : MakAt K mg C1 "Pricing" "__init__" "Pricing.__init__" s_Pricing___init__) (T : Txt K mg C) (TP : TxtP K mg C1) : MakD P w K mg base C1 1 "Pricing" ["self", "hearings"] (sp_initP C1) := by
  refine F.def sc_Pricing___init__ bi_Pricing___init__ (fun vs H Q E h => ?_) (fun f cdv A outer s H vs Q E hr h => ?_)
  · obtain ⟨p, dx, l, rs, cs, rfl, _⟩ := h
    rfl
  · obtain ⟨p, dx, l, rs, cs, rfl, hp, hl, tr, hn, h200, k⟩ := h
    have hu := hu_of hr
    have hu64 := hr.units
    refine ⟨_, (pss_cons (ps_fld (pv 0) (pe_callTy (call_dictOf rfl hu64) (by rfl) T.n_dict L2.boot_dict (pa_cons (pe_comp (N' := ["#self", "#hearings", "one", "other", "cost"]) (n0 := 3) (osc := defScope s_Pricing___init__) (pi_list (pv 1)) (fun z => (pg_tup rfl (pgs_cons (pg_name (i := 2) (show (["#self", "#hearings", "one", "other", "cost"] : List Str).Nodup by decide +kernel) rfl (Or.inl rfl)) (pgs_cons (pg_name (i := 3) (show (["#self", "#hearings", "one", "other", "cost"] : List Str).Nodup by decide +kernel) rfl (Or.inl rfl)) (pgs_cons (pg_name (i := 4) (show (["#self", "#hearings", "one", "other", "cost"] : List Str).Nodup by decide +kernel) rfl (Or.inl rfl)) pgs_nil))))) (fun z => pif_nil) (fun z => (pe_tup (pa_cons (pe_tup (pa_cons (pv 2) (pa_cons (pv 3) pa_nil))) (pa_cons (pv 4) pa_nil)))) rfl rfl (names_ok (N := ["self", "hearings"]) (by decide +kernel)) rfl) pa_nil)) rfl)
      (pss_cons (ps_fld (pv 0) (pe_lst pa_nil) rfl)
      (pss_cons (ps_fld (pv 0) (pe_lst pa_nil) rfl)
      (pss_one (ps_fld (pv 0) pe_non rfl))))), ?_⟩
    try clear hu
    try clear hu0
    try clear hu64
    try dsimp only [cxOf, cxComp, Cx.nox]
    walk_at "s"
    refine ⟨l, rfl, ⟨_, SqL.of hl⟩, ?_⟩
    have len : rs.length = cs.length := by rw [tr.length, List.length_map]
    refine comp_list_map (xs := rs) (fun i v H' => ∃ b t e, v = .ref b ∧ cs[i]? = some e ∧ H' b = some (.tup [.ref t, .int e.2]) ∧ H' t = some (.tup [.int e.1.1, .int e.1.2])) (fun i v H1 H2 hv9 kp => by obtain ⟨b, t, e, h1, h2, h3, h4⟩ := hv9; exact ⟨b, t, e, h1, h2, kp _ _ h3 (fun _ z => nomatch z), kp _ _ h4 (fun _ z => nomatch z)⟩) (SqL.of hl) (by lia) ?_ ?_
    · intro z i x ws H2 F hx hw s2 hF
      obtain ⟨b, ks, rfl, hks, hb⟩ := tr.get hx
      rw [List.getElem?_map] at hks
      cases he : cs[i]? with
      | none => rw [he] at hks; cases hks
      | some e =>
        rw [he] at hks
        obtain rfl := Option.some.inj hks
        have hb2 : H2 b = some (.tup [.int e.1.1, .int e.1.2, .int e.2]) := s2 _ _ hb
        obtain ⟨w1, w2, w3, rfl⟩ : ∃ w1 w2 w3, ws = [w1, w2, w3] := by
          match ws, hw with
          | [a, b, c], _ => exact ⟨a, b, c, rfl⟩
        walk_at "s"
        refine ⟨b, _, rfl, SqT.of hb2, rfl, ?_⟩
        walk_at "s"
        refine ⟨by simp [sizeLine_eq], fun t ht => ?_⟩
        walk_at "s"
        refine ⟨by simp [sizeLine_eq], fun u hu' => ?_⟩
        refine hF [some (.int e.1.1), some (.int e.1.2), some (.int e.2)] _ _ rfl ((same_upd ht).trans (same_upd hu')) ⟨u, t, e, rfl, he, upd_same, ?_⟩
        rw [upd_ne (ne_of_none upd_same hu'), upd_same]
    · intro l2 vs H2 hl2 s2 hv hvl hrel
      walk_at "s"
      have hpr : PairRefs H2 vs (enc cs) := by
        refine paired_of (by rw [hvl, len, enc_len]) fun i a b ha hb => ?_
        obtain ⟨b1, t1, e1, h1, h2, h3, h4⟩ := hrel i a ha
        unfold enc at hb
        rw [List.getElem?_map, h2] at hb
        obtain rfl := Option.some.inj hb
        exact ⟨b1, t1, h1, h3, h4⟩
      refine ⟨l2, vs, enc cs, rfl, hv, hpr, ?_, fun d hd => ?_⟩
      · rw [enc_keys]
        exact nodup_map (fun a b h => by simpa using (List.map_inj_right (f := (Sum.inl : Int → Key)) (fun _ _ z => Sum.inl.inj z)).mp h) (two_nodup hn)
      have hp2 : H2 p = some (.ins C1 dx []) := s2 _ _ hp
      have npd : p ≠ d := ne_of_none hp2 hd
      have hd0 : H d = none := s2.free hd
      walk_at "s"
      refine ⟨p, C1, dx, [], rfl, (upd_ne npd).trans hp2, TP.cl, TP.aR, by show 0 < 1000; decide, ?_⟩
      walk_at "s"
      refine ⟨by simp [sizeLine_eq], fun sa hsa => ?_⟩
      have nps : p ≠ sa := ne_of_none upd_same hsa
      have nds : d ≠ sa := ne_of_none (by rw [upd_ne npd.symm, upd_same]) hsa
      have hs0 : H sa = none := by
        have : Same H2 (upd H2 d (.dT (enc cs))) := same_upd hd
        rw [upd_ne nps.symm] at hsa
        exact s2.free (this.free hsa)
      walk_at "s"
      refine ⟨p, C1, dx, _, rfl, (upd_ne nps).trans upd_same, TP.cl, TP.aS, (by have := length_putF "rests" (.ref d) []; simp at this; lia), ?_⟩
      walk_at "s"
      refine ⟨by simp [sizeLine_eq], fun q hq => ?_⟩
      have npq : p ≠ q := ne_of_none upd_same hq
      have ndq : d ≠ q := ne_of_none (by rw [upd_ne npd.symm, upd_ne nds, upd_ne npd.symm, upd_same]) hq
      have nsq : sa ≠ q := ne_of_none (by rw [upd_ne nps.symm, upd_same]) hq
      have hq0 : H q = none := by
        have : Same H2 (upd H2 d (.dT (enc cs))) := same_upd hd
        rw [upd_ne npq.symm, upd_ne nsq.symm, upd_ne npq.symm] at hq
        exact s2.free (this.free hq)
      walk_at "s"
      refine ⟨p, C1, dx, _, rfl, (upd_ne npq).trans upd_same, TP.cl, TP.aP, (by have h1 := length_putF "rests" (.ref d) []; have h2 := length_putF "spent" (.ref sa) (putF "rests" (.ref d) []); simp at h1; lia), ?_⟩
      walk_at "s"
      have hlen3 : (putF "prices" (.ref q) (putF "spent" (.ref sa) (putF "rests" (.ref d) []))).length ≤ 3 := by
        have h1 := length_putF "rests" (.ref d) []
        have h2 := length_putF "spent" (.ref sa) (putF "rests" (.ref d) [])
        have h3 := length_putF "prices" (.ref q) (putF "spent" (.ref sa) (putF "rests" (.ref d) []))
        simp at h1
        lia
      refine ⟨p, C1, dx, _, rfl, upd_same, TP.cl, TP.aL, (by lia), ?_⟩
      walk_at "s"
      refine k d sa q _ hd0 hs0 hq0 (fun N => ⟨⟨.non, ⟨dx, _, upd_same, ?_, ?_, ?_, ?_, fun m h1 h2 h3 h4 => ?_, (by have := length_putF "lonely" .non (putF "prices" (.ref q) (putF "spent" (.ref sa) (putF "rests" (.ref d) []))); lia)⟩, rfl⟩, ?_, ⟨[], ?_, .nil⟩, ⟨[], ?_, .nil⟩, nsq⟩) fun b o e hb => ?_
      · rw [lookup_putF, if_neg (by decide +kernel), lookup_putF, if_neg (by decide +kernel), lookup_putF, if_neg (by decide +kernel), lookup_putF, if_pos rfl]
      · rw [lookup_putF, if_neg (by decide +kernel), lookup_putF, if_neg (by decide +kernel), lookup_putF, if_pos rfl]
      · rw [lookup_putF, if_neg (by decide +kernel), lookup_putF, if_pos rfl]
      · rw [lookup_putF, if_pos rfl]
      · rw [lookup_putF, if_neg h4, lookup_putF, if_neg h3, lookup_putF, if_neg h2, lookup_putF, if_neg h1]
        rfl
      · rw [upd_ne npd.symm, upd_ne npd.symm, upd_ne ndq, upd_ne npd.symm, upd_ne nds, upd_ne npd.symm, upd_same]
      · rw [upd_ne nps.symm, upd_ne nps.symm, upd_ne nsq, upd_ne nps.symm, upd_same]
      · rw [upd_ne npq.symm, upd_ne npq.symm, upd_same]
      · have e2 := s2 _ _ e
        have e3 : b ≠ d := ne_of_none e2 hd
        have e4 : b ≠ sa := ne_of_none e hs0
        have e5 : b ≠ q := ne_of_none e hq0
        rw [upd_ne hb, upd_ne hb, upd_ne e5, upd_ne hb, upd_ne e4, upd_ne hb, upd_ne e3]
        exact e2
inductive ChJ (N : Addr → Prop) (C1 p d s q e : Addr) (st : PSt) (g : Grp) (ys : List V) (H H5 : Hp) : Prop
  | mk (ps : List (Grp × Int)) (hps : ps = (if priceOf st.rests g = 0 then st.prices else st.prices ++ [(g, priceOf st.rests g)])) (P5 : PrAt N C1 H5 p d s q { st with prices := ps }) (hys : H5 e = some (.lst ys)) (tr : TupRefs H5 ys ((entering st.rests g).map two)) (K5 : KeepP p d s q H H5) : ChJ N C1 p d s q e st g ys H H5
theorem w_joinB {b : Bool} {x : Prop} {F : Hp → Prop} {H : Hp} (J : Hp → Prop) (h : ∀ H', J H' → F H') (h2 : b = false → J H) (h1 : b = true → (∀ H', J H' → F H') → x) : if b = true then x else F H := by
  cases b
  · exact h _ (h2 rfl)
  · exact h1 rfl h
theorem sc_Pricing_charge : FnScope ["self", "group", "entering", "price", "pair"] ["self", "group"] (defScope s_Pricing_charge) := ⟨rfl, rfl, rfl, by decide +kernel, rfl, by decide +kernel, by decide +kernel⟩
theorem bi_Pricing_charge : BindOk "charge" "Pricing.charge" s_Pricing_charge ["self", "group"] := fun _ _ _ _ _ _ us hl => by
  obtain ⟨_, _, rfl⟩ := len2D hl
  rfl
theorem d_charge (F : MetAt K C1 "charge" "Pricing.charge" s_Pricing_charge) (T : Txt K mg C) (TP : TxtP K mg C1) : MetD P w K mg base C1 1 "charge" ["self", "group"] (sp_charge C1) := by
  refine F.def sc_Pricing_charge bi_Pricing_charge (fun vs H Q E h => ?_) (fun f cdv A outer s0 H vs Q E hr h => ?_)
  · obtain ⟨N, p, d, s, q, l, st, g, n, rfl, _⟩ := h
    rfl
  · obtain ⟨N, p, d, s, q, l, st, g, n, rfl, PA, hl, hls, hlq, hNl, hn, h200, hsl, hpl, hn1, hg, k⟩ := h
    have hu := hu_of hr
    have hu0 := hr.units0
    have hu64 := hr.units
    obtain ⟨⟨lv, ob, hlon⟩, dc, ⟨rs, hs, trs⟩, ⟨qs, hq, prq⟩, nsq⟩ := id PA
    refine ⟨_, (pss_cons (ps_thaw (ps_setComp (i := 2) sc_Pricing_charge.nd rfl (Or.inl rfl) (N' := ["#self", "group", "#entering", "#price", "#pair", "pair"]) (n0 := 1) (osc := defScope s_Pricing_charge) (pi_dict (pe_fld (pv 0) rfl)) (fun z => (pg_name (i := 5) (show (["#self", "group", "#entering", "#price", "#pair", "pair"] : List Str).Nodup by decide +kernel) rfl (Or.inl rfl))) (fun z => (pif_one (PW.pt (pw_and (pt_cmpR op_in_seq (pe_ix ix_tup (pv 5) pe_int (fun _ _ => rfl)) (pv 1) rfl) (pw_and1 (pt_cmpR op_notIn_seq (pe_ix ix_tup (pv 5) pe_int (fun _ _ => rfl)) (pv 1) rfl)))))) (fun z => (pv 5)) rfl rfl (names_ok (N := ["self", "group", "entering", "price", "pair"]) (by decide +kernel)) rfl))
      (pss_cons (ps_if (pt_cmpR (op_eqNil hu0) (pv 2) (pe_lst pa_nil) (nomark _))
      (pss_cons (ps_fld (pv 0) (pv 1) rfl)
      (pss_one ps_retN))
      pss_nil)
      (pss_cons (ps_set (i := 3) sc_Pricing_charge.nd rfl (Or.inl rfl) (pe_callB (call_minI rfl) (by rfl) T.n_min L2.boot_min (pa_cons (pe_comp (N' := ["self", "#group", "#entering", "#price", "#pair", "pair"]) (n0 := 1) (osc := defScope s_Pricing_charge) (pi_list (pv 2)) (fun z => (pg_name (i := 5) (show (["self", "#group", "#entering", "#price", "#pair", "pair"] : List Str).Nodup by decide +kernel) rfl (Or.inl rfl))) (fun z => pif_nil) (fun z => (pe_dget hu (pe_fld (pv 0) rfl) (pv 5) (fun _ _ => rfl))) rfl rfl (names_ok (N := ["self", "group", "entering", "price", "pair"]) (by decide +kernel)) rfl) pa_nil)))
      (pss_cons (ps_if (pt_cmpR op_ne (pv 3) pe_int (nomark _))
      (pss_one (ps_expr (pe_bm PySem.F.plainAttrs_list PySem.F.slot_list_append PySem.F.type_list_append mt_append (pe_fld (pv 0) rfl) (pa_cons (pe_tup (pa_cons (pv 1) (pa_cons (pv 3) pa_nil))) pa_nil))))
      pss_nil)
      (pss_one (ps_for PassesOwn.never rfl (pi_list (pv 2)) (pg_name (i := 4) sc_Pricing_charge.nd rfl (Or.inl rfl))
      (pss_cons (ps_dput hu (pe_fld (pv 0) rfl) (pv 4) (pe_op op_sub (pe_dget hu (pe_fld (pv 0) rfl) (pv 4) (fun _ _ => rfl)) (pv 3)) rfl)
      (pss_one (ps_if (pt_cmpR op_eq (pe_dget hu (pe_fld (pv 0) rfl) (pv 4) (fun _ _ => rfl)) pe_int (nomark _))
      (pss_one (ps_expr (pe_bm PySem.F.plainAttrs_list PySem.F.slot_list_append PySem.F.type_list_append mt_append (pe_fld (pv 0) rfl) (pa_cons (pv 4) pa_nil))))
      pss_nil))))))))), ?_⟩
    try clear hu
    try clear hu0
    try clear hu64
    try dsimp only [cxOf, cxComp, Cx.nox]
    walk_at "s"
    refine ⟨d, _, dc, ?_⟩
    walk_at "s"
    refine fld_p ob TP.cl TP.aR (.inl ⟨rfl, rfl⟩) ?_
    refine ⟨d, _, rfl, dc, fun o bs kr => ?_⟩
    have lend : bs.length = st.rests.length := by rw [← (Paired.length kr : (enc st.rests).length = bs.length), enc_len]
    have nfr : ∀ b u, H b = some u → b ≠ d → upd H d (.frz o (.dT (enc st.rests))) b = some u := fun b u e hb => by rw [upd_ne hb]; exact e
    have ld : l ≠ d := ne_of hl dc (fun z => nomatch z)
    refine comp_dict (xs := bs) (fun e i σ H' => ∃ w1 ys, σ = [some (.ref p), some (.ref l), none, none, none, w1] ∧ (∀ b u, upd H d (.frz o (.dT (enc st.rests))) b = some u → H' b = some u) ∧ H' e = some (.lst ys) ∧ TupRefs H' ys ((((keysC st.rests).take i).filter (entersB g)).map two) ∧ ys.length ≤ i) ?_ ?_ ?_ ?_
    · intro e he
      exact ⟨none, [], rfl, same_upd he, upd_same, .nil, Nat.le_refl _⟩
    · rintro e i σ H' he hi ⟨w1, ys, rfl, sm, _⟩
      exact sm _ _ upd_same
    · rintro e z i x σ H' he hx ⟨w1, ys, rfl, sm, hys, tr, hyl⟩
      obtain ⟨b, en, rfl, hen, hb⟩ := keyRefs_get kr hx
      have hbd : b ≠ d := ne_of hb dc (fun z => nomatch z)
      have hb' : H' b = some (.tup [.int en.1.1, .int en.1.2]) := sm _ _ (nfr _ _ hb hbd)
      have hl' : H' l = some (.lst (g.map V.int)) := sm _ _ (nfr _ _ hl ld)
      have hkey : (keysC st.rests)[i]? = some en.1 := by unfold keysC; rw [List.getElem?_map, hen]; rfl
      have hil : i < st.rests.length := (List.getElem?_eq_some_iff.mp hen).1
      rw [take_filter_succ (entersB g) hkey]
      have hent : entersB g en.1 = (decide (en.1.2 ∈ g) && !decide (en.1.1 ∈ g)) := rfl
      walk_at "s"
      refine ⟨b, _, 1, _, rfl, rfl, SqT.of hb', atI_nat (j := 1) rfl, ?_⟩
      walk_at "s"
      refine ⟨l, _, rfl, .inl (SqL.of hl'), rfl, flat_ints g, ?_⟩
      rw [if_neg Bool.false_ne_true, inV_int]
      walk_at "s"
      by_cases h1 : en.1.2 ∈ g
      · walk_at "s"
        refine ⟨b, _, 0, _, rfl, rfl, SqT.of hb', atI_nat (j := 0) rfl, ?_⟩
        walk_at "s"
        refine ⟨l, _, rfl, .inl (SqL.of hl'), rfl, flat_ints g, ?_⟩
        rw [if_pos rfl, inV_int]
        walk_at "s"
        by_cases h2 : en.1.1 ∈ g
        · walk_at "s"
          rw [hent, decide_eq_true h1, decide_eq_true h2, if_neg (by decide), List.append_nil]
          exact ⟨_, ys, rfl, sm, hys, tr, by lia⟩
        · walk_at "s"
          rw [hent, decide_eq_true h1, decide_eq_false h2, if_pos (by decide), List.map_append]
          refine ⟨ys, hys, by rw [sizeLine_eq]; lia, _, ys ++ [.ref b], rfl, ?_, upd_same, ?_, by rw [List.length_append, List.length_singleton]; lia⟩
          · intro c u hc
            rw [upd_ne (ne_of_none hc he)]
            exact sm _ _ hc
          · exact TupRefs.snoc (TupRefs.nl tr (nl_upd hys)) (by rw [upd_ne (ne_of hb' hys (fun z => nomatch z))]; exact hb')
      · walk_at "s"
        rw [hent, decide_eq_false h1, Bool.false_and, if_neg Bool.false_ne_true, List.append_nil]
        exact ⟨_, ys, rfl, sm, hys, tr, by lia⟩
    · rintro e σ H' he ⟨w1, ys, rfl, sm, hys, tr, hyl⟩
      have hed : e ≠ d := fun z => by rw [z, upd_same] at he; cases he
      have he0 : H e = none := by rw [upd_ne hed] at he; exact he
      rw [show bs.length = (keysC st.rests).length by rw [lend, keys_len], List.take_length] at tr
      have hen : (keysC st.rests).filter (entersB g) = entering st.rests g := rfl
      rw [hen] at tr
      walk_at "s"
      refine ⟨⟨o, sm _ _ upd_same⟩, ?_⟩
      have S2 : Same H (upd H' d (.dT (enc st.rests))) := fun b u hb => by
        by_cases hbd : b = d
        · subst hbd
          rw [dc] at hb
          cases hb
          exact upd_same
        · rw [upd_ne hbd]
          exact sm _ _ (nfr _ _ hb hbd)
      have hys2 : upd H' d (.dT (enc st.rests)) e = some (.lst ys) := by rw [upd_ne hed]; exact hys
      have tr2 : TupRefs (upd H' d (.dT (enc st.rests))) ys ((entering st.rests g).map two) := tr.keeps fun b xs hb => by
        rw [upd_ne (ne_of hb (sm _ _ upd_same) (fun z => nomatch z))]
        exact hb
      generalize upd H' d (.dT (enc st.rests)) = H2 at S2 hys2 tr2
      clear tr hys sm he
      have PA2 := PA.move S2
      have hyen : ys.length = (entering st.rests g).length := by rw [tr2.length, List.length_map]
      have hes : e ≠ s := (ne_of_none hs he0).symm
      have heq : e ≠ q := (ne_of_none hq he0).symm
      walk_at "s"
      refine ⟨Nat.zero_le _, fun z hz => ?_⟩
      have S3 : Same H2 (upd H2 z (.lst [])) := same_upd hz
      refine ⟨e, z, ys, rfl, rfl, SqL.of (S3 _ _ hys2), SqL.of upd_same, ?_⟩
      rw [if_neg Bool.false_ne_true]
      have PA3 := PA2.move S3
      have hl3 := S3 _ _ (S2 _ _ hl)
      have hys3 := S3 _ _ hys2
      have tr3 := tr2.same S3
      have S03 : Same H (upd H2 z (.lst [])) := S2.trans S3
      generalize upd H2 z (.lst []) = H3 at PA3 hl3 hys3 tr3 S03
      clear S3 hz
      obtain ⟨⟨lv3, ob3, hlon3⟩, dc3, ⟨rs3, hs3, trs3⟩, ⟨qs3, hq3, prq3⟩, _⟩ := id PA3
      obtain ⟨dx, fs, hp3, f1, f2, f3, f4, f5, f6⟩ := id ob3.ob
      have kps : p ≠ s := ne_of hp3 hs3 (fun z => nomatch z)
      have kpq : p ≠ q := ne_of hp3 hq3 (fun z => nomatch z)
      have kpd : p ≠ d := ne_of hp3 dc3 (fun z => nomatch z)
      have kds : d ≠ s := ne_of dc3 hs3 (fun z => nomatch z)
      have kdq : d ≠ q := ne_of dc3 hq3 (fun z => nomatch z)
      by_cases hemp : entering st.rests g = []
      · have ey : ys = [] := List.eq_nil_of_length_eq_zero (by rw [hyen, hemp]; rfl)
        subst ey
        rw [List.isEmpty_nil]
        walk_at "s"
        refine ⟨p, C1, dx, fs, rfl, hp3, TP.cl, TP.aL, by lia, ?_⟩
        walk_at "s"
        refine k _ ?_ fun b o hb h1 h2 h3 h4 => by rw [upd_ne h1]; exact S03 _ _ hb
        unfold chargeF
        rw [if_pos hemp]
        have lp : l ≠ p := ne_of hl3 hp3 (fun z => nomatch z)
        refine ⟨⟨.ref l, ⟨dx, _, upd_same, ?_, ?_, ?_, ?_, fun m h1 h2 h3 h4 => ?_, ?_⟩, l, rfl, (upd_ne lp).trans hl3, hls, hlq, hNl⟩, (upd_ne kpd.symm).trans dc3, ⟨rs3, (upd_ne kps.symm).trans hs3, trs3.keeps fun b xs hb => ?_⟩, ⟨qs3, (upd_ne kpq.symm).trans hq3, Paired.mapP prq3 fun _ _ ⟨b, l', e1, a1, a2, a3⟩ => ⟨b, l', e1, ?_, ?_, a3⟩⟩, nsq⟩
        · rw [lookup_putF, if_neg (by decide +kernel)]; exact f1
        · rw [lookup_putF, if_neg (by decide +kernel)]; exact f2
        · rw [lookup_putF, if_neg (by decide +kernel)]; exact f3
        · rw [lookup_putF, if_pos rfl]
        · rw [lookup_putF, if_neg h4]; exact f5 m h1 h2 h3 h4
        · rw [length_putF_old _ _ _ (by rw [f4]; rfl)]; exact f6
        · rw [upd_ne (ne_of hb hp3 (fun z => nomatch z))]; exact hb
        · rw [upd_ne (ne_of a1 hp3 (fun z => nomatch z))]; exact a1
        · rw [upd_ne (ne_of a2 hp3 (fun z => nomatch z))]; exact a2
      · have hne : ys.isEmpty = false := by
          cases ys with
          | nil => exact absurd (List.eq_nil_of_length_eq_zero hyen.symm) hemp
          | cons _ _ => rfl
        rw [hne]
        walk_at "s"
        refine ⟨e, rfl, ⟨_, SqL.of hys3⟩, ?_⟩
        have hel : ys.length ≤ 200 := by rw [lend] at hyl; lia
        refine comp_list_map (xs := ys) (fun i v _ => ∃ k, (entering st.rests g)[i]? = some k ∧ v = .int (costOf st.rests k)) (fun _ _ _ _ h _ => h) (SqL.of hys3) (by lia) ?_ ?_
        · intro z i x ws H4 F hx hw s4 hF
          obtain ⟨b, ks, rfl, hks, hb⟩ := tr3.get hx
          rw [List.getElem?_map] at hks
          cases he : (entering st.rests g)[i]? with
          | none => rw [he] at hks; cases hks
          | some kk =>
            rw [he] at hks
            obtain rfl := Option.some.inj hks
            have hb4 : H4 b = some (.tup [.int kk.1, .int kk.2]) := s4 _ _ hb
            obtain ⟨w1, rfl⟩ : ∃ w1, ws = [w1] := len_one hw
            have ob4 := ((PA3.move s4).ob)
            obtain ⟨lv4, ob4, _⟩ := ob4
            have hck := entering_cost hn (List.mem_of_getElem? he)
            walk_at "s"
            refine fld_p ob4 TP.cl TP.aR (.inl ⟨rfl, rfl⟩) ?_
            walk_at "s"
            have hval : valV (enc st.rests) (encK kk) = some (V.int (costOf st.rests kk)) := by rw [val_enc, hck]; rfl
            refine ⟨d, _, rfl, hval ▸ DGet.t (k := encK kk) (s4 _ _ dc3) hb4, ?_⟩
            exact hF [some (.ref b)] _ _ rfl (Same.refl _) ⟨kk, he, rfl⟩
        · intro lc vs H4 hlc s4 hv hvl hrel
          have evs : vs = ((entering st.rests g).map (costOf st.rests)).map V.int := by
            apply List.ext_getElem?
            intro i
            rw [List.getElem?_map, List.getElem?_map]
            cases h1 : vs[i]? with
            | none =>
              have : vs.length ≤ i := List.getElem?_eq_none_iff.mp h1
              rw [List.getElem?_eq_none (by lia)]
              rfl
            | some v =>
              obtain ⟨kk, h2, h3⟩ := hrel i v h1
              rw [h2, h3]
              rfl
          subst evs
          walk_at "s"
          refine ⟨lc, _, rfl, SqL.of hv, by simpa using hemp, fun M hM1 hM2 => ?_⟩
          have hM : M = priceOf st.rests g := minI_unique hM1 hM2
          subst hM
          have PA4 := PA3.move s4
          have hl4 := s4 _ _ hl3
          have hys4 := s4 _ _ hys3
          have tr4 := tr3.same s4
          have S04 := S03.trans s4
          clear hrel hv hvl hM1 hM2
          walk_at "s"
          apply w_joinB (H := H4) (J := fun H5 => ChJ N C1 p d s q e st g ys H H5)
          case h =>
            clear hys4 tr4 PA4 hl4 S04
            rintro H5 ⟨ps, hps, P5, hys4, tr4, K5⟩
            walk_at "s"
            refine ⟨e, rfl, ⟨_, SqL.of hys4⟩, for_list (xs := ys) (fun j σ H' => ∃ o, σ = [some (.ref p), some (.ref l), some (.ref e), some (.int (priceOf st.rests g)), o] ∧
              PrAt N C1 H' p d s q ⟨lowered st.rests ((entering st.rests g).take j) (priceOf st.rests g), st.spent ++ ((entering st.rests g).take j).filter (fun k => decide (costOf st.rests k = priceOf st.rests g)), ps, st.lonely⟩ ∧ H' e = some (.lst ys) ∧ TupRefs H' ys ((entering st.rests g).map two) ∧ KeepP p d s q H H')
              ⟨none, rfl, by rw [List.take_zero, lowered_nil, List.filter_nil, List.append_nil]; exact P5, hys4, tr4, K5⟩ (fun j σ H' _ hh9 => by obtain ⟨_, _, _, h, _⟩ := hh9; exact SqL.of h) ?_ ?_⟩
            · rintro j x σ H6 hx ⟨o6, rfl, P6, hys6, tr6, K6⟩
              obtain ⟨b, ks, rfl, hks, hb⟩ := tr6.get hx
              rw [List.getElem?_map] at hks
              cases he : (entering st.rests g)[j]? with
              | none => rw [he] at hks; cases hks
              | some kk =>
                rw [he] at hks
                obtain rfl := Option.some.inj hks
                have hb6 : H6 b = some (.tup [.int kk.1, .int kk.2]) := hb
                have hck := entering_cost hn (List.mem_of_getElem? he)
                have hjl : j < (entering st.rests g).length := (List.getElem?_eq_some_iff.mp he).1
                have hnt : kk ∉ (entering st.rests g).take j := not_mem_take (entering_nodup hn) he
                have hnd6 : (keysC st.rests).Nodup := hn
                have hval : valV (enc (lowered st.rests ((entering st.rests g).take j) (priceOf st.rests g))) (encK kk) = some (V.int (costOf st.rests kk)) := by
                  rw [val_enc, look_lowered, hck]
                  simp [hnt]
                obtain ⟨⟨lv6, ob6, _⟩, dc6, ⟨rs6, hs6, trs6⟩, _, _⟩ := id P6
                walk_at "s"
                refine fld_p ob6 TP.cl TP.aR (.inl ⟨rfl, rfl⟩) ?_
                walk_at "s"
                refine ⟨d, _, rfl, hval ▸ DGet.t (k := encK kk) dc6 hb6, ?_⟩
                walk_at "s"
                refine fld_p ob6 TP.cl TP.aR (.inl ⟨rfl, rfl⟩) ?_
                walk_at "s"
                refine ⟨d, _, rfl, DPut.t (k := encK kk) dc6 hb6 (by rw [enc_len]; unfold lowered; rw [List.length_map]; exact small1000 (by lia)), ?_⟩
                rw [put_enc, lowered_snoc hn hnt hck]
                have etk : (entering st.rests g).take j ++ [kk] = (entering st.rests g).take (j + 1) := by rw [List.take_add_one, he]; rfl
                rw [etk]
                have P7 := P6.putD (lowered st.rests ((entering st.rests g).take (j + 1)) (priceOf st.rests g))
                have kt7 : ∀ b xs, H6 b = some (.tup xs) → upd H6 d (.dT (enc (lowered st.rests ((entering st.rests g).take (j + 1)) (priceOf st.rests g)))) b = some (.tup xs) := fun b xs e => by rw [upd_ne (ne_of e dc6 (fun z => nomatch z))]; exact e
                have hys7 : upd H6 d (.dT (enc (lowered st.rests ((entering st.rests g).take (j + 1)) (priceOf st.rests g)))) e = some (.lst ys) := by rw [upd_ne hed]; exact hys6
                have K7 : KeepP p d s q H (upd H6 d (.dT (enc (lowered st.rests ((entering st.rests g).take (j + 1)) (priceOf st.rests g))))) := fun b o hb h1 h2 h3 h4 => by rw [upd_ne h2]; exact K6 b o hb h1 h2 h3 h4
                have tr7 := tr6.keeps kt7
                have hb7 := kt7 _ _ hb6
                have hs7 : upd H6 d (.dT (enc (lowered st.rests ((entering st.rests g).take (j + 1)) (priceOf st.rests g)))) s = some (.lst rs6) := by rw [upd_ne kds.symm]; exact hs6
                have dc7 : upd H6 d (.dT (enc (lowered st.rests ((entering st.rests g).take (j + 1)) (priceOf st.rests g)))) d = some (.dT (enc (lowered st.rests ((entering st.rests g).take (j + 1)) (priceOf st.rests g)))) := upd_same
                generalize upd H6 d (.dT (enc (lowered st.rests ((entering st.rests g).take (j + 1)) (priceOf st.rests g)))) = H7 at P7 hys7 K7 tr7 hb7 hs7 dc7
                obtain ⟨lv7, ob7, _⟩ := P7.ob
                have hval7 : valV (enc (lowered st.rests ((entering st.rests g).take (j + 1)) (priceOf st.rests g))) (encK kk) = some (V.int (costOf st.rests kk - priceOf st.rests g)) := by
                  rw [val_enc, look_lowered, hck]
                  have : kk ∈ (entering st.rests g).take (j + 1) := by rw [← etk]; simp
                  simp [this]
                walk_at "s"
                refine fld_p ob7 TP.cl TP.aR (.inl ⟨rfl, rfl⟩) ?_
                walk_at "s"
                refine ⟨d, _, rfl, hval7 ▸ DGet.t (k := encK kk) dc7 hb7, ?_⟩
                walk_at "s"
                rw [take_filter_succ (fun k => decide (costOf st.rests k = priceOf st.rests g)) he, ← List.append_assoc]
                by_cases hz : costOf st.rests kk - priceOf st.rests g = 0
                · have hz2 : costOf st.rests kk = priceOf st.rests g := by lia
                  walk_at "s"
                  refine fld_p ob7 TP.cl TP.aS (.inr (.inl ⟨rfl, rfl⟩)) ?_
                  refine ⟨.inl ⟨rfl, _, SqL.of hs7⟩, ?_⟩
                  walk_at "s"
                  have hrl : rs6.length ≤ 300000 := by
                    have h1 : rs6.length = (st.spent ++ ((entering st.rests g).take j).filter (fun k => decide (costOf st.rests k = priceOf st.rests g))).length := by rw [trs6.length, List.length_map]
                    have h2 := List.length_filter_le (fun k => decide (costOf st.rests k = priceOf st.rests g)) ((entering st.rests g).take j)
                    rw [List.length_append] at h1
                    rw [List.length_take] at h2
                    lia
                  refine ⟨s, rs6, _, rfl, rfl, hs7, by rw [sizeLine_eq]; lia, ?_⟩
                  walk_at "s"
                  rw [decide_eq_true hz2, if_pos rfl]
                  refine ⟨_, rfl, P7.addS hs7 hb7, by rw [upd_ne hes]; exact hys7, TupRefs.nl tr7 (nl_upd hs7), fun b o hb h1 h2 h3 h4 => by rw [upd_ne h3]; exact K7 b o hb h1 h2 h3 h4⟩
                · have hz2 : ¬ costOf st.rests kk = priceOf st.rests g := by lia
                  walk_at "s"
                  rw [decide_eq_false hz2, if_neg Bool.false_ne_true, List.append_nil]
                  exact ⟨_, rfl, P7, hys7, tr7, K7⟩
            · rintro σ H6 ⟨o6, rfl, P6, hys6, tr6, K6⟩
              walk_at "s"
              rw [hyen, List.take_length] at P6
              refine k _ ?_ K6
              unfold chargeF
              rw [if_neg hemp, ← hps]
              exact P6
          case h2 =>
            intro hb
            have hp0 : priceOf st.rests g = 0 := by simpa using hb
            exact ⟨_, (by rw [if_pos hp0]), PA4, hys4, tr4, fun b o hb _ _ _ _ => S04 _ _ hb⟩
          case h1 =>
            intro hb key
            have hp0 : ¬ priceOf st.rests g = 0 := by simpa using hb
            walk_at "s"
            obtain ⟨lv4, ob4, _⟩ := PA4.ob
            refine fld_p ob4 TP.cl TP.aP (.inr (.inr (.inl ⟨rfl, rfl⟩))) ?_
            refine ⟨.inl ⟨rfl, _, SqL.of (s4 _ _ hq3)⟩, ?_⟩
            walk_at "s"
            refine ⟨by simp [sizeLine_eq], fun t ht => ?_⟩
            have hq4 := s4 _ _ hq3
            have nqt : q ≠ t := ne_of_none hq4 ht
            have st4 : Same H4 (upd H4 t (.tup [.ref l, .int (priceOf st.rests g)])) := same_upd ht
            have hqsl : qs3.length ≤ 1000 := by rw [(Paired.length prq3 : qs3.length = st.prices.length)]; lia
            refine ⟨q, qs3, _, rfl, rfl, st4 _ _ hq4, by rw [sizeLine_eq]; lia, ?_⟩
            refine key _ ⟨st.prices ++ [(g, priceOf st.rests g)], (by rw [if_neg hp0]), (PA4.move st4).addQ (st4 _ _ hq4) upd_same (st4 _ _ hl4) hls hlq hNl, by rw [upd_ne heq]; exact st4 _ _ hys4, TupRefs.nl (tr4.same st4) (nl_upd (st4 _ _ hq4)), fun b o hb _ _ _ h4 => ?_⟩
            rw [upd_ne h4]
            exact st4 _ _ (S04 _ _ hb)
end
section
variable {P : Program} {w : World} {K : PySem.W.Frag} {mg : Str → Option Value} {base : Heap} {C C1 : Addr}
inductive BehW (a fa wa : Addr) (t : Int) (n : Nat) (spent : List Pr) (H : Hp) (m : Nat) (σ : St) (H' : Hp) : Prop
  | mk (o1 o2 : Option V) (kvs : List (Key × V)) (ks ws : List Int) (e : σ = [some (.ref a), some (.int t), some (.ref fa), some (.ref wa), o1, o2]) (h1 : Same H H') (h2 : H' fa = some (.dK kvs)) (h3 : kvs.map (·.1) = ks.map Sum.inl) (h4 : H' wa = some (.lst (ws.map V.int))) (h5 : FInv n spent t ks ws) (h6 : ws.length ≤ ks.length) (h7 : m = 2 * (n - ks.length) + ws.length) : BehW a fa wa t n spent H m σ H'
inductive BehI (a fa wa : Addr) (t b : Int) (n : Nat) (spent : List Pr) (ks w' ps : List Int) (H : Hp) (j : Nat) (σ' : St) (H' : Hp) : Prop
  | mk (o2 : Option V) (kvs' : List (Key × V)) (ks' ws' : List Int) (e : σ' = [some (.ref a), some (.int t), some (.ref fa), some (.ref wa), some (.int b), o2]) (h1 : Same H H') (h2 : H' fa = some (.dK kvs')) (h3 : kvs'.map (·.1) = ks'.map Sum.inl) (h4 : H' wa = some (.lst (ws'.map V.int))) (h5 : ks'.Nodup) (h6 : ∀ x : Int, x ∈ ks' → (0 ≤ x ∧ x < (n : Int)) ∧ Reach spent t x) (h7 : ∀ x ∈ ws', x ∈ ks') (h8 : ∀ x ∈ ks, x ∈ ks') (h9 : ∀ x ∈ ks', x ∉ ws' → x ≠ b → ∀ y, (y, x) ∈ spent → y ∈ ks') (h10 : ∀ y ∈ ps.take j, y ∈ ks') (h11 : ws'.length + ks.length = w'.length + ks'.length) : BehI a fa wa t b n spent ks w' ps H j σ' H'
theorem sc_tellers_behind : FnScope ["into", "teller", "found", "waiting", "at", "one"] ["into", "teller"] (defScope s_tellers_behind) := ⟨rfl, rfl, rfl, by decide +kernel, rfl, by decide +kernel, by decide +kernel⟩
theorem bi_tellers_behind : BindOk "tellers_behind" "tellers_behind" s_tellers_behind ["into", "teller"] := fun _ _ _ _ _ _ us hl => by
  obtain ⟨_, _, rfl⟩ := len2D hl
  rfl
theorem d_behind (F : FunAt K mg "tellers_behind" "tellers_behind" s_tellers_behind) (T : Txt K mg C) : Def P w K mg base 1 "tellers_behind" ["into", "teller"] sp_behind := by
  refine F.def sc_tellers_behind bi_tellers_behind (fun vs H Q E h => ?_) (fun f cdv A outer s0 H vs Q E hr h => ?_)
  · obtain ⟨a, bs, n, spent, t, rfl, _⟩ := h
    rfl
  · obtain ⟨a, bs, n, spent, t, rfl, ha, lr, t0, t1, n12, so, k⟩ := h
    have hu := hu_of hr
    have hu64 := hr.units
    refine ⟨_, (pss_cons (ps_set (i := 2) sc_tellers_behind.nd rfl (Or.inl rfl) (pe_disp (pps_cons (pv 1) pe_bl pps_nil) rfl rfl (fun z => nomatch z) (by decide)))
      (pss_cons (ps_set (i := 3) sc_tellers_behind.nd rfl (Or.inl rfl) (pe_lst (pa_cons (pv 1) pa_nil)))
      (pss_cons (ps_while PassesOwn.never (pt_cmpR (op_neD hu64) (pv 3) (pe_lst pa_nil) (nomark _))
      (pss_cons (ps_set (i := 4) sc_tellers_behind.nd rfl (Or.inl rfl) (pe_bm0 PySem.F.plainAttrs_list PySem.F.slot_list_pop PySem.F.type_list_pop mt_pop (pv 3)))
      (pss_one (ps_for PassesOwn.never rfl (pi_list (pe_ix ix_list (pv 0) (pv 4) (fun _ _ => rfl))) (pg_name (i := 5) sc_tellers_behind.nd rfl (Or.inl rfl))
      (pss_one (ps_if (pt_cmp (pc_dnotin hu (pv 5) (pv 2)))
      (pss_cons (ps_dput hu (pv 2) (pv 5) pe_bl rfl)
      (pss_one (ps_expr (pe_bm PySem.F.plainAttrs_list PySem.F.slot_list_append PySem.F.type_list_append mt_append (pv 3) (pa_cons (pv 5) pa_nil)))))
      pss_nil))))))
      (pss_one (ps_ret (pe_callB (call_sortK rfl) (by rfl) T.n_sorted L2.boot_sorted (pa_cons (pv 2) pa_nil))))))), ?_⟩
    try clear hu
    try clear hu0
    try clear hu64
    try dsimp only [cxOf, cxComp, Cx.nox]
    walk_at "s"
    intro fa hfa
    walk_at "s"
    refine ⟨upd_same, [(Sum.inl t, .bl true)], rfl, by show 1 ≤ 15; decide, ?_⟩
    have hm : mergeK [] [((Sum.inl t : Key), V.bl true)] = [(Sum.inl t, .bl true)] := rfl
    rw [hm, upd_upd]
    have S1 : Same H (upd H fa (.dK [(Sum.inl t, .bl true)])) := same_upd hfa
    walk_at "s"
    refine ⟨by simp [sizeLine_eq], fun wa hwa => ?_⟩
    have hfw : fa ≠ wa := ne_of_none upd_same hwa
    have hwa0 : H wa = none := S1.free hwa
    have S2 := S1.trans (same_upd (o := .lst [.int t]) hwa)
    have lenb : bs.length = n := by rw [lr.length]; simp [intoF]
    walk_at "s"
    refine ⟨fun m σ H' => BehW a fa wa t n spent H m σ H',
      ⟨_, none, none, _, [t], [t], rfl, S2, by rw [upd_ne hfw, upd_same], rfl, upd_same, ⟨by simp, fun x hx => ?_, fun x hx => hx, by simp, fun b hb hb2 => ?_⟩, ?_, rfl⟩, ?_⟩
    · rw [List.mem_singleton.mp hx]
      exact ⟨⟨t0, t1⟩, .base⟩
    · exact absurd hb hb2
    · simp
    · rintro m σ H' ⟨o1, o2, kvs, ks, ws, rfl, S3, hf3, hk3, hw3, fi, hwl, rfl⟩
      walk_at "s"
      refine ⟨Nat.zero_le _, fun z hz => ?_⟩
      have S4 : Same H' (upd H' z (.lst [])) := same_upd hz
      refine ⟨.list (ws.map PyData.int), .list [], .lst (S4 _ _ hw3) (reps_ints ws), .lst upd_same .nil, lay_ints ws, rfl, Nat.le_trans (depth_ints ws) (by decide), ?_⟩
      rw [if_pos rfl, eqv_nil]
      have hf4 := S4 _ _ hf3
      have hw4 := S4 _ _ hw3
      have S04 := S3.trans S4
      generalize upd H' z (.lst []) = H4 at hf4 hw4 S04
      have kl : ks.length ≤ n := nodup_tellers fi.nd fun x hx => (fi.ok x hx).1
      have kvl : kvs.length = ks.length := by have := congrArg List.length hk3; simpa using this
      rcases nil_or_snoc ws with rfl | ⟨w', b, rfl⟩
      · rw [List.isEmpty_nil]
        walk_at "s"
        refine ⟨fa, kvs, ks, rfl, hf4, hk3, by lia, fun l ns' hl pm pw => ?_⟩
        rw [fi.done pm pw]
        exact k l _ (S04.trans (same_upd hl)) (S04.free hl) upd_same
      · have hne : (w' ++ [b]).isEmpty = false := by simp
        rw [hne]
        walk_at "s"
        refine ⟨fun σ' H' => ∃ m', m' < 2 * (n - ks.length) + (w' ++ [b]).length ∧ BehW a fa wa t n spent H m' σ' H', fun _ _ h => h, ?_⟩
        walk_at "s"
        refine ⟨.inl ⟨rfl, _, SqL.of hw4⟩, wa, _, .int b, rfl, rfl, hw4, by simp, ?_⟩
        have edl : ((w' ++ [b]).map V.int).dropLast = w'.map V.int := by simp
        rw [edl]
        have hbk : b ∈ ks := fi.sub b (by simp)
        obtain ⟨⟨b0, b1⟩, hbr⟩ := fi.ok b hbk
        have S5 : Same H (upd H4 wa (.lst (w'.map V.int))) := fun c o e => by rw [upd_ne (ne_of_none e hwa0)]; exact S04 _ _ e
        have hf5 : upd H4 wa (.lst (w'.map V.int)) fa = some (.dK kvs) := by rw [upd_ne hfw]; exact hf4
        have hw5 : upd H4 wa (.lst (w'.map V.int)) wa = some (.lst (w'.map V.int)) := upd_same
        generalize upd H4 wa (.lst (w'.map V.int)) = H5 at S5 hf5 hw5
        obtain ⟨c, ps, hbs, hps, hc⟩ : ∃ c ps, bs[b.toNat]? = some (.ref c) ∧ ps = (spent.filter fun k => decide (k.2 = b)).map (·.1) ∧ H c = some (.lst (ps.map V.int)) := by
          have hlt : b.toNat < bs.length := by rw [lenb]; lia
          obtain ⟨c, ks', e1, e2, e3⟩ := lr.get (i := b.toNat) (y := bs[b.toNat]) (by simp [hlt])
          refine ⟨c, ks', by rw [← e1]; simp [hlt], ?_, e3⟩
          unfold intoF at e2
          rw [List.getElem?_map, List.getElem?_range (by lia)] at e2
          have := (Option.some.inj e2).symm
          rw [this]
          have e4 : ((b.toNat : Nat) : Int) = b := Int.toNat_of_nonneg b0
          simp only [e4]
        walk_at "s"
        have hat : atI bs b = some (.ref c) := by
          have := atI_nat (xs := bs) (j := b.toNat) (v := .ref c) hbs
          rwa [Int.toNat_of_nonneg b0] at this
        refine ⟨a, bs, b, _, rfl, rfl, SqL.of (S5 _ _ ha), hat, ?_⟩
        refine ⟨c, rfl, ⟨_, SqL.of (S5 _ _ hc)⟩, for_list (xs := ps.map V.int) (fun j σ' H' => BehI a fa wa t b n spent ks w' ps H j σ' H')
          ⟨o2, kvs, ks, w', rfl, S5, hf5, hk3, hw5, fi.nd, fi.ok, fun x hx => fi.sub x (by simp [hx]), fun x hx => hx, fun x hx hxw hxb y hy => fi.cl x hx (by simp [hxw, hxb]) y hy, fun y hy => by simp at hy, rfl⟩ (fun j σ' H' _ hI => by obtain ⟨_, _, _, _, _, S6, _⟩ := hI; exact SqL.of (S6 _ _ hc)) ?_ ?_⟩
        · rintro j x σ' H6 hx ⟨o2', kvs', ks', ws', rfl, S6, hf6, hk6, hw6, c1, c2, c3, c4, c5, c6, c7⟩
          obtain ⟨one, rfl, hone⟩ : ∃ one, x = V.int one ∧ ps[j]? = some one := by
            rw [List.getElem?_map] at hx
            cases e : ps[j]? with
            | none => rw [e] at hx; cases hx
            | some o => rw [e] at hx; exact ⟨o, (Option.some.inj hx).symm, rfl⟩
          have htk : ∀ (L : List Int), (∀ y ∈ ps.take j, y ∈ L) → one ∈ L → ∀ y ∈ ps.take (j + 1), y ∈ L := fun L h1 h2 y hy => by
            rw [List.take_add_one, hone] at hy
            rcases List.mem_append.mp hy with h | h
            · exact h1 y h
            · rw [List.mem_singleton.mp h]; exact h2
          have hsp : (one, b) ∈ spent := by
            have : one ∈ ps := List.mem_of_getElem? hone
            rw [hps] at this
            exact (mem_into (n := n)).mp this
          have kvl' : kvs'.length = ks'.length := by have := congrArg List.length hk6; simpa using this
          have kl' : ks'.length ≤ n := nodup_tellers c1 fun x hx => (c2 x hx).1
          walk_at "s"
          refine ⟨fa, _, rfl, DGet.k (k := Sum.inl one) hf6, ?_⟩
          rw [valV_ints hk6]
          walk_at "s"
          by_cases hin : one ∈ ks'
          · walk_at "s"
            exact ⟨_, kvs', ks', ws', rfl, S6, hf6, hk6, hw6, c1, c2, c3, c4, c5, htk ks' c6 hin, c7⟩
          · walk_at "s"
            have hvn : valV kvs' (Sum.inl one : Key) = none := by
              have := valV_ints hk6 one
              rw [decide_eq_false hin] at this
              exact Option.not_isSome_iff_eq_none.mp (by rw [this]; exact Bool.false_ne_true)
            refine ⟨fa, _, rfl, DPut.k (k := Sum.inl one) hf6 (small1000 (by lia)), ?_⟩
            rw [putK_new _ hvn]
            have hfwa : wa ≠ fa := hfw.symm
            have hw7 : upd H6 fa (.dK (kvs' ++ [((Sum.inl one : Key), V.bl true)])) wa = some (.lst (ws'.map V.int)) := by rw [upd_ne hfwa]; exact hw6
            walk_at "s"
            refine ⟨.inl ⟨rfl, _, SqL.of hw7⟩, ?_⟩
            walk_at "s"
            have hwn : ws'.length ≤ 100 := by rw [List.length_append, List.length_singleton] at hwl; lia
            refine ⟨wa, _, _, rfl, rfl, hw7, by rw [List.length_map, sizeLine_eq]; lia, ?_⟩
            walk_at "s"
            obtain ⟨q1, q2⟩ := so.ok _ hsp
            refine ⟨_, kvs' ++ [(Sum.inl one, .bl true)], ks' ++ [one], ws' ++ [one], rfl, ?_, ?_, ?_, ?_, ?_, ?_, ?_, ?_, ?_, ?_, ?_⟩
            · intro e o he
              rw [upd_ne (ne_of_none he hwa0), upd_ne (ne_of_none he hfa)]
              exact S6 _ _ he
            · rw [upd_ne hfw, upd_same]
            · rw [List.map_append, List.map_append, hk6]; rfl
            · rw [List.map_append, upd_same]; rfl
            · rw [List.nodup_append]
              exact ⟨c1, by simp, fun x hx y hy => by rw [List.mem_singleton.mp hy]; exact fun e => hin (e ▸ hx)⟩
            · intro x hx
              rcases List.mem_append.mp hx with h | h
              · exact c2 x h
              · rw [List.mem_singleton.mp h]
                exact ⟨q1, .step hsp hbr⟩
            · intro x hx
              rcases List.mem_append.mp hx with h | h
              · exact List.mem_append_left _ (c3 x h)
              · exact List.mem_append_right _ h
            · exact fun x hx => List.mem_append_left _ (c4 x hx)
            · intro x hx hxw hxb y hy
              have hx2 : x ∈ ks' := by
                rcases List.mem_append.mp hx with h | h
                · exact h
                · exact absurd (List.mem_append_right _ h) hxw
              exact List.mem_append_left _ (c5 x hx2 (fun z => hxw (List.mem_append_left _ z)) hxb y hy)
            · exact htk _ (fun y hy => List.mem_append_left _ (c6 y hy)) (by simp)
            · rw [List.length_append, List.length_append, List.length_singleton]
              lia
        · rintro σ' H6 ⟨o2', kvs', ks', ws', rfl, S6, hf6, hk6, hw6, c1, c2, c3, c4, c5, c6, c7⟩
          rw [List.length_map, List.take_length] at c6
          have kl' : ks'.length ≤ n := nodup_tellers c1 fun x hx => (c2 x hx).1
          have kk : ks.length ≤ ks'.length := nodup_len fi.nd c4
          refine ⟨_, ?_, _, _, kvs', ks', ws', rfl, S6, hf6, hk6, hw6, ⟨c1, c2, c3, c4 t fi.tt, fun x hx hxw y hy => ?_⟩, ?_, rfl⟩
          · rw [List.length_append, List.length_singleton]
            lia
          · by_cases hxb : x = b
            · subst hxb
              refine c6 y ?_
              rw [hps]
              exact (mem_into (n := n)).mpr hy
            · exact c5 x hx hxw hxb y hy
          · rw [List.length_append, List.length_singleton] at hwl
            lia
end
section
variable {P : Program} {w : World} {K : PySem.W.Frag} {mg : Str → Option Value} {base : Heap} {C C1 : Addr}
inductive CutI1 (s : Addr) (n : Nat) (H : Hp) (p : Addr) (i : Nat) (σ : St) (H' : Hp) : Prop
  | mk (w1 : Option V) (cs : List Addr) (e : σ = [some (.int n), some (.ref s), none, none, none, none, w1]) (h1 : Same H H') (h2 : H' p = some (.lst (cs.map V.ref))) (h3 : cs.length = i) (h4 : cs.Nodup) (h5 : ∀ c ∈ cs, H' c = some (.lst []) ∧ H c = none ∧ c ≠ p) : CutI1 s n H p i σ H'
inductive CutI2 (s a : Addr) (n : Nat) (o1 o2 : Option V) (spent : List Pr) (H2 : Hp) (p : Addr) (i : Nat) (σ : St) (H' : Hp) : Prop
  | mk (w1 : Option V) (gs : List Addr) (e : σ = [some (.int n), some (.ref s), some (.ref a), o1, o2, none, w1]) (h1 : Same H2 H') (h2 : H' p = some (.lst (gs.map V.ref))) (h3 : ListRefs H' (gs.map V.ref) ((groupsF n spent).take i)) (h4 : ∀ g ∈ gs, g ≠ p ∧ H2 g = none) (h5 : gs.length = i) : CutI2 s a n o1 o2 spent H2 p i σ H'
theorem sc_cut_off : FnScope ["many", "spent", "into", "one", "other", "groups"] ["many", "spent"] (defScope s_cut_off) := ⟨rfl, rfl, rfl, by decide +kernel, rfl, by decide +kernel, by decide +kernel⟩
theorem bi_cut_off : BindOk "cut_off" "cut_off" s_cut_off ["many", "spent"] := fun _ _ _ _ _ _ us hl => by
  obtain ⟨_, _, rfl⟩ := len2D hl
  rfl
theorem d_cut (F : FunAt K mg "cut_off" "cut_off" s_cut_off) (T : Txt K mg C) (D_tellers_behind : Def P w K mg base 1 "tellers_behind" ["into", "teller"] sp_behind) : Def P w K mg base 2 "cut_off" ["many", "spent"] sp_cut := by
  refine F.def sc_cut_off bi_cut_off (fun vs H Q E h => ?_) (fun f cdv A outer s0 H vs Q E hr h => ?_)
  · obtain ⟨n, s, rs, spent, rfl, _⟩ := h
    rfl
  · obtain ⟨n, s, rs, spent, rfl, hs, tr, so, n1, n12, kN, kS⟩ := h
    have hu := hu_of hr
    have hu64 := hr.units
    refine ⟨_, (pss_cons (ps_set (i := 2) sc_cut_off.nd rfl (Or.inr rfl) (pe_comp (N' := ["#many", "#spent", "#into", "#one", "#other", "#groups", "teller"]) (n0 := 1) (osc := defScope s_cut_off) (pi_range1 rfl T.n_range (pa_cons (pv 0) pa_nil)) (fun z => (pg_name (i := 6) (show (["#many", "#spent", "#into", "#one", "#other", "#groups", "teller"] : List Str).Nodup by decide +kernel) rfl (Or.inl rfl))) (fun z => pif_nil) (fun z => (pe_lst pa_nil)) rfl rfl (names_ok (N := ["many", "spent", "into", "one", "other", "groups"]) (by decide +kernel)) rfl))
      (pss_cons (ps_for PassesOwn.never rfl (pi_list (pv 1)) (pg_tup rfl (pgs_cons (pg_name (i := 3) sc_cut_off.nd rfl (Or.inl rfl)) (pgs_cons (pg_name (i := 4) sc_cut_off.nd rfl (Or.inl rfl)) pgs_nil)))
      (pss_one (ps_expr (pe_bm PySem.F.plainAttrs_list PySem.F.slot_list_append PySem.F.type_list_append mt_append (pe_ix ix_list (pv 2) (pv 4) (fun _ _ => rfl)) (pa_cons (pv 3) pa_nil)))))
      (pss_cons (ps_setComp (i := 5) sc_cut_off.nd rfl (Or.inl rfl) (N' := ["#many", "#spent", "into", "#one", "#other", "#groups", "teller"]) (n0 := 1) (osc := defScope s_cut_off) (pi_range2 rfl T.n_range (pa_cons pe_int (pa_cons (pv 0) pa_nil))) (fun z => (pg_name (i := 6) (show (["#many", "#spent", "into", "#one", "#other", "#groups", "teller"] : List Str).Nodup by decide +kernel) rfl (Or.inl rfl))) (fun z => pif_nil) (fun z => (pe_callD D_tellers_behind (hr.mono (by decide)) (pa_cons (pv 2) (pa_cons (pv 6) pa_nil)))) rfl rfl (names_ok (N := ["many", "spent", "into", "one", "other", "groups"]) (by decide +kernel)) rfl)
      (pss_one (ps_ret (pe_minLen rfl (by rfl) T.n_min (by rfl) T.n_len (pa_cons (pe_comp (N' := ["#many", "#spent", "#into", "#one", "#other", "#groups", "group"]) (n0 := 1) (osc := defScope s_cut_off) (pi_list (pv 5)) (fun z => (pg_name (i := 6) (show (["#many", "#spent", "#into", "#one", "#other", "#groups", "group"] : List Str).Nodup by decide +kernel) rfl (Or.inl rfl))) (fun z => (pif_one (pt_cmpR op_ne (pe_ix ix_list (pv 6) pe_int (fun _ _ => rfl)) pe_int (nomark _)))) (fun z => (pv 6)) rfl rfl (names_ok (N := ["many", "spent", "into", "one", "other", "groups"]) (by decide +kernel)) rfl) pa_nil))))))), ?_⟩
    try clear hu
    try clear hu0
    try clear hu64
    try dsimp only [cxOf, cxComp, Cx.nox]
    walk_at "s"
    refine ⟨n, rfl, (rngN n12).1, (rngN n12).2, ?_⟩
    refine comp_range (n := n) (fun p i σ H' => CutI1 s n H p i σ H') ?_ ?_ ?_
    · intro p hp
      exact ⟨none, [], rfl, same_upd hp, upd_same, rfl, List.nodup_nil, fun c hc => by cases hc⟩
    · rintro p z i σ H1 hp hi ⟨w1, cs, rfl, S1, hp1, rfl, nd, hc⟩
      walk_at "s"
      refine ⟨Nat.zero_le _, fun l hl => ?_⟩
      have lp : l ≠ p := (ne_of_none hp1 hl).symm
      refine ⟨cs.map V.ref, by rw [upd_ne lp.symm]; exact hp1, by rw [List.length_map, sizeLine_eq]; lia, _, cs ++ [l], rfl, ?_, ?_, by simp, ?_, ?_⟩
      · intro b o e
        rw [upd_ne (ne_of_none e hp), upd_ne (ne_of_none (S1 _ _ e) hl)]
        exact S1 _ _ e
      · rw [List.map_append, upd_same]; rfl
      · rw [List.nodup_append]
        exact ⟨nd, by simp, fun x hx y hy => by rw [List.mem_singleton.mp hy]; exact ne_of_none (hc x hx).1 hl⟩
      · intro c hcm
        rcases List.mem_append.mp hcm with h | h
        · obtain ⟨q1, q2, q3⟩ := hc c h
          exact ⟨by rw [upd_ne q3, upd_ne (ne_of_none q1 hl)]; exact q1, q2, q3⟩
        · rw [List.mem_singleton.mp h]
          exact ⟨by rw [upd_ne lp, upd_same], S1.free hl, lp⟩
    · rintro a σ H1 ha ⟨w1, cs, rfl, S1, ha1, hcl, nd, hc⟩
      have I1 : IntoAt H1 a cs (intoF n []) := by
        refine ⟨ha1, nd, by rw [hcl, intoF_len], fun i c l h1 h2 => ?_, fun hm => (hc a hm).2.2 rfl⟩
        rw [intoF_nil, List.getElem?_replicate] at h2
        split at h2
        · cases h2; exact (hc c (List.mem_of_getElem? h1)).1
        · cases h2
      have hcn : ∀ c ∈ cs, H c = none := fun c h => (hc c h).2.1
      clear hc
      walk_at "s"
      refine ⟨s, rfl, ⟨_, SqL.of (S1 _ _ hs)⟩, for_list (xs := rs) (fun j σ H' => ∃ o1 o2, σ = [some (.int n), some (.ref s), some (.ref a), o1, o2, none] ∧ Same H H' ∧ IntoAt H' a cs (intoF n (spent.take j))) ⟨none, none, rfl, S1, I1⟩ (fun j σ H' _ hh9 => by obtain ⟨_, _, _, S2, _⟩ := hh9; exact SqL.of (S2 _ _ hs)) ?_ ?_⟩
      · rintro j x σ H2 hx ⟨o1, o2, rfl, S2, I2⟩
        obtain ⟨b, ks, rfl, hks, hb⟩ := tr.get hx
        rw [List.getElem?_map] at hks
        cases he : spent[j]? with
        | none => rw [he] at hks; cases hks
        | some kk =>
          rw [he] at hks
          obtain rfl := Option.some.inj hks
          have hb2 : H2 b = some (.tup [.int kk.1, .int kk.2]) := S2 _ _ hb
          obtain ⟨q1, q2⟩ := so.ok kk (List.mem_of_getElem? he)
          have hil : kk.2.toNat < n := by lia
          obtain ⟨c, hcc⟩ : ∃ c, cs[kk.2.toNat]? = some c := ⟨cs[kk.2.toNat]'(by lia), by simp [hcl, hil]⟩
          obtain ⟨l, hll⟩ : ∃ l, (intoF n (spent.take j))[kk.2.toNat]? = some l := ⟨(intoF n (spent.take j))[kk.2.toNat]'(by rw [intoF_len]; exact hil), by simp [intoF_len, hil]⟩
          have hcl2 := I2.it _ c l hcc hll
          have hat : atI (cs.map V.ref) kk.2 = some (.ref c) := by
            have := atI_nat (xs := cs.map V.ref) (j := kk.2.toNat) (v := .ref c) (by rw [List.getElem?_map, hcc]; rfl)
            rwa [Int.toNat_of_nonneg q2.1] at this
          have hll2 : l.length ≤ 1000 := by
            unfold intoF at hll
            rw [List.getElem?_map, List.getElem?_range hil] at hll
            have e := Option.some.inj hll
            rw [← e, List.length_map]
            have h1 := List.length_filter_le (fun k : Pr => decide (k.2 = ((kk.2.toNat : Nat) : Int))) (spent.take j)
            rw [List.length_take] at h1
            have := so.len
            lia
          walk_at "s"
          refine ⟨b, _, rfl, SqT.of hb2, rfl, ?_⟩
          walk_at "s"
          refine ⟨a, _, kk.2, _, rfl, rfl, SqL.of I2.ar, hat, ?_⟩
          refine ⟨.inl ⟨rfl, _, SqL.of hcl2⟩, ?_⟩
          walk_at "s"
          refine ⟨c, _, _, rfl, rfl, hcl2, by rw [List.length_map, sizeLine_eq]; lia, ?_⟩
          walk_at "s"
          have e1 : (l.map V.int) ++ [V.int kk.1] = (l ++ [kk.1]).map V.int := by rw [List.map_append]; rfl
          rw [e1]
          have e2 : intoF n (spent.take (j + 1)) = (intoF n (spent.take j)).set kk.2.toNat (l ++ [kk.1]) := by
            rw [List.take_add_one, he]
            show intoF n (spent.take j ++ [kk]) = _
            rw [intoF_snoc q2]
            have : (intoF n (spent.take j)).getD kk.2.toNat [] = l := by simp [List.getD, hll]
            rw [this]
          rw [e2]
          exact ⟨_, _, rfl, fun d o hd => by rw [upd_ne (ne_of_none hd (hcn c (List.mem_of_getElem? hcc)))]; exact S2 _ _ hd, I2.add kk.1 hcc hll⟩
      · rintro σ H2 ⟨o1, o2, rfl, S2, I2⟩
        have lenr : rs.length = spent.length := by rw [tr.length, List.length_map]
        rw [lenr, List.take_length] at I2
        walk_at "s"
        refine ⟨1, n, rfl, rng1n n12, ?_⟩
        rw [toNat_pred]
        refine comp_range (n := n - 1) (fun p i σ H' => CutI2 s a n o1 o2 spent H2 p i σ H') ?_ ?_ ?_
        · intro p hp
          exact ⟨none, [], rfl, same_upd hp, upd_same, .nil, (fun g hg => by cases hg), rfl⟩
        · rintro p z i σ H3 hp hi ⟨w1, gs, rfl, S3, hp3, lr, hgs, rfl⟩
          have I3 : ListRefs H3 (cs.map V.ref) (intoF n spent) := I2.refs.same S3
          walk_at "s"
          refine ⟨a, _, n, spent, _, rfl, S3 _ _ I2.ar, I3, by lia, by lia, n12, so, fun g H4 S4 hg0 hg4 => ?_⟩
          have gp : g ≠ p := (ne_of_none hp3 hg0).symm
          have hp4 := S4 _ _ hp3
          refine ⟨gs.map V.ref, hp4, by rw [List.length_map, sizeLine_eq]; lia, _, gs ++ [g], rfl, ?_, by rw [List.map_append, upd_same]; rfl, ?_, ?_, by simp⟩
          · intro b o e
            rw [upd_ne (ne_of_none e hp)]
            exact S4 _ _ (S3 _ _ e)
          · have e1 : (groupsF n spent).take (gs.length + 1) = (groupsF n spent).take gs.length ++ [behindF n spent (1 + (gs.length : Int))] := by
              rw [List.take_add_one]
              unfold groupsF
              rw [List.getElem?_map, List.getElem?_range hi]
              rfl
            rw [e1, List.map_append]
            have lr4 : ListRefs (upd H4 p (.lst (gs.map V.ref ++ [.ref g]))) (gs.map V.ref) ((groupsF n spent).take gs.length) := by
              refine paired_of lr.length fun i v l hv hl => ?_
              obtain ⟨b, ks, e1, e2, e3⟩ := lr.get hv
              rw [hl] at e2
              cases e2
              have hbm : b ∈ gs := by
                rw [List.getElem?_map] at hv
                cases e : gs[i]? with
                | none => rw [e] at hv; cases hv
                | some c =>
                  rw [e] at hv
                  have := Option.some.inj hv
                  rw [e1] at this
                  cases this
                  exact List.mem_of_getElem? e
              exact ⟨b, e1, by rw [upd_ne (hgs b hbm).1]; exact S4 _ _ e3⟩
            exact paired_snoc lr4 ⟨g, rfl, by rw [upd_ne gp]; exact hg4⟩
          · intro x hx
            rcases List.mem_append.mp hx with h | h
            · exact hgs x h
            · rw [List.mem_singleton.mp h]
              exact ⟨gp, S3.free hg0⟩
        · rintro p σ H3 hp ⟨w1, gs, rfl, S3, hp3, lr, hgs, hgl⟩
          rw [show n - 1 = (groupsF n spent).length by simp [groupsF], List.take_length] at lr
          walk_at "s"
          refine ⟨p, rfl, ⟨_, SqL.of hp3⟩, ?_⟩
          refine comp_list (xs := gs.map V.ref) (fun p2 i σ H' => ∃ (w1 : Option V) (g2 : List V), σ = [some (.int n), some (.ref s), some (.ref a), o1, o2, some (.ref p), w1] ∧ Same H3 H' ∧ H' p2 = some (.lst g2) ∧ ListRefs H3 g2 (((groupsF n spent).take i).filter fun g => !decide (g.headD 0 = 0)) ∧ g2.length ≤ i ∧ ∀ x ∈ g2, x ∈ gs.map V.ref) ?_ ?_ ?_ ?_
          · intro p2 hp2
            exact ⟨none, [], rfl, same_upd hp2, upd_same, .nil, Nat.le_refl _, fun x hx => by cases hx⟩
          · rintro p2 i σ H4 hp2 hi ⟨w1, g2, rfl, S4, _⟩
            exact SqL.of (S4 _ _ hp3)
          · rintro p2 z i x σ H4 hp2 hx ⟨w1, g2, rfl, S4, hp4, lr4, hl4, hm4⟩
            obtain ⟨g, ks, rfl, hks, hg⟩ := lr.get hx
            have hgi : i < n - 1 := by rw [← hgl]; have := (List.getElem?_eq_some_iff.mp hx).1; simpa using this
            have hkb : ks = behindF n spent (1 + (i : Int)) := by
              unfold groupsF at hks
              rw [List.getElem?_map, List.getElem?_range hgi] at hks
              exact (Option.some.inj hks).symm
            obtain ⟨k0, kr, hkk⟩ : ∃ k0 kr, ks = k0 :: kr := by
              have : (1 + (i : Int)) ∈ ks := by rw [hkb, mem_behind]; exact ⟨⟨by lia, by lia⟩, .base⟩
              cases ks with
              | nil => cases this
              | cons a r => exact ⟨a, r, rfl⟩
            subst hkk
            walk_at "s"
            refine ⟨g, _, 0, _, rfl, rfl, SqL.of (S4 _ _ hg), atI_nat (j := 0) rfl, ?_⟩
            walk_at "s"
            rw [take_filter_succ (fun g : Grp => !decide (g.headD 0 = 0)) hks]
            have hhd : (k0 :: kr : List Int).headD 0 = k0 := rfl
            by_cases h0 : k0 = 0
            · walk_at "s"
              rw [hhd, decide_eq_true h0, if_neg (by decide), List.append_nil]
              exact ⟨_, g2, rfl, S4, hp4, lr4, by lia, hm4⟩
            · walk_at "s"
              rw [hhd, decide_eq_false h0, if_pos (by decide)]
              refine ⟨g2, hp4, by rw [sizeLine_eq]; lia, _, g2 ++ [.ref g], rfl, ?_, upd_same, paired_snoc lr4 ⟨g, rfl, hg⟩, by rw [List.length_append, List.length_singleton]; lia, ?_⟩
              · intro b o e
                rw [upd_ne (ne_of_none e hp2)]
                exact S4 _ _ e
              · intro x hx'
                rcases List.mem_append.mp hx' with h | h
                · exact hm4 x h
                · rw [List.mem_singleton.mp h]
                  exact List.mem_of_getElem? hx
          · rintro p2 σ H4 hp2 ⟨w1, g2, rfl, S4, hp4, lr4, hl4, hm4⟩
            rw [show (gs.map V.ref).length = (groupsF n spent).length by rw [lr.length], List.take_length] at lr4
            walk_at "s"
            have S04 := (S2.trans S3).trans S4
            refine ⟨p2, g2, _, rfl, SqL.of hp4, lr4.same S4, fun e0 => ?_, fun i v ns hv hns hb => ?_⟩
            · refine kN ?_ _ S04
              unfold cutF
              rw [e0]
              rfl
            · obtain ⟨g, ks, rfl, hks, hg⟩ := lr4.get hv
              rw [hns] at hks
              cases hks
              refine kS ns g _ (firstMin_at hns hb) S04 ?_ (S4 _ _ hg)
              have : V.ref g ∈ gs.map V.ref := hm4 _ (List.mem_of_getElem? hv)
              obtain ⟨g', hg', e⟩ := List.mem_map.mp this
              cases e
              exact S2.free (hgs g hg').2
end
section
variable {P : Program} {w : World} {K : PySem.W.Frag} {mg : Str → Option Value} {base : Heap} {C C1 : Addr}
inductive PricW (C1 : Addr) (n : Nat) (l p d s q : Addr) (cs : Cs) (H : Hp) (m : Nat) (σ : St) (H' : Hp) : Prop
  | mk (o3 : Option V) (v : V) (st' : PSt) (e : σ = [some (.int n), some (.ref l), some (.ref p), o3, some v]) (h1 : Same H H') (h2 : PrAt (fun l => H l = none) C1 H' p d s q st') (h3 : Steps n (st1 n cs) st') (h4 : PI n st') (h5 : st'.prices.length ≤ 12 + st'.spent.length) (h6 : st'.lonely ≠ none ∨ m = 2 + st'.rests.length - st'.spent.length) (h7 : (cutF n st'.spent = none ∧ v = .non) ∨ ∃ G g, cutF n st'.spent = some G ∧ v = .ref g ∧ H' g = some (.lst (G.map V.int)) ∧ g ≠ s ∧ g ≠ q ∧ H g = none) : PricW C1 n l p d s q cs H m σ H'
inductive PricI (C1 : Addr) (n : Nat) (l p d s q : Addr) (cs : Cs) (H : Hp) (i : Nat) (σ : St) (H' : Hp) : Prop
  | mk (o3 : Option V) (st : PSt) (e : σ = [some (.int n), some (.ref l), some (.ref p), o3, none]) (h1 : Same H H') (h2 : PrAt (fun l => H l = none) C1 H' p d s q st) (h3 : st = ((singles n).take i).foldl chargeF ⟨cs, [], [], none⟩) (h4 : PI n st) (h5 : ∀ k ∈ st.spent, k.2 < 1 + (i : Int)) (h6 : st.prices.length ≤ i) : PricI C1 n l p d s q cs H i σ H'
theorem sc_priced : FnScope ["many", "hearings", "pricing", "teller", "group"] ["many", "hearings"] (defScope s_priced) := ⟨rfl, rfl, rfl, by decide +kernel, rfl, by decide +kernel, by decide +kernel⟩
theorem bi_priced : BindOk "priced" "priced" s_priced ["many", "hearings"] := fun _ _ _ _ _ _ us hl => by
  obtain ⟨_, _, rfl⟩ := len2D hl
  rfl
theorem d_priced (F : FunAt K mg "priced" "priced" s_priced) (T : Txt K mg C) (TP : TxtP K mg C1) (K_Pricing : MakD P w K mg base C1 1 "Pricing" ["self", "hearings"] (sp_initP C1)) (M_charge : MetD P w K mg base C1 1 "charge" ["self", "group"] (sp_charge C1)) (D_cut_off : Def P w K mg base 2 "cut_off" ["many", "spent"] sp_cut) : Def P w K mg base 3 "priced" ["many", "hearings"] (sp_priced C1) := by
  refine F.def sc_priced bi_priced (fun vs H Q E h => ?_) (fun f cdv A outer s0 H vs Q E hr h => ?_)
  · obtain ⟨n, l, rs, cs, rfl, _⟩ := h
    rfl
  · obtain ⟨n, l, rs, cs, rfl, hl, tr, ho, n1, n12, k⟩ := h
    have hu := hu_of hr
    have hu64 := hr.units
    refine ⟨_, (pss_cons (ps_set (i := 2) sc_priced.nd rfl (Or.inl rfl) (pe_makeD K_Pricing (hr.mono (by decide)) (pa_cons (pv 1) pa_nil)))
      (pss_cons (ps_for PassesOwn.never rfl (pi_range2 rfl T.n_range (pa_cons pe_int (pa_cons (pv 0) pa_nil))) (pg_name (i := 3) sc_priced.nd rfl (Or.inl rfl))
      (pss_one (ps_expr (pe_methD M_charge TP.cl (hr.mono (by decide)) (pv 2) (pa_cons (pe_lst (pa_cons (pv 3) pa_nil)) pa_nil)))))
      (pss_cons (ps_set (i := 4) sc_priced.nd rfl (Or.inl rfl) (pe_callD D_cut_off (hr.mono (by decide)) (pa_cons (pv 0) (pa_cons (pe_fld (pv 2) rfl) pa_nil))))
      (pss_cons (ps_while PassesOwn.never (PW.pt (pw_and (pt_cmpR op_notN (pv 4) pe_non (nomark _)) (pw_and1 (pt_cmpR op_isN (pe_fld (pv 2) rfl) pe_non (nomark _)))))
      (pss_cons (ps_expr (pe_methD M_charge TP.cl (hr.mono (by decide)) (pv 2) (pa_cons (pv 4) pa_nil)))
      (pss_one (ps_set (i := 4) sc_priced.nd rfl (Or.inl rfl) (pe_callD D_cut_off (hr.mono (by decide)) (pa_cons (pv 0) (pa_cons (pe_fld (pv 2) rfl) pa_nil)))))))
      (pss_one (ps_ret (pv 2))))))), ?_⟩
    try clear hu
    try clear hu0
    try clear hu64
    try dsimp only [cxOf, cxComp, Cx.nox]
    walk_at "s"
    intro p dx np ndx nex
    have Su : Same H (upd (upd H dx (.own p)) p (.ins C1 dx [])) := fun b o e => by rw [upd_ne (ne_of_none e np), upd_ne (ne_of_none e ndx)]; exact e
    refine ⟨p, dx, l, rs, cs, rfl, upd_same, Su _ _ hl, tr.same Su, ho.nd, by have := ho.len; lia, fun d s q H1 hd hs hq P1' kp1 => ⟨rfl, ?_⟩⟩
    have P1 := P1' (fun l => H l = none)
    have S1 : Same H H1 := fun b o e => kp1 b o (Su _ _ e) (ne_of_none e np)
    have hd0 := Su.free hd
    have hs0 := Su.free hs
    have hq0 := Su.free hq
    have kS : ∀ {Ha Hb : Hp}, Same H Ha → KeepP p d s q Ha Hb → Same H Hb := fun sa kb b o e => kb b o (sa _ _ e) (ne_of_none e np) (ne_of_none e hd0) (ne_of_none e hs0) (ne_of_none e hq0)
    walk_at "s"
    refine ⟨1, n, rfl, rng1n n12, ?_⟩
    rw [toNat_pred]
    refine for_range (n := n - 1) (fun i σ H' => PricI C1 n l p d s q cs H i σ H')
      ⟨none, _, rfl, S1, P1, rfl, ⟨ho.nd, ho.ok, ho.len, ho.nn, List.nodup_nil, fun k hk => by cases hk⟩, (fun k hk => by cases hk), Nat.le_refl _⟩ ?_ ?_
    · rintro i σ H2 hi ⟨o3, st, rfl, S2, P2, hst, pi, hsp, hpl⟩
      obtain ⟨lv, ob, _⟩ := P2.ob
      obtain ⟨_, _, ⟨rs2, hrs2, _⟩, ⟨qs2, hqs2, _⟩, _⟩ := id P2
      walk_at "s"
      refine meth_p ob (by decide +kernel) (by decide +kernel) (by decide +kernel) (by decide +kernel) ?_
      walk_at "s"
      refine ⟨by simp [sizeLine_eq], fun g hg => ?_⟩
      have Sg : Same H2 (upd H2 g (.lst [.int (1 + (i : Int))])) := same_upd hg
      obtain ⟨e1, e2⟩ := singles_step (n := n) hsp
      refine ⟨_, p, d, s, q, g, st, [1 + (i : Int)], 13, rfl, P2.move Sg, upd_same, (ne_of_none hrs2 hg).symm, (ne_of_none hqs2 hg).symm, S2.free hg, pi.nd, by have := pi.len; lia, by have := pi.spl; have := pi.len; lia, by lia, by decide, by show 1 ≤ 100; decide, fun H3 P3 K3 => ?_⟩
      walk_at "s"
      refine ⟨_, chargeF st [1 + (i : Int)], rfl, kS (S2.trans Sg) K3, P3, ?_, charge_PI pi e1, e2, by have := charge_prices st [1 + (i : Int)]; lia⟩
      rw [hst, List.take_add_one]
      unfold singles
      rw [List.getElem?_map, List.getElem?_range hi]
      show _ = List.foldl chargeF _ (_ ++ [[1 + (i : Int)]])
      rw [List.foldl_append]
      rfl
    · rintro σ H2 ⟨o3, st, rfl, S2, P2, hst, pi, hsp, hpl⟩
      rw [show n - 1 = (singles n).length by simp [singles], List.take_length] at hst
      have hst1 : st = st1 n cs := hst
      obtain ⟨lv, ob, hlon⟩ := P2.ob
      obtain ⟨_, _, ⟨rs2, hrs2, trs2⟩, ⟨qs2, hqs2, _⟩, _⟩ := id P2
      have hr2 : ∀ l', H l' ≠ none → l' ≠ s ∧ l' ≠ q := fun l' h => ⟨fun e => h (e ▸ hs0), fun e => h (e ▸ hq0)⟩
      walk_at "s"
      refine fld_p ob TP.cl TP.aS (.inr (.inl ⟨rfl, rfl⟩)) ?_
      walk_at "s"
      refine ⟨n, s, rs2, st.spent, rfl, hrs2, trs2, pi.so, n1, n12, fun hN H3 S3 => ?_, fun G g H3 hG S3 hg0 hg3 => ?_⟩
      · skip
        walk_at "s"
        have S23 := S2.trans S3
        have P3 := P2.move S3
        refine ⟨fun m σ H' => PricW C1 n l p d s q cs H m σ H',
          ⟨_, _, .non, st, rfl, S23, P3, hst1 ▸ .refl _, pi, by lia, .inr rfl, .inl ⟨hN, rfl⟩⟩, ?_⟩
        rintro m σ H4 ⟨o4, v, st', rfl, S4, P4, stp, pi4, hpl4, hm4, hv4⟩
        obtain ⟨lv4, ob4, hlon4⟩ := P4.ob
        rcases hv4 with ⟨hN4, rfl⟩ | ⟨G4, g4, hG4, rfl, hg4, g4s, g4q, g4n⟩
        · walk_at "s"
          refine w_npos rfl ?_
          walk_at "s"
          exact k p d s q st' H4 ⟨stp, .inl hN4⟩ pi4 P4 S4 np hd0 hs0 hq0 hr2
        · walk_at "s"
          refine w_nneg (fun z => nomatch z) ?_
          walk_at "s"
          refine fld_p ob4 TP.cl TP.aL (.inr (.inr (.inr ⟨rfl, rfl⟩))) ?_
          walk_at "s"
          cases hl4 : st'.lonely with
          | some gl =>
            rw [hl4] at hlon4
            obtain ⟨ll, rfl, _⟩ := hlon4
            refine w_neg (fun z => nomatch z) ?_
            walk_at "s"
            exact k p d s q st' H4 ⟨stp, .inr (by rw [hl4]; exact fun z => nomatch z)⟩ pi4 P4 S4 np hd0 hs0 hq0 hr2
          | none =>
            rw [hl4] at hlon4
            have hlv : lv4 = .non := hlon4
            subst hlv
            refine w_pos rfl ?_
            have hmm : m = 2 + st'.rests.length - st'.spent.length := by
              rcases hm4 with h | h
              · exact absurd hl4 h
              · exact h
            refine ⟨fun σ' H' => ∃ m', m' < m ∧ PricW C1 n l p d s q cs H m' σ' H', fun _ _ h => h, ?_⟩
            walk_at "s"
            refine meth_p ob4 (by decide +kernel) (by decide +kernel) (by decide +kernel) (by decide +kernel) ?_
            walk_at "s"
            have hcl4 := cut_closed pi4.so hG4
            have hsl4 := pi4.spl
            have hrl4 := pi4.len
            have pi5 := charge_PI pi4 hcl4
            have hk5 : (chargeF st' G4).rests.length = st'.rests.length := by
              have := congrArg List.length (keys_charge st' G4)
              rwa [keys_len, keys_len] at this
            refine ⟨_, p, d, s, q, g4, st', G4, 200, rfl, P4, hg4, g4s, g4q, g4n, pi4.nd, by lia, by lia, by lia, by decide, by have := cut_len hG4; lia, fun H5 P5 K5 => ?_⟩
            have S5 := kS S4 K5
            obtain ⟨lv5, ob5, _⟩ := P5.ob
            obtain ⟨_, _, ⟨rs5, hrs5, trs5⟩, ⟨qs5, hqs5, _⟩, _⟩ := id P5
            have stp5 : Steps n (st1 n cs) (chargeF st' G4) := .tail stp hG4 hl4
            have hsp5 : (chargeF st' G4).spent.length ≤ (chargeF st' G4).rests.length := pi5.spl
            have hmore : (chargeF st' G4).prices.length ≤ 12 + (chargeF st' G4).spent.length ∧ ∃ m', m' < m ∧ ((chargeF st' G4).lonely ≠ none ∨ m' = 2 + (chargeF st' G4).rests.length - (chargeF st' G4).spent.length) := by
              by_cases he : entering st'.rests G4 = []
              · refine ⟨?_, 0, by lia, .inl ?_⟩
                · have : chargeF st' G4 = { st' with lonely := some G4 } := by unfold chargeF; rw [if_pos he]
                  rw [this]
                  exact hpl4
                · rw [charge_lonely, if_pos he]
                  exact fun z => nomatch z
              · have h1 := charge_more he
                have h2 := charge_prices st' G4
                exact ⟨by lia, _, by lia, .inr rfl⟩
            obtain ⟨hp5, m', hm'1, hm'2⟩ := hmore
            walk_at "s"
            refine fld_p ob5 TP.cl TP.aS (.inr (.inl ⟨rfl, rfl⟩)) ?_
            walk_at "s"
            refine ⟨n, s, rs5, (chargeF st' G4).spent, rfl, hrs5, trs5, pi5.so, n1, n12, fun hN6 H6 S6 => ?_, fun G6 g6 H6 hG6 S6 hg60 hg6 => ?_⟩
            · walk_at "s"
              exact ⟨m', hm'1, _, _, chargeF st' G4, rfl, S5.trans S6, P5.move S6, stp5, pi5, hp5, hm'2, .inl ⟨hN6, rfl⟩⟩
            · walk_at "s"
              exact ⟨m', hm'1, _, _, chargeF st' G4, rfl, S5.trans S6, P5.move S6, stp5, pi5, hp5, hm'2, .inr ⟨G6, g6, hG6, rfl, hg6, (ne_of_none hrs5 hg60).symm, (ne_of_none hqs5 hg60).symm, S5.free hg60⟩⟩
      · skip
        walk_at "s"
        have S23 := S2.trans S3
        have P3 := P2.move S3
        refine ⟨fun m σ H' => PricW C1 n l p d s q cs H m σ H',
          ⟨_, _, .ref g, st, rfl, S23, P3, hst1 ▸ .refl _, pi, by lia, .inr rfl, .inr ⟨G, g, hG, rfl, hg3, (ne_of_none hrs2 hg0).symm, (ne_of_none hqs2 hg0).symm, S2.free hg0⟩⟩, ?_⟩
        rintro m σ H4 ⟨o4, v, st', rfl, S4, P4, stp, pi4, hpl4, hm4, hv4⟩
        obtain ⟨lv4, ob4, hlon4⟩ := P4.ob
        rcases hv4 with ⟨hN4, rfl⟩ | ⟨G4, g4, hG4, rfl, hg4, g4s, g4q, g4n⟩
        · walk_at "s"
          refine w_npos rfl ?_
          walk_at "s"
          exact k p d s q st' H4 ⟨stp, .inl hN4⟩ pi4 P4 S4 np hd0 hs0 hq0 hr2
        · walk_at "s"
          refine w_nneg (fun z => nomatch z) ?_
          walk_at "s"
          refine fld_p ob4 TP.cl TP.aL (.inr (.inr (.inr ⟨rfl, rfl⟩))) ?_
          walk_at "s"
          cases hl4 : st'.lonely with
          | some gl =>
            rw [hl4] at hlon4
            obtain ⟨ll, rfl, _⟩ := hlon4
            refine w_neg (fun z => nomatch z) ?_
            walk_at "s"
            exact k p d s q st' H4 ⟨stp, .inr (by rw [hl4]; exact fun z => nomatch z)⟩ pi4 P4 S4 np hd0 hs0 hq0 hr2
          | none =>
            rw [hl4] at hlon4
            have hlv : lv4 = .non := hlon4
            subst hlv
            refine w_pos rfl ?_
            have hmm : m = 2 + st'.rests.length - st'.spent.length := by
              rcases hm4 with h | h
              · exact absurd hl4 h
              · exact h
            refine ⟨fun σ' H' => ∃ m', m' < m ∧ PricW C1 n l p d s q cs H m' σ' H', fun _ _ h => h, ?_⟩
            walk_at "s"
            refine meth_p ob4 (by decide +kernel) (by decide +kernel) (by decide +kernel) (by decide +kernel) ?_
            walk_at "s"
            have hcl4 := cut_closed pi4.so hG4
            have hsl4 := pi4.spl
            have hrl4 := pi4.len
            have pi5 := charge_PI pi4 hcl4
            have hk5 : (chargeF st' G4).rests.length = st'.rests.length := by
              have := congrArg List.length (keys_charge st' G4)
              rwa [keys_len, keys_len] at this
            refine ⟨_, p, d, s, q, g4, st', G4, 200, rfl, P4, hg4, g4s, g4q, g4n, pi4.nd, by lia, by lia, by lia, by decide, by have := cut_len hG4; lia, fun H5 P5 K5 => ?_⟩
            have S5 := kS S4 K5
            obtain ⟨lv5, ob5, _⟩ := P5.ob
            obtain ⟨_, _, ⟨rs5, hrs5, trs5⟩, ⟨qs5, hqs5, _⟩, _⟩ := id P5
            have stp5 : Steps n (st1 n cs) (chargeF st' G4) := .tail stp hG4 hl4
            have hsp5 : (chargeF st' G4).spent.length ≤ (chargeF st' G4).rests.length := pi5.spl
            have hmore : (chargeF st' G4).prices.length ≤ 12 + (chargeF st' G4).spent.length ∧ ∃ m', m' < m ∧ ((chargeF st' G4).lonely ≠ none ∨ m' = 2 + (chargeF st' G4).rests.length - (chargeF st' G4).spent.length) := by
              by_cases he : entering st'.rests G4 = []
              · refine ⟨?_, 0, by lia, .inl ?_⟩
                · have : chargeF st' G4 = { st' with lonely := some G4 } := by unfold chargeF; rw [if_pos he]
                  rw [this]
                  exact hpl4
                · rw [charge_lonely, if_pos he]
                  exact fun z => nomatch z
              · have h1 := charge_more he
                have h2 := charge_prices st' G4
                exact ⟨by lia, _, by lia, .inr rfl⟩
            obtain ⟨hp5, m', hm'1, hm'2⟩ := hmore
            walk_at "s"
            refine fld_p ob5 TP.cl TP.aS (.inr (.inl ⟨rfl, rfl⟩)) ?_
            walk_at "s"
            refine ⟨n, s, rs5, (chargeF st' G4).spent, rfl, hrs5, trs5, pi5.so, n1, n12, fun hN6 H6 S6 => ?_, fun G6 g6 H6 hG6 S6 hg60 hg6 => ?_⟩
            · walk_at "s"
              exact ⟨m', hm'1, _, _, chargeF st' G4, rfl, S5.trans S6, P5.move S6, stp5, pi5, hp5, hm'2, .inl ⟨hN6, rfl⟩⟩
            · walk_at "s"
              exact ⟨m', hm'1, _, _, chargeF st' G4, rfl, S5.trans S6, P5.move S6, stp5, pi5, hp5, hm'2, .inr ⟨G6, g6, hG6, rfl, hg6, (ne_of_none hrs5 hg60).symm, (ne_of_none hqs5 hg60).symm, S5.free hg60⟩⟩
end
section
variable {P : Program} {w : World} {K : PySem.W.Frag} {mg : Str → Option Value} {base : Heap} {C C1 : Addr}
theorem sc_grown : FnScope ["many", "spent", "family", "reached", "leading_on", "earliest"] ["many", "spent"] (defScope s_grown) := ⟨rfl, rfl, rfl, by decide +kernel, rfl, by decide +kernel, by decide +kernel⟩
theorem bi_grown : BindOk "grown" "grown" s_grown ["many", "spent"] := fun _ _ _ _ _ _ us hl => by
  obtain ⟨_, _, rfl⟩ := len2D hl
  rfl
theorem d_grown (F : FunAt K mg "grown" "grown" s_grown) (T : Txt K mg C) : Def P w K mg base 1 "grown" ["many", "spent"] sp_grown := by
  refine F.def sc_grown bi_grown (fun vs H Q E h => ?_) (fun f cdv A outer s0 H vs Q E hr h => ?_)
  · obtain ⟨n, s, rs, spent, rfl, _⟩ := h
    rfl
  · obtain ⟨n, s, rs, spent, rfl, hs, tr, so, n1, n12, hrch, k⟩ := h
    have hu := hu_of hr
    have hu64 := hr.units
    have lenr : rs.length = spent.length := by rw [tr.length, List.length_map]
    refine ⟨_, (pss_cons (ps_set (i := 2) sc_grown.nd rfl (Or.inl rfl) (pe_op op_rep (pe_lst (pa_cons pe_non pa_nil)) (pv 0)))
      (pss_cons (ps_set (i := 3) sc_grown.nd rfl (Or.inr rfl) (pe_disp (pps_cons pe_int pe_bl pps_nil) rfl rfl (fun z => nomatch z) (by decide)))
      (pss_cons (ps_while PassesOwn.never (pt_cmpR op_lt (pe_callB call_lenD (by rfl) T.n_len L2.boot_len (pa_cons (pv 3) pa_nil)) (pv 0) (nomark _))
      (pss_cons (ps_setComp (i := 4) sc_grown.nd rfl (Or.inl rfl) (N' := ["#many", "#spent", "#family", "reached", "#leading_on", "#earliest", "pair"]) (n0 := 1) (osc := defScope s_grown) (pi_list (pv 1)) (fun z => (pg_name (i := 6) (show (["#many", "#spent", "#family", "reached", "#leading_on", "#earliest", "pair"] : List Str).Nodup by decide +kernel) rfl (Or.inl rfl))) (fun z => (pif_one (PW.pt (pw_and (pt_cmp (pc_din hu (pe_ix ix_tup (pv 6) pe_int (fun _ _ => rfl)) (pv 3))) (pw_and1 (pt_cmp (pc_dnotin hu (pe_ix ix_tup (pv 6) pe_int (fun _ _ => rfl)) (pv 3)))))))) (fun z => (pv 6)) rfl rfl (names_ok (N := ["many", "spent", "family", "reached", "leading_on", "earliest"]) (by decide +kernel)) rfl)
      (pss_cons (ps_set (i := 5) sc_grown.nd rfl (Or.inl rfl) (pe_ix ix_list (pv 4) pe_int (fun _ _ => rfl)))
      (pss_cons (ps_asg (pe_ix ix_tup (pv 5) pe_int (fun _ _ => rfl)) (pg_sub (pv 2) (pe_ix ix_tup (pv 5) pe_int (fun _ _ => rfl)) set_list))
      (pss_one (ps_dput hu (pv 3) (pe_ix ix_tup (pv 5) pe_int (fun _ _ => rfl)) pe_bl rfl))))))
      (pss_one (ps_ret (pv 2)))))), ?_⟩
    try clear hu
    try clear hu0
    try clear hu64
    try dsimp only [cxOf, cxComp, Cx.nox]
    walk_at "s"
    refine ⟨by simp [sizeLine_eq], fun l0 hl0 => ?_⟩
    walk_at "s"
    refine ⟨l0, n, [.non], rfl, rfl, upd_same, by lia, by lia, by simp [sizeLine_eq]; lia, fun fa hfa => ?_⟩
    rw [show ((n : Int)).toNat = n from rfl, rep_non]
    have S1 := (same_upd (o := .lst [.non]) hl0).trans (same_upd (o := .lst ((List.replicate n (none : Option Int)).map optV)) hfa)
    have hfa0 : H fa = none := (same_upd hl0).free hfa
    have hf1 : upd (upd H l0 (.lst [.non])) fa (.lst ((List.replicate n (none : Option Int)).map optV)) fa = some (.lst ((List.replicate n (none : Option Int)).map optV)) := upd_same
    generalize upd (upd H l0 (.lst [.non])) fa (.lst ((List.replicate n (none : Option Int)).map optV)) = H1 at S1 hf1
    walk_at "s"
    intro ra hra
    walk_at "s"
    refine ⟨upd_same, [(Sum.inl 0, .bl true)], rfl, by show 1 ≤ 15; decide, ?_⟩
    have hm : mergeK [] [((Sum.inl 0 : Key), V.bl true)] = [(Sum.inl 0, .bl true)] := rfl
    rw [hm, upd_upd]
    have hra0 : H ra = none := S1.free hra
    have hfr : fa ≠ ra := ne_of_none hf1 hra
    have S2 := S1.trans (same_upd (o := .dK [(Sum.inl 0, .bl true)]) hra)
    walk_at "s"
    refine ⟨fun m σ H' => ∃ o4 o5 i kvs, σ = [some (.int n), some (.ref s), some (.ref fa), some (.ref ra), o4, o5] ∧ Same H H' ∧ i + 1 ≤ n ∧ H' fa = some (.lst ((growI n spent i).1.map optV)) ∧ H' ra = some (.dK kvs) ∧ kvs.map (·.1) = (growI n spent i).2.map Sum.inl ∧ m = n - i,
      ⟨_, none, none, 0, _, rfl, S2, by lia, by rw [upd_ne hfr]; exact hf1, upd_same, rfl, rfl⟩, ?_⟩
    rintro m σ H2 ⟨o4, o5, i, kvs, rfl, S2, hi, hf2, hr2, hk2, rfl⟩
    obtain ⟨g, gl⟩ := grow_inv so n1 hrch i hi
    have kvl : kvs.length = i + 1 := by have := congrArg List.length hk2; simpa [gl] using this
    walk_at "s"
    refine ⟨ra, kvs, rfl, hr2, ?_⟩
    walk_at "s"
    by_cases hlt : (kvs.length : Int) < n
    · walk_at "s"
      refine ⟨fun σ' H' => ∃ m', m' < n - i ∧ ∃ o4 o5 i kvs, σ' = [some (.int n), some (.ref s), some (.ref fa), some (.ref ra), o4, o5] ∧ Same H H' ∧ i + 1 ≤ n ∧ H' fa = some (.lst ((growI n spent i).1.map optV)) ∧ H' ra = some (.dK kvs) ∧ kvs.map (·.1) = (growI n spent i).2.map Sum.inl ∧ m' = n - i, fun _ _ h => h, ?_⟩
      walk_at "s"
      refine ⟨s, rfl, ⟨_, SqL.of (S2 _ _ hs)⟩, ?_⟩
      refine comp_list (xs := rs) (fun e j σ H' => ∃ w1 ys, σ = [some (.int n), some (.ref s), some (.ref fa), some (.ref ra), o4, o5, w1] ∧ Same H2 H' ∧ H' e = some (.lst ys) ∧ TupRefs H' ys (((spent.take j).filter (leadsB (growI n spent i).2)).map two) ∧ ys.length ≤ j) ?_ ?_ ?_ ?_
      · intro e he
        exact ⟨none, [], rfl, same_upd he, upd_same, .nil, Nat.le_refl _⟩
      · rintro e j σ H' he hj ⟨w1, ys, rfl, sm, _⟩
        exact SqL.of (sm _ _ (S2 _ _ hs))
      · rintro e z j x σ H' he hx ⟨w1, ys, rfl, sm, hys, tr', hyl⟩
        obtain ⟨b, ks, rfl, hks, hb⟩ := tr.get hx
        rw [List.getElem?_map] at hks
        cases he' : spent[j]? with
        | none => rw [he'] at hks; cases hks
        | some kk =>
          rw [he'] at hks
          obtain rfl := Option.some.inj hks
          have hb' : H' b = some (.tup [.int kk.1, .int kk.2]) := sm _ _ (S2 _ _ hb)
          have hjl : j < spent.length := (List.getElem?_eq_some_iff.mp he').1
          have hsl := so.len
          rw [take_filter_succ (leadsB (growI n spent i).2) he']
          have hent : leadsB (growI n spent i).2 kk = (decide (kk.1 ∈ (growI n spent i).2) && !decide (kk.2 ∈ (growI n spent i).2)) := rfl
          walk_at "s"
          refine ⟨b, _, 0, _, rfl, rfl, SqT.of hb', atI_nat (j := 0) rfl, ?_⟩
          walk_at "s"
          refine ⟨ra, _, rfl, DGet.k (k := Sum.inl kk.1) (sm _ _ hr2), ?_⟩
          rw [valV_ints hk2]
          walk_at "s"
          by_cases h1 : kk.1 ∈ (growI n spent i).2
          · walk_at "s"
            refine ⟨b, _, 1, _, rfl, rfl, SqT.of hb', atI_nat (j := 1) rfl, ?_⟩
            walk_at "s"
            refine ⟨ra, _, rfl, DGet.k (k := Sum.inl kk.2) (sm _ _ hr2), ?_⟩
            rw [valV_ints hk2]
            walk_at "s"
            by_cases h2 : kk.2 ∈ (growI n spent i).2
            · walk_at "s"
              rw [hent, decide_eq_true h1, decide_eq_true h2, if_neg (by decide), List.append_nil]
              exact ⟨_, ys, rfl, sm, hys, tr', by lia⟩
            · walk_at "s"
              rw [hent, decide_eq_true h1, decide_eq_false h2, if_pos (by decide), List.map_append]
              refine ⟨ys, hys, by rw [sizeLine_eq]; lia, _, ys ++ [.ref b], rfl, ?_, upd_same, ?_, by rw [List.length_append, List.length_singleton]; lia⟩
              · intro c u hc
                rw [upd_ne (ne_of_none hc he)]
                exact sm _ _ hc
              · exact TupRefs.snoc (TupRefs.nl tr' (nl_upd hys)) (by rw [upd_ne (ne_of hb' hys (fun z => nomatch z))]; exact hb')
          · walk_at "s"
            rw [hent, decide_eq_false h1, Bool.false_and, if_neg Bool.false_ne_true, List.append_nil]
            exact ⟨_, ys, rfl, sm, hys, tr', by lia⟩
      · rintro e σ H' he ⟨w1, ys, rfl, sm, hys, tr', hyl⟩
        rw [lenr, List.take_length] at tr'
        obtain ⟨kk, hf, hks, h1, h2⟩ := find_leads g (by rw [gl]; lia) hrch
        obtain ⟨rest, hrest⟩ := filter_head hf
        rw [hrest] at tr'
        obtain ⟨y0, yr, rfl⟩ : ∃ y0 yr, ys = y0 :: yr := by
          cases ys with
          | nil => have := tr'.length; simp at this
          | cons a r => exact ⟨a, r, rfl⟩
        obtain ⟨b, ks, rfl, hk0, hb⟩ := tr'.get (i := 0) (y := y0) rfl
        have hk0' : ks = two kk := (Option.some.inj hk0).symm
        subst hk0'
        have hb' : H' b = some (.tup [.int kk.1, .int kk.2]) := hb
        obtain ⟨q1, q2⟩ := so.ok kk hks
        have hf3 := sm _ _ hf2
        have hr3 := sm _ _ hr2
        walk_at "s"
        refine ⟨e, _, 0, _, rfl, rfl, SqL.of hys, atI_nat (j := 0) rfl, ?_⟩
        walk_at "s"
        refine ⟨b, _, 0, _, rfl, rfl, SqT.of hb', atI_nat (j := 0) rfl, ?_⟩
        walk_at "s"
        refine ⟨b, _, 1, _, rfl, rfl, SqT.of hb', atI_nat (j := 1) rfl, ?_⟩
        have hix : ixN (((growI n spent i).1.map optV)).length kk.2 = some kk.2.toNat := by
          rw [List.length_map, g.fl]
          unfold ixN
          rw [if_pos q2.1, if_pos q2.2]
        refine ⟨fa, _, kk.2, kk.2.toNat, rfl, rfl, hf3, hix, ?_⟩
        have e2 : growI n spent (i + 1) = ((growI n spent i).1.set kk.2.toNat (some kk.1), (growI n spent i).2 ++ [kk.2]) := by
          show growStep spent (growI n spent i) = _
          unfold growStep
          rw [hf]
        have e3 : ((growI n spent i).1.map optV).set kk.2.toNat (.int kk.1) = (growI n spent (i + 1)).1.map optV := by
          rw [e2, List.map_set]
          rfl
        rw [e3]
        have hr4 : upd H' fa (.lst ((growI n spent (i + 1)).1.map optV)) ra = some (.dK kvs) := by rw [upd_ne hfr.symm]; exact hr3
        have hb4 : upd H' fa (.lst ((growI n spent (i + 1)).1.map optV)) b = some (.tup [.int kk.1, .int kk.2]) := by rw [upd_ne (ne_of hb' hf3 (fun z => nomatch z))]; exact hb'
        have hvn : valV kvs (Sum.inl kk.2 : Key) = none := by
          have := valV_ints hk2 kk.2
          rw [decide_eq_false h2] at this
          exact Option.not_isSome_iff_eq_none.mp (by rw [this]; exact Bool.false_ne_true)
        walk_at "s"
        refine ⟨b, _, 1, _, rfl, rfl, SqT.of hb4, atI_nat (j := 1) rfl, ?_⟩
        refine ⟨ra, _, rfl, DPut.k (k := Sum.inl kk.2) hr4 (small1000 (by lia)), ?_⟩
        rw [putK_new _ hvn]
        refine ⟨n - (i + 1), by lia, _, _, i + 1, _, rfl, ?_, by lia, by rw [upd_ne hfr, upd_same], upd_same, by rw [List.map_append, e2, List.map_append, hk2]; rfl, rfl⟩
        intro c u hc
        rw [upd_ne (ne_of_none hc hra0), upd_ne (ne_of_none hc hfa0)]
        exact sm _ _ (S2 _ _ hc)
    · walk_at "s"
      have hin : i = n - 1 := by lia
      subst hin
      exact k fa H2 S2 hfa0 hf2
end
section
variable {P : Program} {w : World} {K : PySem.W.Frag} {mg : Str → Option Value} {base : Heap} {C C1 : Addr}
theorem sc_judged : FnScope ["book", "pricing"] ["book"] (defScope s_judged) := ⟨rfl, rfl, rfl, by decide +kernel, rfl, by decide +kernel, by decide +kernel⟩
theorem bi_judged : BindOk "judged" "judged" s_judged ["book"] := fun _ _ _ _ _ _ us hl => by
  obtain ⟨_, rfl⟩ := len1D hl
  rfl
theorem d_judged (F : FunAt K mg "judged" "judged" s_judged) (T : Txt K mg C) (TP : TxtP K mg C1) (D_priced : Def P w K mg base 3 "priced" ["many", "hearings"] (sp_priced C1)) (M_many : MetD P w K mg base C 1 "many" ["self"] (sp_many C)) (M_hearings : MetD P w K mg base C 1 "hearings" ["self"] (sp_hearS C)) (D_grown : Def P w K mg base 1 "grown" ["many", "spent"] sp_grown) :
    Def P w K mg base 4 "judged" ["book"] (sp_judged C) := by
  refine F.def sc_judged bi_judged (fun vs H Q E h => ?_) (fun f cdv A outer s0 H vs Q E hr h => ?_)
  · obtain ⟨p, d, n, cs, rfl, _⟩ := h
    rfl
  · obtain ⟨b, db, n, cs, rfl, B, ok, n1, n12, kL, kF⟩ := h
    have hu := hu_of hr
    refine ⟨_, (pss_cons (ps_set (i := 1) sc_judged.nd rfl (Or.inl rfl) (pe_callD D_priced (hr.mono (by decide)) (pa_cons (pe_methD0 M_many T.cl (hr.mono (by decide)) (pv 0)) (pa_cons (pe_methD0 M_hearings T.cl (hr.mono (by decide)) (pv 0)) pa_nil))))
      (pss_cons (ps_if (pt_cmpR op_notN (pe_fld (pv 1) rfl) pe_non (nomark _))
      (pss_one (ps_ret (pe_tup (pa_cons pe_str (pa_cons (pe_fld (pv 1) rfl) pa_nil)))))
      pss_nil)
      (pss_one (ps_ret (pe_tup (pa_cons pe_str (pa_cons (pe_callD D_grown (hr.mono (by decide)) (pa_cons (pe_methD0 M_many T.cl (hr.mono (by decide)) (pv 0)) (pa_cons (pe_fld (pv 1) rfl) pa_nil))) (pa_cons (pe_fld (pv 1) rfl) pa_nil)))))))), ?_⟩
    try clear hu
    try clear hu0
    try clear hu64
    try dsimp only [cxOf, cxComp, Cx.nox]
    walk_at "s"
    refine meth_book B (by decide +kernel) (by decide +kernel) ?_
    walk_at "s"
    refine ⟨b, db, n, cs, rfl, B, ?_⟩
    walk_at "s"
    refine meth_book B (by decide +kernel) (by decide +kernel) ?_
    walk_at "s"
    refine ⟨b, db, n, cs, rfl, B, ok, fun l rs hs H1 S1 hl0 hl tr so hso => ?_⟩
    walk_at "s"
    refine ⟨n, l, rs, hs, rfl, hl, tr, hso, n1, n12, fun p d s q st H2 pr pi P2 S2 hp0 hd0 hs0 hq0 hne => ?_⟩
    obtain ⟨lv, ob, hlon⟩ := P2.ob
    obtain ⟨_, _, ⟨rs2, hrs2, trs2⟩, ⟨qs2, hqs2, prq2⟩, nsq⟩ := id P2
    have S02 := S1.trans S2
    walk_at "s"
    refine fld_p ob TP.cl TP.aL (.inr (.inr (.inr ⟨rfl, rfl⟩))) ?_
    walk_at "s"
    cases hlo : st.lonely with
    | some g =>
      rw [hlo] at hlon
      obtain ⟨ll, rfl, hll, _, _, hlN⟩ := hlon
      refine w_nneg (fun z => nomatch z) ?_
      walk_at "s"
      refine fld_p ob TP.cl TP.aL (.inr (.inr (.inr ⟨rfl, rfl⟩))) ?_
      walk_at "s"
      refine ⟨by simp [sizeLine_eq], fun t ht => ?_⟩
      exact kL hs st g t ll _ so pr pi hlo (S02.trans (same_upd ht)) (S02.free ht) (S1.free hlN) upd_same ((same_upd ht) _ _ hll)
    | none =>
      rw [hlo] at hlon
      have hlv : lv = .non := hlon
      subst hlv
      refine w_npos rfl ?_
      have B2 := B.same S02
      have hcut : cutF n st.spent = none := by
        rcases pr.2 with h | h
        · exact h
        · exact absurd hlo h
      walk_at "s"
      refine meth_book B2 (by decide +kernel) (by decide +kernel) ?_
      walk_at "s"
      refine ⟨b, db, n, cs, rfl, B2, ?_⟩
      walk_at "s"
      refine fld_p ob TP.cl TP.aS (.inr (.inl ⟨rfl, rfl⟩)) ?_
      walk_at "s"
      refine ⟨n, s, rs2, st.spent, rfl, hrs2, trs2, pi.so, n1, n12, ended_reach n1 hcut, fun fa H3 S3 hf0 hf3 => ?_⟩
      have P3 := P2.move S3
      obtain ⟨lv3, ob3, _⟩ := P3.ob
      walk_at "s"
      refine fld_p ob3 TP.cl TP.aP (.inr (.inr (.inl ⟨rfl, rfl⟩))) ?_
      walk_at "s"
      refine ⟨by simp [sizeLine_eq], fun t ht => ?_⟩
      have St : Same H3 (upd H3 t (.tup [.str "family", .ref fa, .ref q])) := same_upd ht
      have P4 := P3.move St
      obtain ⟨_, _, _, ⟨qs4, hqs4, prq4⟩, _⟩ := id P4
      refine kF hs st t fa q s qs4 _ so pr pi hlo ((S02.trans S3).trans St) ((S02.trans S3).free ht) (S02.free hf0) ?_ upd_same (St _ _ hf3) hqs4 (Paired.mapP prq4 fun _ _ hh9 => by obtain ⟨b1, l1, c1, c2, c3, c4, c5, c6⟩ := hh9; exact ⟨b1, l1, c1, c2, c3, c4, c5, S1.free c6⟩) (ne_of_none hqs2 hf0).symm
      exact S1.free hq0
theorem sc_least_worth : FnScope ["many", "hearings", "pricing"] ["many", "hearings"] (defScope s_least_worth) := ⟨rfl, rfl, rfl, by decide +kernel, rfl, by decide +kernel, by decide +kernel⟩
theorem bi_least_worth : BindOk "least_worth" "least_worth" s_least_worth ["many", "hearings"] := fun _ _ _ _ _ _ us hl => by
  obtain ⟨_, _, rfl⟩ := len2D hl
  rfl
theorem d_lw (F : FunAt K mg "least_worth" "least_worth" s_least_worth) (T : Txt K mg C) (TP : TxtP K mg C1) (D_priced : Def P w K mg base 3 "priced" ["many", "hearings"] (sp_priced C1)) : Def P w K mg base 4 "least_worth" ["many", "hearings"] sp_lw := by
  refine F.def sc_least_worth bi_least_worth (fun vs H Q E h => ?_) (fun f cdv A outer s0 H vs Q E hr h => ?_)
  · obtain ⟨n, l, rs, hs, rfl, _⟩ := h
    rfl
  · obtain ⟨n, l, rs, hs, rfl, hl, tr, ho, n1, n12, k⟩ := h
    have hu := hu_of hr
    refine ⟨_, (pss_cons (ps_set (i := 2) sc_least_worth.nd rfl (Or.inl rfl) (pe_callD D_priced (hr.mono (by decide)) (pa_cons (pv 0) (pa_cons (pv 1) pa_nil))))
      (pss_cons (ps_if (pt_cmpR op_notN (pe_fld (pv 2) rfl) pe_non (nomark _))
      (pss_one (ps_ret pe_non))
      pss_nil)
      (pss_one (ps_ret (pe_callB (call_sumI rfl) (by rfl) T.n_sum L2.boot_sum (pa_cons (pe_comp (N' := ["#many", "#hearings", "#pricing", "group", "price"]) (n0 := 2) (osc := defScope s_least_worth) (pi_list (pe_fld (pv 2) rfl)) (fun z => (pg_tup rfl (pgs_cons (pg_name (i := 3) (show (["#many", "#hearings", "#pricing", "group", "price"] : List Str).Nodup by decide +kernel) rfl (Or.inl rfl)) (pgs_cons (pg_name (i := 4) (show (["#many", "#hearings", "#pricing", "group", "price"] : List Str).Nodup by decide +kernel) rfl (Or.inl rfl)) pgs_nil)))) (fun z => pif_nil) (fun z => (pv 4)) rfl rfl (names_ok (N := ["many", "hearings", "pricing"]) (by decide +kernel)) rfl) pa_nil)))))), ?_⟩
    try clear hu
    try clear hu0
    try clear hu64
    try dsimp only [cxOf, cxComp, Cx.nox]
    walk_at "s"
    refine ⟨n, l, rs, hs, rfl, hl, tr, ho, n1, n12, fun p d s q st H2 pr pi P2 S2 hp0 hd0 hs0 hq0 hne => ?_⟩
    obtain ⟨lv, ob, hlon⟩ := P2.ob
    obtain ⟨_, _, _, ⟨qs2, hqs2, prq2⟩, nsq⟩ := id P2
    have hlw : lwF n hs = worthS st := by unfold lwF; rw [pricedF_eq pr]
    walk_at "s"
    refine fld_p ob TP.cl TP.aL (.inr (.inr (.inr ⟨rfl, rfl⟩))) ?_
    walk_at "s"
    cases hlo : st.lonely with
    | some g =>
      rw [hlo] at hlon
      obtain ⟨ll, rfl, _⟩ := hlon
      refine w_nneg (fun z => nomatch z) ?_
      walk_at "s"
      have := k H2 S2
      rw [hlw] at this
      unfold worthS at this
      rw [hlo] at this
      exact this
    | none =>
      rw [hlo] at hlon
      have hlv : lv = .non := hlon
      subst hlv
      refine w_npos rfl ?_
      walk_at "s"
      refine fld_p ob TP.cl TP.aP (.inr (.inr (.inl ⟨rfl, rfl⟩))) ?_
      refine ⟨q, rfl, ⟨_, SqL.of hqs2⟩, ?_⟩
      have lenq : qs2.length = st.prices.length := Paired.length prq2
      have hpl : st.prices.length ≤ 2000 := by
        have h1 := (steps_inv ho pr.1).2
        have h2 := pi.spl
        have h3 := pi.len
        lia
      refine comp_list_map (xs := qs2) (fun i v _ => ∃ e, st.prices[i]? = some e ∧ v = .int e.2) (fun _ _ _ _ h _ => h) (SqL.of hqs2) (by lia) ?_ ?_
      · intro z i x ws H3 F hx hw s3 hF
        obtain ⟨e, he, b, l', rfl, hb, _⟩ := paired_get prq2 hx
        obtain ⟨w1, w2, rfl⟩ : ∃ w1 w2, ws = [w1, w2] := len_two hw
        walk_at "s"
        refine ⟨b, _, rfl, SqT.of (s3 _ _ hb), rfl, ?_⟩
        walk_at "s"
        exact hF [some (.ref l'), some (.int e.2)] _ _ rfl (Same.refl _) ⟨e, he, rfl⟩
      · intro lc vs H3 hlc s3 hv hvl hrel
        have evs : vs = (st.prices.map (·.2)).map V.int := by
          apply List.ext_getElem?
          intro i
          rw [List.getElem?_map, List.getElem?_map]
          cases h1 : vs[i]? with
          | none =>
            have : vs.length ≤ i := List.getElem?_eq_none_iff.mp h1
            rw [List.getElem?_eq_none (by lia)]
            rfl
          | some v =>
            obtain ⟨e, h2, h3⟩ := hrel i v h1
            rw [h2, h3]
            rfl
        subst evs
        walk_at "s"
        refine ⟨lc, _, rfl, SqL.of hv, ?_⟩
        have := k H3 (S2.trans s3)
        rw [hlw] at this
        unfold worthS at this
        rw [hlo] at this
        exact this
end
section
variable {P : Program} {w : World} {K : PySem.W.Frag} {mg : Str → Option Value} {base : Heap} {C C1 : Addr}
theorem sc_with_only : FnScope ["hearings", "one", "other"] ["hearings", "one", "other"] (defScope s_with_only) := ⟨rfl, rfl, rfl, by decide +kernel, rfl, by decide +kernel, by decide +kernel⟩
theorem bi_with_only : BindOk "with_only" "with_only" s_with_only ["hearings", "one", "other"] := fun _ _ _ _ _ _ us hl => by
  obtain ⟨_, _, _, rfl⟩ := len3D hl
  rfl
theorem d_only (F : FunAt K mg "with_only" "with_only" s_with_only) (T : Txt K mg C) : Def P w K mg base 1 "with_only" ["hearings", "one", "other"] sp_only := by
  refine F.def sc_with_only bi_with_only (fun vs H Q E h => ?_) (fun f cdv A outer s0 H vs Q E hr h => ?_)
  · obtain ⟨l, rs, hs, one, other, rfl, _⟩ := h
    rfl
  · obtain ⟨l, rs, hs, one, other, rfl, hl, tr, hlen, k⟩ := h
    have lenr : rs.length = hs.length := by rw [tr.length, List.length_map]
    refine ⟨_, (pss_one (ps_ret (pe_comp (N' := ["#hearings", "one", "other", "hearing"]) (n0 := 1) (osc := defScope s_with_only) (pi_list (pv 0)) (fun z => (pg_name (i := 3) (show (["#hearings", "one", "other", "hearing"] : List Str).Nodup by decide +kernel) rfl (Or.inl rfl))) (fun z => (pif_one (PW.pt (pw_or (pt_cmpR op_ne (pe_ix ix_tup (pv 3) pe_int (fun _ _ => rfl)) (pv 2) (nomark _)) (pw_or1 (pt_cmpR op_eq (pe_ix ix_tup (pv 3) pe_int (fun _ _ => rfl)) (pv 1) (nomark _))))))) (fun z => (pv 3)) rfl rfl (names_ok (N := ["hearings", "one", "other"]) (by decide +kernel)) rfl))), ?_⟩
    try clear hu
    try clear hu0
    try clear hu64
    try dsimp only [cxOf, cxComp, Cx.nox]
    walk_at "s"
    refine ⟨l, rfl, ⟨_, SqL.of hl⟩, ?_⟩
    refine comp_list (xs := rs) (fun e j σ H' => ∃ w1 ys, σ = [some (.ref l), some (.int one), some (.int other), w1] ∧ Same H H' ∧ H' e = some (.lst ys) ∧ TupRefs H' ys (((hs.take j).filter fun e => !decide (e.1.2 = other) || decide (e.1.1 = one)).map tri) ∧ ys.length ≤ j) ?_ ?_ ?_ ?_
    · intro e he
      exact ⟨none, [], rfl, same_upd he, upd_same, .nil, Nat.le_refl _⟩
    · rintro e j σ H' he hj ⟨w1, ys, rfl, sm, _⟩
      exact SqL.of (sm _ _ hl)
    · rintro e z j x σ H' he hx ⟨w1, ys, rfl, sm, hys, tr', hyl⟩
      obtain ⟨b, ks, rfl, hks, hb⟩ := tr.get hx
      rw [List.getElem?_map] at hks
      cases he' : hs[j]? with
      | none => rw [he'] at hks; cases hks
      | some kk =>
        rw [he'] at hks
        obtain rfl := Option.some.inj hks
        have hb' : H' b = some (.tup [.int kk.1.1, .int kk.1.2, .int kk.2]) := sm _ _ hb
        have hjl : j < hs.length := (List.getElem?_eq_some_iff.mp he').1
        rw [take_filter_succ (fun e : Pr × Int => !decide (e.1.2 = other) || decide (e.1.1 = one)) he']
        have yes : ∀ w1, ∃ ys', H' e = some (.lst ys') ∧ ys'.length < sizeLine ∧ ∃ w1' ys2, ([some (.ref l), some (.int one), some (.int other), w1] : St) = [some (.ref l), some (.int one), some (.int other), w1'] ∧ Same H (upd H' e (.lst (ys' ++ [.ref b]))) ∧ upd H' e (.lst (ys' ++ [.ref b])) e = some (.lst ys2) ∧
            TupRefs (upd H' e (.lst (ys' ++ [.ref b]))) ys2 ((((hs.take j).filter fun e => !decide (e.1.2 = other) || decide (e.1.1 = one)) ++ [kk]).map tri) ∧ ys2.length ≤ j + 1 := fun w1 => by
          refine ⟨ys, hys, by rw [sizeLine_eq]; lia, w1, ys ++ [.ref b], rfl, ?_, upd_same, ?_, by rw [List.length_append, List.length_singleton]; lia⟩
          · intro c u hc
            rw [upd_ne (ne_of_none hc he)]
            exact sm _ _ hc
          · rw [List.map_append]
            exact TupRefs.snoc (TupRefs.nl tr' (nl_upd hys)) (by rw [upd_ne (ne_of hb' hys (fun z => nomatch z))]; exact hb')
        walk_at "s"
        refine ⟨b, _, 1, _, rfl, rfl, SqT.of hb', atI_nat (j := 1) rfl, ?_⟩
        by_cases h1 : kk.1.2 = other
        · walk_at "s"
          refine ⟨b, _, 0, _, rfl, rfl, SqT.of hb', atI_nat (j := 0) rfl, ?_⟩
          by_cases h2 : kk.1.1 = one
          · walk_at "s"
            rw [decide_eq_true h1, decide_eq_true h2, if_pos (by decide)]
            exact yes _
          · walk_at "s"
            rw [decide_eq_true h1, decide_eq_false h2, if_neg (by decide), List.append_nil]
            exact ⟨_, ys, rfl, sm, hys, tr', by lia⟩
        · walk_at "s"
          rw [decide_eq_false h1, Bool.not_false, Bool.true_or, if_pos rfl]
          exact yes _
    · rintro e σ H' he ⟨w1, ys, rfl, sm, hys, tr', hyl⟩
      rw [lenr, List.take_length] at tr'
      exact k e ys H' sm he hys tr'
theorem sc_least_with : FnScope ["book", "one", "other"] ["book", "one", "other"] (defScope s_least_with) := ⟨rfl, rfl, rfl, by decide +kernel, rfl, by decide +kernel, by decide +kernel⟩
theorem bi_least_with : BindOk "least_with" "least_with" s_least_with ["book", "one", "other"] := fun _ _ _ _ _ _ us hl => by
  obtain ⟨_, _, _, rfl⟩ := len3D hl
  rfl
theorem d_leastW (F : FunAt K mg "least_with" "least_with" s_least_with) (T : Txt K mg C) (M_many : MetD P w K mg base C 1 "many" ["self"] (sp_many C)) (M_hearings : MetD P w K mg base C 1 "hearings" ["self"] (sp_hearS C)) (D_with_only : Def P w K mg base 1 "with_only" ["hearings", "one", "other"] sp_only) (D_least_worth : Def P w K mg base 4 "least_worth" ["many", "hearings"] sp_lw) :
    Def P w K mg base 5 "least_with" ["book", "one", "other"] (sp_leastW C) := by
  refine F.def sc_least_with bi_least_with (fun vs H Q E h => ?_) (fun f cdv A outer s0 H vs Q E hr h => ?_)
  · obtain ⟨p, d, n, cs, one, other, rfl, _⟩ := h
    rfl
  · obtain ⟨b, db, n, cs, one, other, rfl, B, ok, n1, n12, k⟩ := h
    refine ⟨_, (pss_one (ps_ret (pe_callD D_least_worth (hr.mono (by decide)) (pa_cons (pe_methD0 M_many T.cl (hr.mono (by decide)) (pv 0)) (pa_cons (pe_callD D_with_only (hr.mono (by decide)) (pa_cons (pe_methD0 M_hearings T.cl (hr.mono (by decide)) (pv 0)) (pa_cons (pv 1) (pa_cons (pv 2) pa_nil)))) pa_nil))))), ?_⟩
    try clear hu
    try clear hu0
    try clear hu64
    try dsimp only [cxOf, cxComp, Cx.nox]
    walk_at "s"
    refine meth_book B (by decide +kernel) (by decide +kernel) ?_
    walk_at "s"
    refine ⟨b, db, n, cs, rfl, B, ?_⟩
    walk_at "s"
    refine meth_book B (by decide +kernel) (by decide +kernel) ?_
    walk_at "s"
    refine ⟨b, db, n, cs, rfl, B, ok, fun l rs hs H1 S1 hl0 hl tr so hso => ?_⟩
    walk_at "s"
    refine ⟨l, rs, hs, one, other, rfl, hl, tr, by have := hso.len; lia, fun l2 rs2 H2 S2 hl20 hl2 tr2 => ?_⟩
    walk_at "s"
    refine ⟨n, l2, rs2, withOnly hs one other, rfl, hl2, tr2, hso.filter _, n1, n12, fun H3 S3 => k hs H3 ((S1.trans S2).trans S3) so⟩
theorem sc_least : FnScope ["book"] ["book"] (defScope s_least) := ⟨rfl, rfl, rfl, by decide +kernel, rfl, by decide +kernel, by decide +kernel⟩
theorem bi_least : BindOk "least" "least" s_least ["book"] := fun _ _ _ _ _ _ us hl => by
  obtain ⟨_, rfl⟩ := len1D hl
  rfl
theorem d_least (F : FunAt K mg "least" "least" s_least) (T : Txt K mg C) (M_many : MetD P w K mg base C 1 "many" ["self"] (sp_many C)) (M_hearings : MetD P w K mg base C 1 "hearings" ["self"] (sp_hearS C)) (D_least_worth : Def P w K mg base 4 "least_worth" ["many", "hearings"] sp_lw) :
    Def P w K mg base 5 "least" ["book"] (sp_leastB C) := by
  refine F.def sc_least bi_least (fun vs H Q E h => ?_) (fun f cdv A outer s0 H vs Q E hr h => ?_)
  · obtain ⟨p, d, n, cs, rfl, _⟩ := h
    rfl
  · obtain ⟨b, db, n, cs, rfl, B, ok, n1, n12, k⟩ := h
    refine ⟨_, (pss_one (ps_ret (pe_callD D_least_worth (hr.mono (by decide)) (pa_cons (pe_methD0 M_many T.cl (hr.mono (by decide)) (pv 0)) (pa_cons (pe_methD0 M_hearings T.cl (hr.mono (by decide)) (pv 0)) pa_nil))))), ?_⟩
    try clear hu
    try clear hu0
    try clear hu64
    try dsimp only [cxOf, cxComp, Cx.nox]
    walk_at "s"
    refine meth_book B (by decide +kernel) (by decide +kernel) ?_
    walk_at "s"
    refine ⟨b, db, n, cs, rfl, B, ?_⟩
    walk_at "s"
    refine meth_book B (by decide +kernel) (by decide +kernel) ?_
    walk_at "s"
    refine ⟨b, db, n, cs, rfl, B, ok, fun l rs hs H1 S1 hl0 hl tr so hso => ?_⟩
    walk_at "s"
    exact ⟨n, l, rs, hs, rfl, hl, tr, hso, n1, n12, fun H3 S3 => k hs H3 (S1.trans S3) so⟩
theorem sc_settled : FnScope ["many", "hearings", "teller", "goal", "one", "other", "cost", "left"] ["many", "hearings", "teller", "goal"] (defScope s_settled) := ⟨rfl, rfl, rfl, by decide +kernel, rfl, by decide +kernel, by decide +kernel⟩
theorem bi_settled : BindOk "settled" "settled" s_settled ["many", "hearings", "teller", "goal"] := fun _ _ _ _ _ _ us hl => by
  obtain ⟨_, _, _, _, rfl⟩ := len4D hl
  rfl
theorem d_settled (F : FunAt K mg "settled" "settled" s_settled) (T : Txt K mg C) (D_with_only : Def P w K mg base 1 "with_only" ["hearings", "one", "other"] sp_only) (D_least_worth : Def P w K mg base 4 "least_worth" ["many", "hearings"] sp_lw) :
    Def P w K mg base 5 "settled" ["many", "hearings", "teller", "goal"] sp_settled := by
  refine F.def sc_settled bi_settled (fun vs H Q E h => ?_) (fun f cdv A outer s0 H vs Q E hr h => ?_)
  · obtain ⟨n, l, rs, hs, t, goal, rfl, _⟩ := h
    rfl
  · obtain ⟨n, l, rs, hs, t, goal, rfl, hl, tr, ho, n1, n12, k⟩ := h
    have lenr : rs.length = hs.length := by rw [tr.length, List.length_map]
    refine ⟨_, (pss_cons (ps_for PassesOwn.never rfl (pi_list (pv 1)) (pg_tup rfl (pgs_cons (pg_name (i := 4) sc_settled.nd rfl (Or.inl rfl)) (pgs_cons (pg_name (i := 5) sc_settled.nd rfl (Or.inl rfl)) (pgs_cons (pg_name (i := 6) sc_settled.nd rfl (Or.inl rfl)) pgs_nil))))
      (pss_one (ps_if (pt_cmpR op_eq (pv 5) (pv 2) (nomark _))
      (pss_cons (ps_set (i := 7) sc_settled.nd rfl (Or.inl rfl) (pe_callD D_with_only (hr.mono (by decide)) (pa_cons (pv 1) (pa_cons (pv 4) (pa_cons (pv 2) pa_nil)))))
      (pss_one (ps_if (pt_cmpR op_eq (pe_callD D_least_worth (hr.mono (by decide)) (pa_cons (pv 0) (pa_cons (pv 7) pa_nil))) (pv 3) (nomark _))
      (pss_one (ps_ret (pv 7)))
      pss_nil)))
      pss_nil)))
      (pss_one (ps_ret (pv 1)))), ?_⟩
    try clear hu
    try clear hu0
    try clear hu64
    try dsimp only [cxOf, cxComp, Cx.nox]
    walk_at "s"
    refine ⟨l, rfl, ⟨_, SqL.of hl⟩, for_list (xs := rs) (fun j σ H' => ∃ o4 o5 o6 o7, σ = [some (.int n), some (.ref l), some (.int t), some (.int goal), o4, o5, o6, o7] ∧ Same H H' ∧ settleAt n hs t goal (hs.take j) = none) ⟨none, none, none, none, rfl, Same.refl _, rfl⟩ (fun j σ H' _ hh9 => by obtain ⟨_, _, _, _, _, S2, _⟩ := hh9; exact SqL.of (S2 _ _ hl)) ?_ ?_⟩
    · rintro j x σ H2 hx ⟨o4, o5, o6, o7, rfl, S2, hno⟩
      obtain ⟨b, ks, rfl, hks, hb⟩ := tr.get hx
      rw [List.getElem?_map] at hks
      cases he' : hs[j]? with
      | none => rw [he'] at hks; cases hks
      | some kk =>
        rw [he'] at hks
        obtain rfl := Option.some.inj hks
        have hb' : H2 b = some (.tup [.int kk.1.1, .int kk.1.2, .int kk.2]) := S2 _ _ hb
        walk_at "s"
        refine ⟨b, _, rfl, SqT.of hb', rfl, ?_⟩
        walk_at "s"
        by_cases h1 : kk.1.2 = t
        · walk_at "s"
          refine ⟨l, rs, hs, kk.1.1, t, rfl, S2 _ _ hl, tr.same S2, by have := ho.len; lia, fun l2 rs2 H3 S3 hl20 hl2 tr2 => ?_⟩
          walk_at "s"
          refine ⟨n, l2, rs2, withOnly hs kk.1.1 t, rfl, hl2, tr2, ho.filter _, n1, n12, fun H4 S4 => ?_⟩
          walk_at "s"
          have hst : settleAt n hs t goal (hs.take (j + 1)) = if lwF n (withOnly hs kk.1.1 t) = some goal then some (withOnly hs kk.1.1 t) else none := by
            rw [settle_snoc he' hno, if_pos h1]
          refine w_eqO ?_
          by_cases hg : lwF n (withOnly hs kk.1.1 t) = some goal
          · rw [decide_eq_true hg]
            rw [if_pos hg] at hst
            walk_at "s"
            refine k l2 rs2 _ H4 ((S2.trans S3).trans S4) (S4 _ _ hl2) (tr2.same S4) ?_ (.inr (S2.free hl20))
            exact settle_some hst
          · rw [decide_eq_false hg]
            rw [if_neg hg] at hst
            walk_at "s"
            exact ⟨_, _, _, _, rfl, (S2.trans S3).trans S4, hst⟩
        · walk_at "s"
          exact ⟨_, _, _, _, rfl, S2, by rw [settle_snoc he' hno, if_neg h1]⟩
    · rintro σ H2 ⟨o4, o5, o6, o7, rfl, S2, hno⟩
      rw [lenr, List.take_length] at hno
      walk_at "s"
      refine k l rs hs H2 S2 (S2 _ _ hl) (tr.same S2) ?_ (.inl rfl)
      unfold settledF
      rw [hno]
      rfl
theorem sc_first : FnScope ["book", "many", "goal", "hearings", "teller", "family", "one", "other", "cost"] ["book"] (defScope s_first) := ⟨rfl, rfl, rfl, by decide +kernel, rfl, by decide +kernel, by decide +kernel⟩
theorem bi_first : BindOk "first" "first" s_first ["book"] := fun _ _ _ _ _ _ us hl => by
  obtain ⟨_, rfl⟩ := len1D hl
  rfl
theorem d_first (F : FunAt K mg "first" "first" s_first) (T : Txt K mg C) (M_many : MetD P w K mg base C 1 "many" ["self"] (sp_many C)) (M_hearings : MetD P w K mg base C 1 "hearings" ["self"] (sp_hearS C)) (D_least : Def P w K mg base 5 "least" ["book"] (sp_leastB C)) (D_settled : Def P w K mg base 5 "settled" ["many", "hearings", "teller", "goal"] sp_settled) :
    Def P w K mg base 6 "first" ["book"] (sp_first C) := by
  refine F.def sc_first bi_first (fun vs H Q E h => ?_) (fun f cdv A outer s0 H vs Q E hr h => ?_)
  · obtain ⟨p, d, n, cs, rfl, _⟩ := h
    rfl
  · obtain ⟨b, db, n, cs, rfl, B, ok, n1, n12, kN, kS⟩ := h
    refine ⟨_, (pss_cons (ps_set (i := 1) sc_first.nd rfl (Or.inl rfl) (pe_methD0 M_many T.cl (hr.mono (by decide)) (pv 0)))
      (pss_cons (ps_set (i := 2) sc_first.nd rfl (Or.inl rfl) (pe_callD D_least (hr.mono (by decide)) (pa_cons (pv 0) pa_nil)))
      (pss_cons (ps_if (pt_cmpR op_isN (pv 2) pe_non (nomark _))
      (pss_one (ps_ret pe_non))
      pss_nil)
      (pss_cons (ps_set (i := 3) sc_first.nd rfl (Or.inl rfl) (pe_methD0 M_hearings T.cl (hr.mono (by decide)) (pv 0)))
      (pss_cons (ps_for PassesOwn.never rfl (pi_range2 rfl T.n_range (pa_cons pe_int (pa_cons (pv 1) pa_nil))) (pg_name (i := 4) sc_first.nd rfl (Or.inl rfl))
      (pss_one (ps_set (i := 3) sc_first.nd rfl (Or.inl rfl) (pe_callD D_settled (hr.mono (by decide)) (pa_cons (pv 1) (pa_cons (pv 3) (pa_cons (pv 4) (pa_cons (pv 2) pa_nil))))))))
      (pss_cons (ps_set (i := 5) sc_first.nd rfl (Or.inl rfl) (pe_op op_rep (pe_lst (pa_cons pe_non pa_nil)) (pv 1)))
      (pss_cons (ps_for PassesOwn.never rfl (pi_list (pv 3)) (pg_tup rfl (pgs_cons (pg_name (i := 6) sc_first.nd rfl (Or.inl rfl)) (pgs_cons (pg_name (i := 7) sc_first.nd rfl (Or.inl rfl)) (pgs_cons (pg_name (i := 8) sc_first.nd rfl (Or.inl rfl)) pgs_nil))))
      (pss_one (ps_asg (pv 6) (pg_sub (pv 5) (pv 7) set_list))))
      (pss_one (ps_ret (pv 5)))))))))), ?_⟩
    try clear hu
    try clear hu0
    try clear hu64
    try dsimp only [cxOf, cxComp, Cx.nox]
    walk_at "s"
    refine meth_book B (by decide +kernel) (by decide +kernel) ?_
    walk_at "s"
    refine ⟨b, db, n, cs, rfl, B, ?_⟩
    walk_at "s"
    refine ⟨b, db, n, cs, rfl, B, ok, n1, n12, fun hs H1 S1 so => ?_⟩
    walk_at "s"
    have B1 := B.same S1
    cases hlw : lwF n hs with
    | none =>
      refine w_pos rfl ?_
      walk_at "s"
      exact kN hs H1 S1 so hlw
    | some goal =>
      refine w_neg (fun z => nomatch z) ?_
      walk_at "s"
      refine meth_book B1 (by decide +kernel) (by decide +kernel) ?_
      walk_at "s"
      refine ⟨b, db, n, cs, rfl, B1, ok, fun l rs hs' H2 S2 hl0 hl tr so' hso => ?_⟩
      obtain rfl := sorted_unique2 so so'
      walk_at "s"
      refine ⟨1, n, rfl, rng1n n12, ?_⟩
      rw [toNat_pred]
      refine for_range (n := n - 1) (fun i σ H' => ∃ l' rs' o4, σ = [some (.ref b), some (.int n), some (.int goal), some (.ref l'), o4, none, none, none, none] ∧ Same H H' ∧ H' l' = some (.lst rs') ∧ TupRefs H' rs' ((settleI n hs goal i).map tri)) ⟨l, rs, none, rfl, S1.trans S2, hl, tr⟩ ?_ ?_
      · rintro i σ H3 hi ⟨l', rs', o4, rfl, S3, hl3, tr3⟩
        walk_at "s"
        refine ⟨n, l', rs', settleI n hs goal i, _, goal, rfl, hl3, tr3, settleI_ok hso i, n1, n12, fun l4 rs4 hs4 H4 S4 hl4 tr4 he4 _ => ?_⟩
        walk_at "s"
        refine ⟨l4, rs4, _, rfl, S3.trans S4, hl4, ?_⟩
        have : settleI n hs goal (i + 1) = hs4 := he4.symm
        rw [this]
        exact tr4
      · rintro σ H3 ⟨l', rs', o4, rfl, S3, hl3, tr3⟩
        have hok3 := settleI_ok hso (n - 1) (goal := goal)
        walk_at "s"
        refine ⟨by simp [sizeLine_eq], fun l0 hl0 => ?_⟩
        walk_at "s"
        refine ⟨l0, n, [.non], rfl, rfl, upd_same, by lia, by lia, by simp [sizeLine_eq]; lia, fun fa hfa => ?_⟩
        rw [show ((n : Int)).toNat = n from rfl, rep_non]
        have S4 := (same_upd (o := .lst [.non]) hl0).trans (same_upd (o := .lst ((List.replicate n (none : Option Int)).map optV)) hfa)
        have hfa3 : H3 fa = none := (same_upd hl0).free hfa
        have hf4 : upd (upd H3 l0 (.lst [.non])) fa (.lst ((List.replicate n (none : Option Int)).map optV)) fa = some (.lst ((List.replicate n (none : Option Int)).map optV)) := upd_same
        generalize upd (upd H3 l0 (.lst [.non])) fa (.lst ((List.replicate n (none : Option Int)).map optV)) = H4 at S4 hf4
        have lenr : rs'.length = (settleI n hs goal (n - 1)).length := by rw [tr3.length, List.length_map]
        have lfa : l' ≠ fa := ne_of_none hl3 hfa3
        walk_at "s"
        refine ⟨l', rfl, ⟨_, SqL.of (S4 _ _ hl3)⟩, for_list (xs := rs') (fun j σ H' => ∃ o6 o7 o8, σ = [some (.ref b), some (.int n), some (.int goal), some (.ref l'), o4, some (.ref fa), o6, o7, o8] ∧ (∀ c u, H3 c = some u → H' c = some u) ∧ H' fa = some (.lst ((famOf n ((settleI n hs goal (n - 1)).take j)).map optV))) ⟨none, none, none, rfl, S4, hf4⟩ (fun j σ H' _ hh9 => by obtain ⟨_, _, _, _, S5, _⟩ := hh9; exact SqL.of (S5 _ _ hl3)) ?_ ?_⟩
        · rintro j x σ H5 hx ⟨o6, o7, o8, rfl, S5, hf5⟩
          obtain ⟨c, ks, rfl, hks, hc⟩ := tr3.get hx
          rw [List.getElem?_map] at hks
          cases he' : (settleI n hs goal (n - 1))[j]? with
          | none => rw [he'] at hks; cases hks
          | some kk =>
            rw [he'] at hks
            obtain rfl := Option.some.inj hks
            have hc' : H5 c = some (.tup [.int kk.1.1, .int kk.1.2, .int kk.2]) := S5 _ _ hc
            obtain ⟨_, _, q3, q4, _, _⟩ := hok3.ok kk.1 (List.mem_map_of_mem (List.mem_of_getElem? he'))
            walk_at "s"
            refine ⟨c, _, rfl, SqT.of hc', rfl, ?_⟩
            walk_at "s"
            have hix : ixN ((famOf n ((settleI n hs goal (n - 1)).take j)).map optV).length kk.1.2 = some kk.1.2.toNat := by
              rw [List.length_map, famOf_len]
              unfold ixN
              rw [if_pos q3, if_pos q4]
            refine ⟨fa, _, kk.1.2, kk.1.2.toNat, rfl, rfl, hf5, hix, ?_⟩
            refine ⟨_, _, _, rfl, fun e u he => by rw [upd_ne (ne_of_none he hfa3)]; exact S5 _ _ he, ?_⟩
            rw [famOf_snoc he', List.map_set, upd_same]
            rfl
        · rintro σ H5 ⟨o6, o7, o8, rfl, S5, hf5⟩
          rw [lenr, List.take_length] at hf5
          walk_at "s"
          exact kS hs goal fa H5 (S3.trans S5) so hlw (S3.free hfa3) hf5
end
section
variable {P : Program} {w : World} {K : PySem.W.Frag} {mg : Str → Option Value} {base : Heap} {C C1 : Addr} {xa : Ex → Addr}
theorem sc_lack : FnScope ["book", "one", "other", "having"] ["book", "one", "other"] (defScope s_lack) := ⟨rfl, rfl, rfl, by decide +kernel, rfl, by decide +kernel, by decide +kernel⟩
theorem bi_lack : BindOk "lack" "lack" s_lack ["book", "one", "other"] := fun _ _ _ _ _ _ us hl => by
  obtain ⟨_, _, _, rfl⟩ := len3D hl
  rfl
theorem d_lack (F : FunAt K mg "lack" "lack" s_lack) (T : Txt K mg C) (M_cost : MetD P w K mg base C 2 "cost" ["self", "one", "other"] (sp_cost C)) (D_least : Def P w K mg base 5 "least" ["book"] (sp_leastB C)) (D_least_with : Def P w K mg base 5 "least_with" ["book", "one", "other"] (sp_leastW C)) :
    Def P w K mg base 6 "lack" ["book", "one", "other"] (sp_lack C) := by
  refine F.def sc_lack bi_lack (fun vs H Q E h => ?_) (fun f cdv A outer s0 H vs Q E hr h => ?_)
  · obtain ⟨p, d, n, cs, one, other, rfl, _⟩ := h
    rfl
  · obtain ⟨b, db, n, cs, one, other, rfl, B, ok, n1, n12, hre, hsm, kS⟩ := h
    refine ⟨_, (pss_cons (ps_if (pt_cmpR op_isN (pe_methD M_cost T.cl (hr.mono (by decide)) (pv 0) (pa_cons (pv 1) (pa_cons (pv 2) pa_nil))) pe_non (nomark _))
      (pss_one ps_never)
      pss_nil)
      (pss_cons (ps_set (i := 3) sc_lack.nd rfl (Or.inl rfl) (pe_callD D_least_with (hr.mono (by decide)) (pa_cons (pv 0) (pa_cons (pv 1) (pa_cons (pv 2) pa_nil)))))
      (pss_cons (ps_if (pt_cmpR op_isN (pv 3) pe_non (nomark _))
      (pss_one (ps_ret pe_non))
      pss_nil)
      (pss_one (ps_ret (pe_op op_sub (pv 3) (pe_callD D_least (hr.mono (by decide)) (pa_cons (pv 0) pa_nil)))))))), ?_⟩
    try clear hu
    try clear hu0
    try clear hu64
    try dsimp only [cxOf, cxComp, Cx.nox]
    walk_at "s"
    refine meth_book B (by decide +kernel) (by decide +kernel) ?_
    walk_at "s"
    refine ⟨b, db, n, cs, one, other, rfl, B, ok_refuses hre, fun H1 S1 => ?_⟩
    walk_at "s"
    have B1 := B.same S1
    cases hlk : lookC cs (one, other) with
    | none =>
      rw [hlk] at hsm
      cases hsm
    | some c =>
      refine w_neg (fun z => nomatch z) ?_
      walk_at "s"
      refine ⟨b, db, n, cs, one, other, rfl, B1, ok, n1, n12, fun hs H2 S2 so => ?_⟩
      have hso := ok.hs.perm so.pm
      walk_at "s"
      have kk := kS hs
      unfold lackF at kk
      cases hw : lwF n (withOnly hs one other) with
      | none =>
        rw [hw] at kk
        refine w_pos rfl ?_
        walk_at "s"
        exact kk H2 (S1.trans S2) so
      | some h =>
        rw [hw] at kk
        obtain ⟨m, hm⟩ := lw_only n1 hso hw
        rw [hm] at kk
        refine w_neg (fun z => nomatch z) ?_
        walk_at "s"
        refine ⟨b, db, n, cs, rfl, B1.same S2, ok, n1, n12, fun hs' H3 S3 so' => ?_⟩
        obtain rfl := sorted_unique2 so so'
        rw [hm]
        refine w_rI0 ?_
        exact kk H3 ((S1.trans S2).trans S3) so
theorem sc_free : FnScope ["book", "goal"] ["book"] (defScope s_free) := ⟨rfl, rfl, rfl, by decide +kernel, rfl, by decide +kernel, by decide +kernel⟩
theorem bi_free : BindOk "free" "free" s_free ["book"] := fun _ _ _ _ _ _ us hl => by
  obtain ⟨_, rfl⟩ := len1D hl
  rfl
theorem d_free (F : FunAt K mg "free" "free" s_free) (T : Txt K mg C) (M_hearings : MetD P w K mg base C 1 "hearings" ["self"] (sp_hearS C)) (D_least : Def P w K mg base 5 "least" ["book"] (sp_leastB C)) (D_least_with : Def P w K mg base 5 "least_with" ["book", "one", "other"] (sp_leastW C)) :
    Def P w K mg base 6 "free" ["book"] (sp_free C) := by
  refine F.def sc_free bi_free (fun vs H Q E h => ?_) (fun f cdv A outer s0 H vs Q E hr h => ?_)
  · obtain ⟨p, d, n, cs, rfl, _⟩ := h
    rfl
  · obtain ⟨b, db, n, cs, rfl, B, ok, n1, n12, k⟩ := h
    refine ⟨_, (pss_cons (ps_set (i := 1) sc_free.nd rfl (Or.inr rfl) (pe_callD D_least (hr.mono (by decide)) (pa_cons (pv 0) pa_nil)))
      (pss_cons (ps_if (pt_cmpR op_isN (pv 1) pe_non (nomark _))
      (pss_one (ps_ret (pe_lst pa_nil)))
      pss_nil)
      (pss_one (ps_ret (pe_comp (N' := ["book", "goal", "one", "other", "cost"]) (n0 := 3) (osc := defScope s_free) (pi_list (pe_methD0 M_hearings T.cl (hr.mono (by decide)) (pv 0))) (fun z => (pg_tup rfl (pgs_cons (pg_name (i := 2) (show (["book", "goal", "one", "other", "cost"] : List Str).Nodup by decide +kernel) rfl (Or.inl rfl)) (pgs_cons (pg_name (i := 3) (show (["book", "goal", "one", "other", "cost"] : List Str).Nodup by decide +kernel) rfl (Or.inl rfl)) (pgs_cons (pg_name (i := 4) (show (["book", "goal", "one", "other", "cost"] : List Str).Nodup by decide +kernel) rfl (Or.inl rfl)) pgs_nil))))) (fun z => (pif_one (pt_cmpR op_eq (pe_callD D_least_with (hr.mono (by decide)) (pa_cons (pv 0) (pa_cons (pv 2) (pa_cons (pv 3) pa_nil)))) (pv 1) (nomark _)))) (fun z => (pe_tup (pa_cons (pv 2) (pa_cons (pv 3) pa_nil)))) rfl rfl (names_ok (N := ["book", "goal"]) (by decide +kernel)) rfl))))), ?_⟩
    try clear hu
    try clear hu0
    try clear hu64
    try dsimp only [cxOf, cxComp, Cx.nox]
    walk_at "s"
    refine ⟨b, db, n, cs, rfl, B, ok, n1, n12, fun hs H1 S1 so => ?_⟩
    walk_at "s"
    have B1 := B.same S1
    cases hlw : lwF n hs with
    | none =>
      refine w_pos rfl ?_
      walk_at "s"
      refine ⟨Nat.zero_le _, fun l hl => k hs l [] _ (S1.trans (same_upd hl)) so (S1.free hl) upd_same ?_ (fun r hr => by cases hr)⟩
      unfold freeF
      rw [hlw]
      exact .nil
    | some goal =>
      refine w_neg (fun z => nomatch z) ?_
      walk_at "s"
      refine meth_book B1 (by decide +kernel) (by decide +kernel) ?_
      walk_at "s"
      refine ⟨b, db, n, cs, rfl, B1, ok, fun l rs hs' H2 S2 hl0 hl tr so' hso => ?_⟩
      obtain rfl := sorted_unique2 so so'
      have lenr : rs.length = hs.length := by rw [tr.length, List.length_map]
      refine ⟨l, rfl, ⟨_, SqL.of hl⟩, ?_⟩
      have hlen := hso.len
      refine comp_list (xs := rs) (fun e j σ H' => ∃ w1 w2 w3 ys, σ = [some (.ref b), some (.int goal), w1, w2, w3] ∧ Same H2 H' ∧ H' e = some (.lst ys) ∧ TupRefs H' ys (((hs.take j).filter fun e => decide (lwF n (withOnly hs e.1.1 e.1.2) = some goal)).map fun e => two e.1) ∧ ys.length ≤ j ∧ ∀ r ∈ ys, ∃ b, r = V.ref b ∧ H b = none) ?_ ?_ ?_ ?_
      · intro e he
        exact ⟨none, none, none, [], rfl, same_upd he, upd_same, .nil, Nat.le_refl _, fun r hr => by cases hr⟩
      · rintro e j σ H' he hj ⟨w1, w2, w3, ys, rfl, sm, _⟩
        exact SqL.of (sm _ _ hl)
      · rintro e z j x σ H' he hx ⟨w1, w2, w3, ys, rfl, sm, hys, tr', hyl, hfr⟩
        obtain ⟨c, ks, rfl, hks, hc⟩ := tr.get hx
        rw [List.getElem?_map] at hks
        cases he' : hs[j]? with
        | none => rw [he'] at hks; cases hks
        | some kk =>
          rw [he'] at hks
          obtain rfl := Option.some.inj hks
          have hc' : H' c = some (.tup [.int kk.1.1, .int kk.1.2, .int kk.2]) := sm _ _ hc
          have hjl : j < hs.length := (List.getElem?_eq_some_iff.mp he').1
          rw [take_filter_succ (fun e : Pr × Int => decide (lwF n (withOnly hs e.1.1 e.1.2) = some goal)) he']
          walk_at "s"
          refine ⟨c, _, rfl, SqT.of hc', rfl, ?_⟩
          walk_at "s"
          refine ⟨b, db, n, cs, kk.1.1, kk.1.2, rfl, (B1.same S2).same sm, ok, n1, n12, fun hs2 H3 S3 so2 => ?_⟩
          obtain rfl := sorted_unique2 so so2
          walk_at "s"
          refine w_eqO ?_
          walk_at "s"
          by_cases hg : lwF n (withOnly hs kk.1.1 kk.1.2) = some goal
          · rw [decide_eq_true hg]
            walk_at "s"
            refine ⟨by simp [sizeLine_eq], fun t ht => ?_⟩
            have he3 : H3 e = some (.lst ys) := S3 _ _ hys
            have het : e ≠ t := ne_of_none he3 ht
            refine ⟨ys, (upd_ne het).trans he3, by rw [sizeLine_eq]; lia, _, _, _, ys ++ [.ref t], rfl, ?_, upd_same, ?_, by rw [List.length_append, List.length_singleton]; lia, ?_⟩
            · intro d u hd
              rw [upd_ne (ne_of_none hd he), upd_ne (ne_of_none (S3 _ _ (sm _ _ hd)) ht)]
              exact S3 _ _ (sm _ _ hd)
            · rw [if_pos rfl, List.map_append]
              exact TupRefs.snoc (TupRefs.nl ((tr'.same S3).same (same_upd ht)) (nl_upd ((upd_ne het).trans he3))) (by rw [upd_ne het.symm, upd_same]; rfl)
            · intro r hr
              rcases List.mem_append.mp hr with h | h
              · exact hfr r h
              · rw [List.mem_singleton.mp h]
                exact ⟨t, rfl, ((S1.trans S2).trans (sm.trans S3)).free ht⟩
          · rw [decide_eq_false hg]
            walk_at "s"
            rw [if_neg Bool.false_ne_true, List.append_nil]
            exact ⟨_, _, _, ys, rfl, sm.trans S3, S3 _ _ hys, tr'.same S3, by lia, hfr⟩
      · rintro e σ H' he ⟨w1, w2, w3, ys, rfl, sm, hys, tr', hyl, hfr⟩
        rw [lenr, List.take_length] at tr'
        refine k hs e ys H' ((S1.trans S2).trans sm) so ((S1.trans S2).free he) hys ?_ hfr
        unfold freeF freeL
        rw [hlw, List.map_map]
        exact tr'
theorem sc_bound : FnScope ["book", "pairs", "heard"] ["book"] (defScope s_bound) := ⟨rfl, rfl, rfl, by decide +kernel, rfl, by decide +kernel, by decide +kernel⟩
theorem bi_bound : BindOk "bound" "bound" s_bound ["book"] := fun _ _ _ _ _ _ us hl => by
  obtain ⟨_, rfl⟩ := len1D hl
  rfl
theorem d_bound (F : FunAt K mg "bound" "bound" s_bound) (T : Txt K mg C) (D_free : Def P w K mg base 6 "free" ["book"] (sp_free C)) : Def P w K mg base 7 "bound" ["book"] (sp_bound C) := by
  refine F.def sc_bound bi_bound (fun vs H Q E h => ?_) (fun f cdv A outer s0 H vs Q E hr h => ?_)
  · obtain ⟨p, d, n, cs, rfl, _⟩ := h
    rfl
  · obtain ⟨b, db, n, cs, rfl, B, ok, n1, n12, k⟩ := h
    refine ⟨_, (pss_cons (ps_set (i := 1) sc_bound.nd rfl (Or.inl rfl) (pe_callD D_free (hr.mono (by decide)) (pa_cons (pv 0) pa_nil)))
      (pss_cons (ps_set (i := 2) sc_bound.nd rfl (Or.inr rfl) (pe_comp (N' := ["#book", "#pairs", "#heard", "one", "other"]) (n0 := 2) (osc := defScope s_bound) (pi_list (pv 1)) (fun z => (pg_tup rfl (pgs_cons (pg_name (i := 3) (show (["#book", "#pairs", "#heard", "one", "other"] : List Str).Nodup by decide +kernel) rfl (Or.inl rfl)) (pgs_cons (pg_name (i := 4) (show (["#book", "#pairs", "#heard", "one", "other"] : List Str).Nodup by decide +kernel) rfl (Or.inl rfl)) pgs_nil)))) (fun z => pif_nil) (fun z => (pv 4)) rfl rfl (names_ok (N := ["book", "pairs", "heard"]) (by decide +kernel)) rfl))
      (pss_one (ps_ret (pe_comp (N' := ["#book", "#pairs", "heard", "one", "other"]) (n0 := 2) (osc := defScope s_bound) (pi_list (pv 1)) (fun z => (pg_tup rfl (pgs_cons (pg_name (i := 3) (show (["#book", "#pairs", "heard", "one", "other"] : List Str).Nodup by decide +kernel) rfl (Or.inl rfl)) (pgs_cons (pg_name (i := 4) (show (["#book", "#pairs", "heard", "one", "other"] : List Str).Nodup by decide +kernel) rfl (Or.inl rfl)) pgs_nil)))) (fun z => (pif_one (pt_cmpR op_eq (pe_bm PySem.F.plainAttrs_list PySem.F.slot_list_count PySem.F.type_list_count mt_count (pv 2) (pa_cons (pv 4) pa_nil)) pe_int (nomark _)))) (fun z => (pe_tup (pa_cons (pv 3) (pa_cons (pv 4) pa_nil)))) rfl rfl (names_ok (N := ["book", "pairs", "heard"]) (by decide +kernel)) rfl))))), ?_⟩
    try clear hu
    try clear hu0
    try clear hu64
    try dsimp only [cxOf, cxComp, Cx.nox]
    walk_at "s"
    refine ⟨b, db, n, cs, rfl, B, ok, n1, n12, fun hs l rs H1 S1 so hl0 hl tr hfr => ?_⟩
    have lenr : rs.length = (freeF n hs).length := by rw [tr.length, List.length_map]
    have hfl : (freeF n hs).length ≤ 200 := by
      have hh := (ok.hs.perm so.pm).len
      unfold freeF
      split
      · exact Nat.zero_le _
      · unfold freeL
        rw [List.length_map]
        have := List.length_filter_le (fun e : Pr × Int => decide (lwF n (withOnly hs e.1.1 e.1.2) = some ‹Int›)) hs
        lia
    generalize hps : freeF n hs = ps at *
    walk_at "s"
    refine ⟨l, rfl, ⟨_, SqL.of hl⟩, ?_⟩
    refine comp_list_map (xs := rs) (fun i v _ => ∃ e, ps[i]? = some e ∧ v = .int e.2) (fun _ _ _ _ h _ => h) (SqL.of hl) (by lia) ?_ ?_
    · intro z i x ws H3 F hx hw s3 hF
      obtain ⟨c, ks, rfl, hks, hc⟩ := tr.get hx
      rw [List.getElem?_map] at hks
      cases he' : ps[i]? with
      | none => rw [he'] at hks; cases hks
      | some kk =>
        rw [he'] at hks
        obtain rfl := Option.some.inj hks
        obtain ⟨w1, w2, rfl⟩ : ∃ w1 w2, ws = [w1, w2] := len_two hw
        have hc3 : H3 c = some (.tup [.int kk.1, .int kk.2]) := s3 _ _ hc
        walk_at "s"
        refine ⟨c, _, rfl, SqT.of hc3, rfl, ?_⟩
        walk_at "s"
        exact hF [some (.int kk.1), some (.int kk.2)] _ _ rfl (Same.refl _) ⟨kk, he', rfl⟩
    · intro lh vs H2 hlh S2 hv hvl hrel
      have evs : vs = (ps.map (·.2)).map V.int := by
        apply List.ext_getElem?
        intro i
        rw [List.getElem?_map, List.getElem?_map]
        cases h1 : vs[i]? with
        | none =>
          have : vs.length ≤ i := List.getElem?_eq_none_iff.mp h1
          rw [List.getElem?_eq_none (by lia)]
          rfl
        | some v =>
          obtain ⟨e, h2, h3⟩ := hrel i v h1
          rw [h2, h3]
          rfl
      subst evs
      walk_at "s"
      refine ⟨l, rfl, ⟨_, SqL.of (S2 _ _ hl)⟩, ?_⟩
      refine comp_list (xs := rs) (fun e j σ H' => ∃ w1 w2 ys, σ = [some (.ref b), some (.ref l), some (.ref lh), w1, w2] ∧ Same H2 H' ∧ H' e = some (.lst ys) ∧ TupRefs H' ys (((ps.take j).filter fun k => decide ((ps.map (·.2)).countP (fun x => decide (x = k.2)) = 1)).map two) ∧ ys.length ≤ j) ?_ ?_ ?_ ?_
      · intro e he
        exact ⟨none, none, [], rfl, same_upd he, upd_same, .nil, Nat.le_refl _⟩
      · rintro e j σ H' he hj ⟨w1, w2, ys, rfl, sm, _⟩
        exact SqL.of (sm _ _ (S2 _ _ hl))
      · rintro e z j x σ H' he hx ⟨w1, w2, ys, rfl, sm, hys, tr', hyl⟩
        obtain ⟨c, ks, rfl, hks, hc⟩ := tr.get hx
        rw [List.getElem?_map] at hks
        cases he' : ps[j]? with
        | none => rw [he'] at hks; cases hks
        | some kk =>
          rw [he'] at hks
          obtain rfl := Option.some.inj hks
          have hc' : H' c = some (.tup [.int kk.1, .int kk.2]) := sm _ _ (S2 _ _ hc)
          have hjl : j < ps.length := (List.getElem?_eq_some_iff.mp he').1
          have hv' := sm _ _ hv
          rw [take_filter_succ (fun k : Pr => decide ((ps.map (·.2)).countP (fun x => decide (x = k.2)) = 1)) he']
          have hcnt : (((ps.map (·.2)).map V.int).countP fun z => eqV z (.int kk.2)) = (ps.map (·.2)).countP (fun x => decide (x = kk.2)) := by
            rw [List.countP_map]
            congr 1
          walk_at "s"
          refine ⟨c, _, rfl, SqT.of hc', rfl, ?_⟩
          walk_at "s"
          refine ⟨.inl ⟨rfl, _, SqL.of hv'⟩, ?_⟩
          walk_at "s"
          refine ⟨lh, _, _, rfl, rfl, hv', rfl, flat_ints _, ?_⟩
          rw [hcnt]
          walk_at "s"
          by_cases hg : (ps.map (·.2)).countP (fun x => decide (x = kk.2)) = 1
          · have hg2 : (((ps.map (·.2)).countP (fun x => decide (x = kk.2)) : Nat) : Int) = 1 := by rw [hg]; rfl
            walk_at "s"
            refine ⟨by simp [sizeLine_eq], fun t ht => ?_⟩
            have het : e ≠ t := ne_of_none hys ht
            refine ⟨ys, (upd_ne het).trans hys, by rw [sizeLine_eq]; lia, _, _, ys ++ [.ref t], rfl, ?_, upd_same, ?_, by rw [List.length_append, List.length_singleton]; lia⟩
            · intro d u hd
              rw [upd_ne (ne_of_none hd he), upd_ne (ne_of_none (sm _ _ hd) ht)]
              exact sm _ _ hd
            · rw [decide_eq_true hg, if_pos rfl, List.map_append]
              exact TupRefs.snoc (TupRefs.nl (tr'.same (same_upd ht)) (nl_upd ((upd_ne het).trans hys))) (by rw [upd_ne het.symm, upd_same]; rfl)
          · have hg2 : ¬ (((ps.map (·.2)).countP (fun x => decide (x = kk.2)) : Nat) : Int) = 1 := fun z => hg (by exact_mod_cast z)
            walk_at "s"
            rw [decide_eq_false hg, if_neg Bool.false_ne_true, List.append_nil]
            exact ⟨_, _, ys, rfl, sm, hys, tr', by lia⟩
      · rintro e σ H' he ⟨w1, w2, ys, rfl, sm, hys, tr', hyl⟩
        rw [lenr, List.take_length] at tr'
        refine k hs e ys H' ((S1.trans S2).trans sm) so ((S1.trans S2).free he) hys ?_
        rw [hps]
        exact tr'
end
section
variable {P : Program} {w : World} {K : PySem.W.Frag} {mg : Str → Option Value} {base : Heap} {C : Addr}
theorem sc_law_costs : FnScope ["rows", "found", "row"] ["rows"] (defScope s_law_costs) := ⟨rfl, rfl, rfl, by decide +kernel, rfl, by decide +kernel, by decide +kernel⟩
theorem bi_law_costs : BindOk "_law_costs" "_law_costs" s_law_costs ["rows"] := fun _ _ _ _ _ _ us hl => by
  obtain ⟨_, rfl⟩ := len1D hl
  rfl
theorem d_costs (F : FunAt K mg "_law_costs" "_law_costs" s_law_costs) (T : Txt K mg C) : Def P w K mg base 1 "_law_costs" ["rows"] sp_costs := by
  refine F.def sc_law_costs bi_law_costs (fun vs H Q E h => ?_) (fun f cdv A outer s H vs Q E hr h => ?_)
  · obtain ⟨l, rs, cs, rfl, _⟩ := h
    rfl
  · obtain ⟨l, rs, cs, rfl, hl, tr, nd, h900, q⟩ := h
    have hu := hu_of hr
    refine ⟨_, (pss_cons (ps_set (i := 1) sc_law_costs.nd rfl (Or.inl rfl) pe_dnewT)
      (pss_cons (ps_for PassesOwn.never rfl (pi_list (pv 0)) (pg_name (i := 2) sc_law_costs.nd rfl (Or.inl rfl))
      (pss_one (ps_dput hu (pv 1) (pe_tup (pa_cons (pe_ix ix_tup (pv 2) pe_int (fun _ _ => rfl)) (pa_cons (pe_ix ix_tup (pv 2) pe_int (fun _ _ => rfl)) pa_nil))) (pe_ix ix_tup (pv 2) pe_int (fun _ _ => rfl)) rfl)))
      (pss_one (ps_ret (pv 1))))), ?_⟩
    try clear hu
    try clear hu0
    try clear hu64
    try dsimp only [cxOf, cxComp, Cx.nox]
    walk_at "s"
    intro d hd
    walk_at "s"
    have S1 : Same H (upd H d (.dT [])) := same_upd hd
    have len : rs.length = cs.length := by rw [tr.length, List.length_map]
    refine ⟨l, rfl, ⟨_, SqL.of (S1 _ _ hl)⟩, for_list (xs := rs) (fun i σ H' => ∃ o, σ = [some (.ref l), some (.ref d), o] ∧ Same H H' ∧ H' d = some (.dT (enc (cs.take i)))) ⟨none, rfl, S1, upd_same⟩ (fun i σ H' _ hh9 => by obtain ⟨_, _, sm, _⟩ := hh9; exact SqL.of (sm _ _ hl)) ?_ ?_⟩
    · rintro i y σ H2 hy ⟨o, rfl, sm, hd2⟩
      obtain ⟨b, e, rfl, he, hb⟩ := tri_get tr hy
      have hb2 := sm _ _ hb
      have hil : i < cs.length := (List.getElem?_eq_some_iff.mp he).1
      walk_at "s"
      refine ⟨b, _, 2, _, rfl, rfl, SqT.of hb2, atI_nat (j := 2) rfl, ?_⟩
      walk_at "s"
      refine ⟨b, _, 0, _, rfl, rfl, SqT.of hb2, atI_nat (j := 0) rfl, ?_⟩
      walk_at "s"
      refine ⟨b, _, 1, _, rfl, rfl, SqT.of hb2, atI_nat (j := 1) rfl, ?_⟩
      walk_at "s"
      refine ⟨by simp [sizeLine_eq], fun t ht => ?_⟩
      have dt : d ≠ t := ne_of_none hd2 ht
      refine ⟨d, _, rfl, DPut.t (k := encK (e.1.1, e.1.2)) ((upd_ne dt).trans hd2) upd_same (by rw [enc_len, List.length_take]; exact small1000 (by lia)), ?_⟩
      rw [put_enc, ← put_take nd he]
      refine ⟨_, rfl, fun a o h => ?_, upd_same⟩
      rw [upd_ne (ne_of_none h hd), upd_ne (ne_of_none (sm _ _ h) ht)]
      exact sm _ _ h
    · rintro σ H2 ⟨o, rfl, sm, hd2⟩
      rw [len, List.take_length] at hd2
      walk_at "s"
      exact q d H2 sm hd hd2
theorem sc_law_family : FnScope ["found", "costs", "many", "teller", "here", "step"] ["found", "costs", "many"] (defScope s_law_family) := ⟨rfl, rfl, rfl, by decide +kernel, rfl, by decide +kernel, by decide +kernel⟩
theorem bi_law_family : BindOk "_law_family" "_law_family" s_law_family ["found", "costs", "many"] := fun _ _ _ _ _ _ us hl => by
  obtain ⟨_, _, _, rfl⟩ := len3D hl
  rfl
theorem d_family (F : FunAt K mg "_law_family" "_law_family" s_law_family) (T : Txt K mg C) (D_law_whole : Def P w K mg base 1 "_law_whole" ["found"] sp_whole) : Def P w K mg base 2 "_law_family" ["found", "costs", "many"] sp_family := by
  refine F.def sc_law_family bi_law_family (fun vs H Q E h => ?_) (fun f cdv A outer s H vs Q E hr h => ?_)
  · obtain ⟨l, d, f, cs, n, rfl, _⟩ := h
    rfl
  · obtain ⟨l, d, f, cs, n, rfl, hl, hd, n1, n12, hok, sh, q⟩ := h
    have hu := hu_of hr
    have hfl : (f.map optV).length = n := by rw [List.length_map]; exact sh.len
    refine ⟨_, (pss_cons (ps_if (PW.pt (pw_or (pt_not (pt_val (pe_callB call_isi (by rfl) T.n_isinstance L2.boot_isinstance (pa_cons (pv 0) (pa_cons (pe_bltn (v := V.ty "list") rfl T.n_list L2.boot_list rfl) pa_nil))))) (pw_or (pt_cmpR op_ne (pe_callB call_len_seq (by rfl) T.n_len L2.boot_len (pa_cons (pv 0) pa_nil)) (pv 2) (nomark _)) (pw_or1 (pt_cmpR op_notN (pe_ix ix_list (pv 0) pe_int (fun _ _ => rfl)) pe_non (nomark _))))))
      (pss_one (ps_ret pe_bl))
      pss_nil)
      (pss_cons (ps_for PassesOwn.never rfl (pi_range2 rfl T.n_range (pa_cons pe_int (pa_cons (pv 2) pa_nil))) (pg_name (i := 3) sc_law_family.nd rfl (Or.inl rfl))
      (pss_one (ps_if (PW.pt (pw_or (pt_not (pt_val (pe_callD D_law_whole (hr.mono (by decide)) (pa_cons (pe_ix ix_list (pv 0) (pv 3) (fun _ _ => rfl)) pa_nil)))) (pw_or1 (pt_cmp (pc_dnotin hu (pe_tup (pa_cons (pe_ix ix_list (pv 0) (pv 3) (fun _ _ => rfl)) (pa_cons (pv 3) pa_nil))) (pv 1))))))
      (pss_one (ps_ret pe_bl))
      pss_nil)))
      (pss_cons (ps_for PassesOwn.never rfl (pi_range1 rfl T.n_range (pa_cons (pv 2) pa_nil)) (pg_name (i := 3) sc_law_family.nd rfl (Or.inl rfl))
      (pss_cons (ps_set (i := 4) sc_law_family.nd rfl (Or.inl rfl) (pv 3))
      (pss_cons (ps_for PassesOwn.never rfl (pi_range1 rfl T.n_range (pa_cons (pv 2) pa_nil)) (pg_name (i := 5) sc_law_family.nd rfl (Or.inl rfl))
      (pss_one (ps_if (pt_cmpR op_ne (pv 4) pe_int (nomark _))
      (pss_one (ps_set (i := 4) sc_law_family.nd rfl (Or.inl rfl) (pe_ix ix_list (pv 0) (pv 4) (fun _ _ => rfl))))
      pss_nil)))
      (pss_one (ps_if (pt_cmpR op_ne (pv 4) pe_int (nomark _))
      (pss_one (ps_ret pe_bl))
      pss_nil)))))
      (pss_one (ps_ret pe_bl))))), ?_⟩
    try clear hu
    try clear hu0
    try clear hu64
    try dsimp only [cxOf, cxComp, Cx.nox]
    walk_at "s"
    refine ⟨_, _, _, _, rfl, .lst hl, isi_list_list, ?_⟩
    walk_at "s"
    refine ⟨l, _, rfl, .inl (SqL.of hl), ?_⟩
    rw [hfl]
    walk_at "s"
    refine w_npos rfl ?_
    walk_at "s"
    refine ⟨l, _, 0, _, rfl, rfl, SqL.of hl, atI_nat (j := 0) (sh.at0 n1), ?_⟩
    walk_at "s"
    refine w_npos rfl ?_
    walk_at "s"
    refine ⟨1, n, rfl, rng1n n12, for_range (n := ((n : Int) - 1).toNat) (fun i σ H' => ∃ o1 o2 o3, σ = [some (.ref l), some (.ref d), some (.int n), o1, o2, o3] ∧ Same H H') ⟨none, none, none, rfl, Same.refl _⟩ ?_ ?_⟩
    · rintro i σ H1 hi ⟨o1, o2, o3, rfl, sm⟩
      have hat := sh.at (t := 1 + (i : Int)) (by lia) (by lia)
      have hk := sh.has (1 + (i : Int)) (by lia) (by lia)
      have hat' : atI (f.map optV) (1 + (i : Int)) = some (V.int (parF f (1 + (i : Int)))) := by
        have := atI_nat hat
        rwa [Int.toNat_of_nonneg (by lia)] at this
      generalize parF f (1 + (i : Int)) = a at hat' hk
      walk_at "s"
      refine ⟨l, _, _, _, rfl, rfl, SqL.of (sm _ _ hl), hat', ?_⟩
      walk_at "s"
      refine ⟨_, rfl, ?_⟩
      walk_at "s"
      refine ⟨l, _, _, _, rfl, rfl, SqL.of (sm _ _ hl), hat', ?_⟩
      walk_at "s"
      refine ⟨by simp [sizeLine_eq], fun t ht => ?_⟩
      have hd1 := sm _ _ hd
      have dt : d ≠ t := ne_of_none hd1 ht
      walk_at "s"
      refine ⟨d, _, rfl, DGet.t (k := encK (a, 1 + (i : Int))) ((upd_ne dt).trans hd1) upd_same, ?_⟩
      rw [val_enc]
      cases hc : lookC cs (a, 1 + (i : Int)) with
      | none => exact absurd hk (look_none hc)
      | some c =>
        simp only [Option.map_some, Option.isSome_some]
        walk_at "s"
        exact ⟨_, _, _, rfl, sm.trans (same_upd ht)⟩
    · rintro σ H1 ⟨o1, o2, o3, rfl, sm⟩
      walk_at "s"
      have hp : ∀ t : Int, 1 ≤ t → t < n → 0 ≤ parF f t ∧ parF f t < n := fun t h1 h2 => by
        obtain ⟨a1, a2, _⟩ := hok _ (sh.has t h1 h2)
        exact ⟨a1, a2⟩
      have hl1 := sm _ _ hl
      refine ⟨n, rfl, (rngN n12).1, (rngN n12).2, for_range (n := (n : Int).toNat) (fun i σ H' => ∃ o1 o2 o3, σ = [some (.ref l), some (.ref d), some (.int n), o1, o2, o3] ∧ H' = H1 ∧ ∀ j : Int, 0 ≤ j → j < i → Led (parF f) j) ⟨o1, o2, o3, rfl, rfl, fun j h1 h2 => by lia⟩ ?_ ?_⟩
      · rintro i σ H2 hi ⟨p1, p2, p3, rfl, rfl, hled⟩
        walk_at "s"
        refine ⟨n, rfl, (rngN n12).1, (rngN n12).2, for_range (n := (n : Int).toNat) (fun k σ H' => ∃ o3, σ = [some (.ref l), some (.ref d), some (.int n), some (.int (0 + (i : Int))), some (.int (iterP (parF f) k (0 + (i : Int)))), o3] ∧ H' = H2 ∧ 0 ≤ iterP (parF f) k (0 + (i : Int)) ∧ iterP (parF f) k (0 + (i : Int)) < n) ⟨_, rfl, rfl, by show (0 : Int) ≤ 0 + i; lia, by show (0 : Int) + i < n; lia⟩ ?_ ?_⟩
        · rintro k σ H3 hk ⟨p3, rfl, rfl, hx0, hx1⟩
          have es : iterP (parF f) (k + 1) (0 + (i : Int)) = if iterP (parF f) k (0 + (i : Int)) = 0 then 0 else parF f (iterP (parF f) k (0 + (i : Int))) := rfl
          rw [es]
          generalize iterP (parF f) k (0 + (i : Int)) = h at hx0 hx1
          by_cases h0 : h = 0
          · walk_at "s"
            rw [if_pos h0]
            exact ⟨_, by rw [h0]; rfl, rfl, Int.le_refl _, by lia⟩
          · have hat := sh.at (t := h) (by lia) hx1
            have hat' : atI (f.map optV) h = some (V.int (parF f h)) := by
              have := atI_nat hat
              rwa [Int.toNat_of_nonneg (by lia)] at this
            walk_at "s"
            refine ⟨l, _, _, _, rfl, rfl, SqL.of hl1, hat', ?_⟩
            walk_at "s"
            rw [if_neg h0]
            have := hp h (by lia) hx1
            exact ⟨_, rfl, rfl, this.1, this.2⟩
        · rintro σ H3 ⟨p3, rfl, rfl, hx0, hx1⟩
          have en : (n : Int).toNat = n := by lia
          rw [en]
          by_cases h0 : iterP (parF f) n (0 + (i : Int)) = 0
          · walk_at "s"
            refine ⟨_, _, _, rfl, rfl, fun j h1 h2 => ?_⟩
            by_cases hj : j < (i : Int)
            · exact hled j h1 hj
            · have : j = 0 + (i : Int) := by lia
              rw [this]
              exact iter_led h0
          · walk_at "s"
            have : ledB n f = false := by
              unfold ledB
              refine @decide_eq_false _ (Classical.propDecidable _) fun z => h0 ?_
              by_cases hi0 : (i : Int) = 0
              · rw [hi0]
                exact iter_zero _ _
              · exact iter_n hp (by lia) (by lia) (z _ (by lia) (by lia))
            have q' := q _ sm
            rw [this] at q'
            exact q'
      · rintro σ H2 ⟨p1, p2, p3, rfl, rfl, hled⟩
        walk_at "s"
        have : ledB n f = true := by unfold ledB; exact @decide_eq_true _ (Classical.propDecidable _) fun t h1 h2 => hled t (by lia) (by lia)
        have q' := q _ sm
        rw [this] at q'
        exact q'
end
section
variable {P : Program} {w : World} {K : PySem.W.Frag} {mg : Str → Option Value} {base : Heap} {C : Addr}
theorem sc_law_worth : FnScope ["family", "costs"] ["family", "costs"] (defScope s_law_worth) := ⟨rfl, rfl, rfl, by decide +kernel, rfl, by decide +kernel, by decide +kernel⟩
theorem bi_law_worth : BindOk "_law_worth" "_law_worth" s_law_worth ["family", "costs"] := fun _ _ _ _ _ _ us hl => by
  obtain ⟨_, _, rfl⟩ := len2D hl
  rfl
theorem d_worth (F : FunAt K mg "_law_worth" "_law_worth" s_law_worth) (T : Txt K mg C) : Def P w K mg base 1 "_law_worth" ["family", "costs"] sp_worth := by
  refine F.def sc_law_worth bi_law_worth (fun vs H Q E h => ?_) (fun f cdv A outer s H vs Q E hr h => ?_)
  · obtain ⟨lf, d, f, cs, n, rfl, _⟩ := h
    rfl
  · obtain ⟨lf, d, fm, cs, n, rfl, hlf, hd, n1, n12, sh, q⟩ := h
    have hu := hu_of hr
    refine ⟨_, (pss_one (ps_ret (pe_callB (call_sumI rfl) (by rfl) T.n_sum L2.boot_sum (pa_cons (pe_comp (N' := ["family", "costs", "teller"]) (n0 := 1) (osc := defScope s_law_worth) (pi_range2 rfl T.n_range (pa_cons pe_int (pa_cons (pe_callB call_len_seq (by rfl) T.n_len L2.boot_len (pa_cons (pv 0) pa_nil)) pa_nil))) (fun z => (pg_name (i := 2) (show (["family", "costs", "teller"] : List Str).Nodup by decide +kernel) rfl (Or.inl rfl))) (fun z => pif_nil) (fun z => (pe_dget hu (pv 1) (pe_tup (pa_cons (pe_ix ix_list (pv 0) (pv 2) (fun _ _ => rfl)) (pa_cons (pv 2) pa_nil))) (fun _ _ => rfl))) rfl rfl (names_ok (N := ["family", "costs"]) (by decide +kernel)) rfl) pa_nil)))), ?_⟩
    try clear hu
    try clear hu0
    try clear hu64
    try dsimp only [cxOf, cxComp, Cx.nox]
    walk_at "s"
    refine ⟨lf, _, rfl, .inl (SqL.of hlf), ?_⟩
    rw [List.length_map, sh.len]
    walk_at "s"
    refine ⟨1, n, rfl, rng1n n12, ?_⟩
    refine comp_range_map (fun i v _ => v = .int (costOf cs (parF fm (1 + (i : Int)), 1 + (i : Int)))) (fun _ _ _ _ h _ => h) (by lia) ?_ ?_
    · intro z i ws H3 F hi hw s3 hF
      obtain ⟨w1, rfl⟩ : ∃ w1, ws = [w1] := len_one hw
      have hat := sh.at (t := 1 + (i : Int)) (by lia) (by lia)
      have hat' : atI (fm.map optV) (1 + (i : Int)) = some (V.int (parF fm (1 + (i : Int)))) := by
        have := atI_nat hat
        rwa [Int.toNat_of_nonneg (by lia)] at this
      have hk := sh.has (1 + (i : Int)) (by lia) (by lia)
      walk_at "s"
      refine ⟨lf, _, _, _, rfl, rfl, SqL.of (s3 _ _ hlf), hat', ?_⟩
      walk_at "s"
      refine ⟨by simp [sizeLine_eq], fun t ht => ?_⟩
      have hd3 := s3 _ _ hd
      have dt : d ≠ t := ne_of_none hd3 ht
      have hval : valV (enc cs) (encK (parF fm (1 + (i : Int)), 1 + (i : Int))) = some (V.int (costOf cs (parF fm (1 + (i : Int)), 1 + (i : Int)))) := by
        rw [val_enc]
        unfold costOf
        cases hc : lookC cs (parF fm (1 + (i : Int)), 1 + (i : Int)) with
        | none => exact absurd hk (look_none hc)
        | some c => rfl
      refine ⟨d, _, rfl, hval ▸ DGet.t (k := encK (parF fm (1 + (i : Int)), 1 + (i : Int))) ((upd_ne dt).trans hd3) upd_same, ?_⟩
      exact hF [some (.int (1 + (i : Int)))] _ _ rfl (same_upd ht) rfl
    · intro lc vs H3 hlc s3 hv hvl hrel
      have evs : vs = ((others n).map fun t => costOf cs (parF fm t, t)).map V.int := by
        apply List.ext_getElem?
        intro i
        unfold others
        rw [List.getElem?_map, List.getElem?_map, List.getElem?_map]
        cases h1 : vs[i]? with
        | none =>
          have : vs.length ≤ i := List.getElem?_eq_none_iff.mp h1
          rw [List.getElem?_eq_none (by rw [List.length_range]; lia)]
          rfl
        | some v =>
          have hi : i < vs.length := (List.getElem?_eq_some_iff.mp h1).1
          rw [hrel i v h1, List.getElem?_range (by lia)]
          rfl
      subst evs
      walk_at "s"
      exact ⟨lc, _, rfl, SqL.of hv, q _ s3⟩
end
inductive sp_all (vs : List V) (H : Hp) (Q : VK) (E : XK) : Prop
  | mk (l : Addr) (rs : List V) (cs : Cs) (n : Nat) (h09 : vs = [.ref l, .int n]) (h19 : H l = some (.lst rs)) (h29 : TupRefs H rs (cs.map tri)) (h39 : RowsOk n cs) (h49 : cs.length ≤ 16) (h59 : 1 ≤ n) (h69 : n ≤ 4) (h79 : ∀ (l' : Addr) (fs : List V) (H' : Hp), Same H H' → H l' = none → H' l' = some (.lst fs) → FamRefs (fun b => b ≠ l' ∧ H b = none) H' fs (allF n cs) → Q (.ref l') H') : sp_all vs H Q E
inductive AllI (l : Addr) (n : Nat) (cs : Cs) (H : Hp) (i : Nat) (σ : St) (H' : Hp) : Prop
  | mk (lf : Addr) (fs : List V) (o3 o4 o5 : Option V) (e : σ = [some (.ref l), some (.int n), some (.ref lf), o3, o4, o5, none]) (h1 : Same H H') (h2 : H lf = none) (h3 : H' lf = some (.lst fs)) (h4 : FamRefs (fun b => b ≠ lf ∧ H b = none) H' fs (buildF cs i)) : AllI l n cs H i σ H'
inductive AllJ (l lf ll : Addr) (n : Nat) (cs : Cs) (fs : List V) (H : Hp) (i j : Nat) (σ : St) (H' : Hp) : Prop
  | mk (ys : List V) (o5 : Option V) (e : σ = [some (.ref l), some (.int n), some (.ref lf), some (.int (1 + (i : Int))), some (.ref ll), o5, none]) (h1 : Same H H') (h3 : H' lf = some (.lst fs)) (h4 : FamRefs (fun b => b ≠ ll) H' fs (buildF cs i)) (h5 : H' ll = some (.lst ys)) (h6 : FamRefs (fun b => b ≠ ll ∧ H b = none) H' ys (((buildF cs i).take j).flatMap fun f => (hearersOf cs (1 + (i : Int))).map fun a => f ++ [some a])) : AllJ l lf ll n cs fs H i j σ H'
inductive AllK (l lf ll b : Addr) (n : Nat) (cs : Cs) (f : Fam) (H H2 : Hp) (i : Nat) (e : Addr) (k : Nat) (σ : St) (H' : Hp) : Prop
  | mk (zs : List V) (w1 : Option V) (es : σ = [some (.ref l), some (.int n), some (.ref lf), some (.int (1 + (i : Int))), some (.ref ll), some (.ref b), none, w1]) (h1 : Same H2 H') (h2 : H' e = some (.lst zs)) (h3 : FamRefs (fun c => c ≠ e ∧ c ≠ ll ∧ H c = none) H' zs ((hearersOf (cs.take k) (1 + (i : Int))).map fun a => f ++ [some a])) (h4 : zs.length ≤ k) : AllK l lf ll b n cs f H H2 i e k σ H'
inductive AllL (l lf dd : Addr) (n : Nat) (cs : Cs) (o3 o4 o5 : Option V) (H H3 : Hp) (e : Addr) (k : Nat) (σ : St) (H' : Hp) : Prop
  | mk (zs : List V) (w1 : Option V) (es : σ = [some (.ref l), some (.int n), some (.ref lf), o3, o4, o5, some (.ref dd), w1]) (h1 : Same H3 H') (h2 : H' e = some (.lst zs)) (h3 : FamRefs (fun c => c ≠ e ∧ H c = none) H' zs (((buildF cs (n - 1)).take k).filter fun f => ledB n f)) (h4 : zs.length ≤ k) : AllL l lf dd n cs o3 o4 o5 H H3 e k σ H'
section
variable {P : Program} {w : World} {K : PySem.W.Frag} {mg : Str → Option Value} {base : Heap} {C : Addr}
theorem sc_law_all : FnScope ["rows", "many", "found", "teller", "longer", "family", "costs"] ["rows", "many"] (defScope s_law_all) := ⟨rfl, rfl, rfl, by decide +kernel, rfl, by decide +kernel, by decide +kernel⟩
theorem bi_law_all : BindOk "_law_all" "_law_all" s_law_all ["rows", "many"] := fun _ _ _ _ _ _ us hl => by
  obtain ⟨_, _, rfl⟩ := len2D hl
  rfl
theorem d_all (F : FunAt K mg "_law_all" "_law_all" s_law_all) (T : Txt K mg C) (D_law_costs : Def P w K mg base 1 "_law_costs" ["rows"] sp_costs) (D_law_family : Def P w K mg base 2 "_law_family" ["found", "costs", "many"] sp_family) : Def P w K mg base 3 "_law_all" ["rows", "many"] sp_all := by
  refine F.def sc_law_all bi_law_all (fun vs H Q E h => ?_) (fun f cdv A outer s H vs Q E hr h => ?_)
  · obtain ⟨l, rs, cs, n, rfl, _⟩ := h
    rfl
  · obtain ⟨l, rs, cs, n, rfl, hl, tr, R, c16, n1, n4, q⟩ := h
    have hu := hu_of hr
    have n12 : n ≤ 12 := by lia
    have lenr : rs.length = cs.length := by rw [tr.length, List.length_map]
    refine ⟨_, (pss_cons (ps_set (i := 2) sc_law_all.nd rfl (Or.inl rfl) (pe_lst (pa_cons (pe_lst (pa_cons pe_non pa_nil)) pa_nil)))
      (pss_cons (ps_for PassesOwn.never rfl (pi_range2 rfl T.n_range (pa_cons pe_int (pa_cons (pv 1) pa_nil))) (pg_name (i := 3) sc_law_all.nd rfl (Or.inr rfl))
      (pss_cons (ps_set (i := 4) sc_law_all.nd rfl (Or.inl rfl) (pe_lst pa_nil))
      (pss_cons (ps_for PassesOwn.never rfl (pi_list (pv 2)) (pg_name (i := 5) sc_law_all.nd rfl (Or.inr rfl))
      (pss_one (ps_expr (pe_bm PySem.F.plainAttrs_list PySem.F.slot_list_extend PySem.F.type_list_extend mt_extend (pv 4) (pa_cons (pe_comp (N' := ["#rows", "#many", "#found", "teller", "#longer", "family", "#costs", "row"]) (n0 := 1) (osc := defScope s_law_all) (pi_list (pv 0)) (fun z => (pg_name (i := 7) (show (["#rows", "#many", "#found", "teller", "#longer", "family", "#costs", "row"] : List Str).Nodup by decide +kernel) rfl (Or.inl rfl))) (fun z => (pif_one (pt_cmpR op_eq (pe_ix ix_tup (pv 7) pe_int (fun _ _ => rfl)) (pv 3) (nomark _)))) (fun z => (pe_op op_cat (pv 5) (pe_lst (pa_cons (pe_ix ix_tup (pv 7) pe_int (fun _ _ => rfl)) pa_nil)))) rfl rfl (names_ok (N := ["rows", "many", "found", "teller", "longer", "family", "costs"]) (by decide +kernel)) rfl) pa_nil)))))
      (pss_one (ps_set (i := 2) sc_law_all.nd rfl (Or.inl rfl) (pv 4))))))
      (pss_cons (ps_set (i := 6) sc_law_all.nd rfl (Or.inr rfl) (pe_callD D_law_costs (hr.mono (by decide)) (pa_cons (pv 0) pa_nil)))
      (pss_one (ps_ret (pe_comp (N' := ["#rows", "many", "#found", "#teller", "#longer", "#family", "costs", "family"]) (n0 := 1) (osc := defScope s_law_all) (pi_list (pv 2)) (fun z => (pg_name (i := 7) (show (["#rows", "many", "#found", "#teller", "#longer", "#family", "costs", "family"] : List Str).Nodup by decide +kernel) rfl (Or.inl rfl))) (fun z => (pif_one (pt_val (pe_callD D_law_family (hr.mono (by decide)) (pa_cons (pv 7) (pa_cons (pv 6) (pa_cons (pv 1) pa_nil))))))) (fun z => (pv 7)) rfl rfl (names_ok (N := ["rows", "many", "found", "teller", "longer", "family", "costs"]) (by decide +kernel)) rfl)))))), ?_⟩
    try clear hu
    try clear hu0
    try clear hu64
    try dsimp only [cxOf, cxComp, Cx.nox]
    walk_at "s"
    refine ⟨by simp [sizeLine_eq], fun p0 hp0 => ?_⟩
    have S0 := same_upd (o := .lst [.non]) hp0
    walk_at "s"
    refine ⟨by simp [sizeLine_eq], fun lf0 hlf0 => ?_⟩
    have S1 := S0.trans (same_upd (o := .lst [.ref p0]) hlf0)
    have np : p0 ≠ lf0 := fun z => by rw [← z, upd_same] at hlf0; cases hlf0
    have hp1 : upd (upd H p0 (.lst [.non])) lf0 (.lst [.ref p0]) p0 = some (.lst (([none] : Fam).map optV)) := by rw [upd_ne np, upd_same]; rfl
    walk_at "s"
    refine ⟨1, n, rfl, rng1n n12, for_range (n := ((n : Int) - 1).toNat) (fun i σ H' => AllI l n cs H i σ H') ⟨lf0, [.ref p0], none, none, none, rfl, S1, S0.free hlf0, upd_same, .cons ⟨p0, rfl, hp1, np, hp0⟩ .nil⟩ ?_ ?_⟩
    · rintro i σ H2 hi ⟨lf, fs, o3, o4, o5, rfl, sm, hlfH, hlf, fr⟩
      walk_at "s"
      refine ⟨by simp [sizeLine_eq], fun ll hll0 => ?_⟩
      have S3 := same_upd (o := .lst []) hll0
      have hlf3 := S3 _ _ hlf
      have hllH : H ll = none := sm.free hll0
      have nl : lf ≠ ll := ne_of_none hlf hll0
      walk_at "s"
      refine ⟨lf, rfl, ⟨_, SqL.of hlf3⟩, for_list (xs := fs) (fun j σ H' => AllJ l lf ll n cs fs H i j σ H') ⟨[], o5, rfl, sm.trans S3, hlf3, (FamRefs.imp (N' := fun b => b ≠ ll) fr fun b f h _ => ne_of_none h hll0).same S3, upd_same, .nil⟩ (fun j σ H' _ hI => by obtain ⟨_, _, _, _, h3, _⟩ := hI; exact SqL.of h3) ?_ ?_⟩
      · rintro j y σ H4 hy ⟨ys, o5', rfl, sm4, hlf4, fr4, hll4, fy⟩
        obtain ⟨b, fm, rfl, hfm, hb, hbl⟩ := fr4.get hy
        walk_at "s"
        refine ⟨.inl ⟨rfl, _, SqL.of hll4⟩, ?_⟩
        walk_at "s"
        refine ⟨l, rfl, ⟨_, SqL.of (sm4 _ _ hl)⟩, ?_⟩
        refine comp_list (xs := rs) (fun e k σ H' => AllK l lf ll b n cs fm H H4 i e k σ H') ?_ ?_ ?_ ?_
        · intro e he
          exact ⟨[], none, rfl, same_upd he, upd_same, .nil, Nat.le_refl _⟩
        · rintro e k σ H' he hk ⟨zs, w1, rfl, sm5, _⟩
          exact SqL.of (sm5 _ _ (sm4 _ _ hl))
        · rintro e z k x σ H' he hx ⟨zs, w1, rfl, sm5, hzs, fz, hzl⟩
          obtain ⟨br, ee, rfl, hee, hbr⟩ := tri_get tr hx
          have hbr5 := sm5 _ _ (sm4 _ _ hbr)
          have hkl : k < cs.length := (List.getElem?_eq_some_iff.mp hee).1
          have th := take_hear hee (1 + (i : Int)) fm
          walk_at "s"
          refine ⟨br, _, 1, _, rfl, rfl, SqT.of hbr5, atI_nat (j := 1) rfl, ?_⟩
          walk_at "s"
          by_cases ht : ee.1.2 = 1 + (i : Int)
          · rw [if_pos ht] at th
            refine w_pos ht ?_
            walk_at "s"
            refine ⟨br, _, 0, _, rfl, rfl, SqT.of hbr5, atI_nat (j := 0) rfl, ?_⟩
            walk_at "s"
            refine ⟨by simp [sizeLine_eq], fun p1 hp1 => ?_⟩
            have T1 := same_upd (o := .lst [.int ee.1.1]) hp1
            have hb6 := T1 _ _ (sm5 _ _ hb)
            have hfl : fm.length ≤ 100 := by
              have := (mem_build.mp (List.mem_of_getElem? hfm)).len
              lia
            refine ⟨b, p1, _, _, rfl, rfl, hb6, upd_same, by rw [sizeLine_eq, List.length_map]; show fm.length + 1 ≤ _; lia, fun p2 hp2 => ?_⟩
            have T2 := T1.trans (same_upd (o := .lst (fm.map optV ++ [.int ee.1.1])) hp2)
            have hzs7 := T2 _ _ hzs
            have fz7 := fz.same T2
            have hp27 : upd (upd H' p1 (.lst [.int ee.1.1])) p2 (.lst (fm.map optV ++ [.int ee.1.1])) p2 = some (.lst ((fm ++ [some ee.1.1]).map optV)) := by rw [upd_same, List.map_append]; rfl
            have hp2H' : H' p2 = none := T1.free hp2
            generalize upd (upd H' p1 (.lst [.int ee.1.1])) p2 (.lst (fm.map optV ++ [.int ee.1.1])) = H7 at T2 hzs7 fz7 hp27
            refine ⟨zs, hzs7, by rw [sizeLine_eq]; lia, zs ++ [.ref p2], _, rfl, fun c o h => ?_, upd_same, ?_, by rw [List.length_append, List.length_singleton]; lia⟩
            · rw [upd_ne (ne_of_none h he)]
              exact T2 _ _ (sm5 _ _ h)
            · rw [th]
              refine FamRefs.snoc (fz7.upd fun c h => h.1) ((upd_ne ?_).trans hp27) ⟨?_, ?_, ?_⟩
              · exact fun z => by rw [z] at hp2H'; rw [hzs] at hp2H'; cases hp2H'
              · exact fun z => by rw [z] at hp2H'; rw [hzs] at hp2H'; cases hp2H'
              · exact fun z => by rw [z] at hp2H'; rw [sm5 _ _ hll4] at hp2H'; cases hp2H'
              · exact (sm4.trans sm5).free hp2H'
          · rw [if_neg ht, List.append_nil] at th
            refine w_neg ht ?_
            walk_at "s"
            exact ⟨zs, _, rfl, sm5, hzs, by rw [th]; exact fz, by lia⟩
        · rintro e σ H' he ⟨zs, w1, rfl, sm5, hzs, fz, hzl⟩
          rw [lenr, List.take_length] at fz
          have hll5 := sm5 _ _ hll4
          have hyl := fy.length
          have nel : e ≠ ll := (ne_of_none hll4 he).symm
          have nef : e ≠ lf := (ne_of_none hlf4 he).symm
          walk_at "s"
          refine ⟨ll, e, ys, zs, rfl, rfl, hll5, hzs, ?_, ?_⟩
          · have hg : ys.length ≤ 65536 := Nat.le_trans (Nat.le_of_eq hyl) (grown_few (j := j) c16 (show i ≤ 3 by lia))
            rw [sizeLine_eq]
            lia
          walk_at "s"
          refine ⟨ys ++ zs, _, rfl, fun c o h => ?_, (upd_ne nl).trans (sm5 _ _ hlf4), (fr4.same sm5).upd fun c h => h, upd_same, ?_⟩
          · rw [upd_ne (ne_of_none h hllH)]
            exact sm5 _ _ (sm4 _ _ h)
          · rw [take_build hfm]
            exact FamRefs.app ((fy.same sm5).upd fun c h => h.1) ((fz.imp fun c f _ h => ⟨h.2.1, h.2.2⟩).upd fun c h => h.1)
      · rintro σ H4 ⟨ys, o5', rfl, sm4, hlf4, fr4, hll4, fy⟩
        rw [fr.length, List.take_length] at fy
        walk_at "s"
        exact ⟨ll, ys, _, _, _, rfl, sm4, hllH, hll4, fy⟩
    · rintro σ H2 ⟨lf, fs, o3, o4, o5, rfl, sm, hlfH, hlf, fr⟩
      rw [show ((n : Int) - 1).toNat = n - 1 by lia] at fr
      walk_at "s"
      refine ⟨l, rs, cs, rfl, sm _ _ hl, tr.same sm, R.nd, by lia, fun dd H3 S3 hdd0 hdd => ?_⟩
      have hlf3 := S3 _ _ hlf
      have fr3 := fr.same S3
      have sm3 := sm.trans S3
      walk_at "s"
      refine ⟨lf, rfl, ⟨_, SqL.of hlf3⟩, ?_⟩
      refine comp_list (xs := fs) (fun e k σ H' => AllL l lf dd n cs o3 o4 o5 H H3 e k σ H') ?_ ?_ ?_ ?_
      · intro e he
        exact ⟨[], none, rfl, same_upd he, upd_same, .nil, Nat.le_refl _⟩
      · rintro e k σ H' he hk ⟨zs, w1, rfl, sm5, _⟩
        exact SqL.of (sm5 _ _ hlf3)
      · rintro e z k x σ H' he hx ⟨zs, w1, rfl, sm5, hzs, fz, hzl⟩
        obtain ⟨b, fm, rfl, hfm, hb, hbl, hbH⟩ := fr3.get hx
        have sh := mem_build.mp (List.mem_of_getElem? hfm)
        rw [show n - 1 + 1 = n by lia] at sh
        have hkl : k < fs.length := (List.getElem?_eq_some_iff.mp hx).1
        have hfs := fr3.length
        have hbl2 := build_len c16 (n - 1)
        have h16 : 16 ^ (n - 1) ≤ 16 ^ 3 := Nat.pow_le_pow_right (by decide) (by lia)
        have et : ((buildF cs (n - 1)).take (k + 1)).filter (fun f => ledB n f) = ((buildF cs (n - 1)).take k).filter (fun f => ledB n f) ++ if ledB n fm = true then [fm] else [] := by
          rw [List.take_add_one, hfm, List.filter_append]
          congr 1
          by_cases h : ledB n fm = true
          · simp [h]
          · simp [h]
        walk_at "s"
        refine ⟨b, dd, fm, cs, n, rfl, sm5 _ _ hb, sm5 _ _ hdd, n1, n12, R.ok, sh, fun H8 S8 => ?_⟩
        have sm8 := sm5.trans S8
        have hzs8 := S8 _ _ hzs
        have nbe : b ≠ e := ne_of_none hb he
        by_cases hled : ledB n fm = true
        · rw [if_pos hled] at et
          rw [hled]
          walk_at "s"
          refine ⟨zs, hzs8, by rw [sizeLine_eq]; lia, zs ++ [.ref b], _, rfl, fun c o h => ?_, upd_same, ?_, by rw [List.length_append, List.length_singleton]; lia⟩
          · rw [upd_ne (ne_of_none h he)]
            exact sm8 _ _ h
          · rw [et]
            exact FamRefs.snoc ((fz.same S8).upd fun c h => h.1) ((upd_ne nbe).trans (sm8 _ _ hb)) ⟨nbe, hbH⟩
        · rw [if_neg hled, List.append_nil] at et
          rw [Bool.eq_false_iff.mpr hled]
          walk_at "s"
          exact ⟨zs, _, rfl, sm8, hzs8, by rw [et]; exact fz.same S8, by lia⟩
      · rintro e σ H' he ⟨zs, w1, rfl, sm5, hzs, fz, hzl⟩
        rw [fr3.length, List.take_length] at fz
        exact q e zs H' (sm3.trans sm5) (sm3.free he) hzs fz
end
inductive sp_lackis (vs : List V) (H : Hp) (Q : VK) (E : XK) : Prop
  | mk (N : Addr → Prop) (br lf dd : Addr) (fs : List V) (cs : Cs) (n : Nat) (ee : Pr × Int) (low : Int) (h09 : vs = [optV (lackF n cs ee.1.1 ee.1.2), .ref br, .ref lf, .ref dd, .int low]) (h19 : H br = some (.tup [.int ee.1.1, .int ee.1.2, .int ee.2])) (h29 : H lf = some (.lst fs)) (h39 : FamRefs N H fs (allF n cs)) (h49 : H dd = some (.dT (enc cs))) (h59 : HsOk n cs) (h69 : ee ∈ cs) (h79 : cs.length ≤ 16) (h89 : 1 ≤ n) (h99 : n ≤ 4) (h109 : lwF n cs = some low) (h119 : ∀ H', Same H H' → Q (.bl true) H') : sp_lackis vs H Q E
inductive LackK (br lf dd : Addr) (v0 : V) (low : Int) (n : Nat) (cs : Cs) (ee : Pr × Int) (H : Hp) (e : Addr) (k : Nat) (σ : St) (H' : Hp) : Prop
  | mk (w1 : Option V) (es : σ = [some v0, some (.ref br), some (.ref lf), some (.ref dd), some (.int low), none, w1]) (h1 : Same H H') (h2 : H' e = some (.lst (((((allF n cs).take k).filter fun f => decide (parF f ee.1.2 = ee.1.1)).map (wF n cs)).map V.int))) : LackK br lf dd v0 low n cs ee H e k σ H'
section
variable {P : Program} {w : World} {K : PySem.W.Frag} {mg : Str → Option Value} {base : Heap} {C : Addr}
theorem sc_law_lack_is : FnScope ["found", "row", "families", "costs", "low", "worths"] ["found", "row", "families", "costs", "low"] (defScope s_law_lack_is) := ⟨rfl, rfl, rfl, by decide +kernel, rfl, by decide +kernel, by decide +kernel⟩
theorem bi_law_lack_is : BindOk "_law_lack_is" "_law_lack_is" s_law_lack_is ["found", "row", "families", "costs", "low"] := fun _ _ _ _ _ _ us hl => by
  obtain ⟨_, _, _, _, _, rfl⟩ := len5D hl
  rfl
theorem d_lackis (F : FunAt K mg "_law_lack_is" "_law_lack_is" s_law_lack_is) (T : Txt K mg C) (D_law_whole : Def P w K mg base 1 "_law_whole" ["found"] sp_whole) (D_law_worth : Def P w K mg base 1 "_law_worth" ["family", "costs"] sp_worth) : Def P w K mg base 2 "_law_lack_is" ["found", "row", "families", "costs", "low"] sp_lackis := by
  refine F.def sc_law_lack_is bi_law_lack_is (fun vs H Q E h => ?_) (fun f cdv A outer s H vs Q E hr h => ?_)
  · obtain ⟨N, br, lf, dd, fs, cs, n, ee, low, rfl, _⟩ := h
    rfl
  · obtain ⟨N, br, lf, dd, fs, cs, n, ee, low, rfl, hbr, hlf, fr, hdd, ho, hee, c16, n1, n4, hlow, q⟩ := h
    have hu := hu_of hr
    have hu0 := hr.units0
    have hu64 := hr.units
    obtain ⟨_, _, k3, k4, _, k6⟩ := ho.ok ee.1 (List.mem_map_of_mem hee)
    have t1 : 1 ≤ ee.1.2 := by lia
    have hfs := fr.length
    refine ⟨_, (pss_cons (ps_setComp (i := 5) sc_law_lack_is.nd rfl (Or.inl rfl) (N' := ["#found", "row", "#families", "costs", "#low", "#worths", "family"]) (n0 := 1) (osc := defScope s_law_lack_is) (pi_list (pv 2)) (fun z => (pg_name (i := 6) (show (["#found", "row", "#families", "costs", "#low", "#worths", "family"] : List Str).Nodup by decide +kernel) rfl (Or.inl rfl))) (fun z => (pif_one (pt_cmpR op_eq (pe_ix ix_list (pv 6) (pe_ix ix_tup (pv 1) pe_int (fun _ _ => rfl)) (fun _ _ => rfl)) (pe_ix ix_tup (pv 1) pe_int (fun _ _ => rfl)) (nomark _)))) (fun z => (pe_callD D_law_worth (hr.mono (by decide)) (pa_cons (pv 6) (pa_cons (pv 3) pa_nil)))) rfl rfl (names_ok (N := ["found", "row", "families", "costs", "low", "worths"]) (by decide +kernel)) rfl)
      (pss_cons (ps_if (pt_cmpR (op_eqNil hu0) (pv 5) (pe_lst pa_nil) (nomark _))
      (pss_one (ps_ret (pe_cmpR op_isN (pv 0) pe_non (nomark _))))
      pss_nil)
      (pss_one (ps_ret (pe_and (pe_callD D_law_whole (hr.mono (by decide)) (pa_cons (pv 0) pa_nil)) (pe_one (pe_cmpR op_eq (pv 0) (pe_op op_sub (pe_callB (call_minI rfl) (by rfl) T.n_min L2.boot_min (pa_cons (pv 5) pa_nil)) (pv 4)) (nomark _)))))))), ?_⟩
    try clear hu
    try clear hu0
    try clear hu64
    try dsimp only [cxOf, cxComp, Cx.nox]
    walk_at "s"
    refine ⟨lf, rfl, ⟨_, SqL.of hlf⟩, ?_⟩
    refine comp_list (xs := fs) (fun e k σ H' => LackK br lf dd (optV (lackF n cs ee.1.1 ee.1.2)) low n cs ee H e k σ H') ?_ ?_ ?_ ?_
    · intro e he
      exact ⟨none, rfl, same_upd he, upd_same⟩
    · rintro e k σ H' he hk ⟨w1, rfl, sm, _⟩
      exact SqL.of (sm _ _ hlf)
    · rintro e z k x σ H' he hx ⟨w1, rfl, sm, hzs⟩
      obtain ⟨b, fm, rfl, hfm, hb, _⟩ := fr.get hx
      have fam := (mem_all n1).mp (List.mem_of_getElem? hfm)
      have sh := fam.shape
      have hkl : k < fs.length := (List.getElem?_eq_some_iff.mp hx).1
      have hat := sh.at t1 k4
      have hat' : atI (fm.map optV) ee.1.2 = some (V.int (parF fm ee.1.2)) := by
        have := atI_nat hat
        rwa [Int.toNat_of_nonneg (by lia)] at this
      have et : ((allF n cs).take (k + 1)).filter (fun f => decide (parF f ee.1.2 = ee.1.1)) = ((allF n cs).take k).filter (fun f => decide (parF f ee.1.2 = ee.1.1)) ++ if parF fm ee.1.2 = ee.1.1 then [fm] else [] := by
        rw [List.take_add_one, hfm, List.filter_append]
        congr 1
        by_cases h : parF fm ee.1.2 = ee.1.1
        · simp [h]
        · simp [h]
      walk_at "s"
      refine ⟨br, _, 1, _, rfl, rfl, SqT.of (sm _ _ hbr), atI_nat (j := 1) rfl, ?_⟩
      walk_at "s"
      refine ⟨b, _, _, _, rfl, rfl, SqL.of (sm _ _ hb), hat', ?_⟩
      walk_at "s"
      refine ⟨br, _, 0, _, rfl, rfl, SqT.of (sm _ _ hbr), atI_nat (j := 0) rfl, ?_⟩
      walk_at "s"
      by_cases hp : parF fm ee.1.2 = ee.1.1
      · rw [if_pos hp] at et
        refine w_pos hp ?_
        walk_at "s"
        refine ⟨b, dd, fm, cs, n, rfl, sm _ _ hb, sm _ _ hdd, n1, by lia, sh, fun H8 S8 => ?_⟩
        refine ⟨_, S8 _ _ hzs, ?_, _, rfl, fun c o h => ?_, ?_⟩
        · rw [sizeLine_eq, List.length_map, List.length_map]
          have h1 := List.length_filter_le (fun f => decide (parF f ee.1.2 = ee.1.1)) ((allF n cs).take k)
          rw [List.length_take] at h1
          have h2 : (allF n cs).length ≤ (buildF cs (n - 1)).length := List.length_filter_le ..
          have h3 := build_len c16 (n - 1)
          have h16 : 16 ^ (n - 1) ≤ 16 ^ 3 := Nat.pow_le_pow_right (by decide) (by lia)
          lia
        · rw [upd_ne (ne_of_none h he)]
          exact S8 _ _ (sm _ _ h)
        · rw [upd_same, et, List.map_append, List.map_append]
          rfl
      · rw [if_neg hp, List.append_nil] at et
        refine w_neg hp ?_
        walk_at "s"
        exact ⟨_, rfl, sm, by rw [et]; exact hzs⟩
    · rintro e σ H' he ⟨w1, rfl, sm, hzs⟩
      rw [hfs, List.take_length] at hzs
      walk_at "s"
      refine ⟨Nat.zero_le _, fun z hz => ?_⟩
      have S3 := same_upd (o := .lst []) hz
      refine ⟨e, z, _, rfl, rfl, SqL.of (S3 _ _ hzs), SqL.of upd_same, ?_⟩
      rw [if_neg Bool.false_ne_true]
      have hzs3 := S3 _ _ hzs
      have sm3 := sm.trans S3
      generalize upd H' z (.lst []) = H3 at S3 hzs3 sm3
      have q3 := q _ sm3
      by_cases hnil : ((allF n cs).filter fun f => decide (parF f ee.1.2 = ee.1.1)) = []
      · rw [hnil]
        rw [lack_no (lack_all_no n1 ho t1 k4 hnil)]
        walk_at "s"
        refine w_is rfl ?_
        walk_at "s"
        exact q3
      · obtain ⟨f0, hf0⟩ := List.exists_mem_of_ne_nil _ hnil
        obtain ⟨hf1, hf2⟩ := List.mem_filter.mp hf0
        have ff := (mem_all n1).mp hf1
        have ho' : HsOk n (withOnly cs ee.1.1 ee.1.2) := ho.filter _
        obtain ⟨h, hh⟩ : ∃ h, lwF n (withOnly cs ee.1.1 ee.1.2) = some h := by
          cases e9 : lwF n (withOnly cs ee.1.1 ee.1.2) with
          | none => exact (lw_no ho' e9 ((fam_only t1 k4).mpr ⟨ff.fp, of_decide_eq_true hf2⟩)).elim
          | some h => exact ⟨h, rfl⟩
        obtain ⟨m, hm1, hm2, _⟩ := lack_some n1 ho hh
        rw [hlow] at hm1
        cases hm1
        rw [hm2, show optV (some (h - low)) = V.int (h - low) from rfl]
        have hne : ((((allF n cs).filter fun f => decide (parF f ee.1.2 = ee.1.1)).map (wF n cs)).map V.int).isEmpty = false := by
          cases e9 : (allF n cs).filter fun f => decide (parF f ee.1.2 = ee.1.1) with
          | nil => exact absurd e9 hnil
          | cons _ _ => rfl
        rw [hne]
        walk_at "s"
        refine ⟨_, rfl, ?_⟩
        walk_at "s"
        refine ⟨e, _, rfl, SqL.of hzs3, by simpa using hnil, fun M hM1 hM2 => ?_⟩
        have hMh : M = h := by
          have := lack_all n1 ho t1 k4 hM1 hM2
          rw [hh] at this
          exact (Option.some.inj this).symm
        subst hMh
        walk_at "s"
        rw [decide_eq_true rfl]
        exact q3
end
inductive sp_rest (vs : List V) (H : Hp) (Q : VK) (E : XK) : Prop
  | mk (b : Addr) (f : Fam) (cs : Cs) (n : Nat) (h09 : vs = [.ref b]) (h19 : H b = some (.lst (f.map optV))) (h29 : FamShape n cs f) (h39 : 1 ≤ n) (h49 : ∀ (l' : Addr) (H' : Hp), Same H H' → H l' = none → H' l' = some (.lst (((others n).map (parF f)).map V.int)) → Q (.ref l') H') : sp_rest vs H Q E
section
variable {P : Program} {w : World} {K : PySem.W.Frag} {mg : Str → Option Value} {base : Heap} {C : Addr}
theorem sc_law_rest : FnScope ["family"] ["family"] (defScope s_law_rest) := ⟨rfl, rfl, rfl, by decide +kernel, rfl, by decide +kernel, by decide +kernel⟩
theorem bi_law_rest : BindOk "_law_rest" "_law_rest" s_law_rest ["family"] := fun _ _ _ _ _ _ us hl => by
  obtain ⟨_, rfl⟩ := len1D hl
  rfl
theorem d_rest (F : FunAt K mg "_law_rest" "_law_rest" s_law_rest) (T : Txt K mg C) : Def P w K mg base 1 "_law_rest" ["family"] sp_rest := by
  refine F.def sc_law_rest bi_law_rest (fun vs H Q E h => ?_) (fun f cdv A outer s H vs Q E hr h => ?_)
  · obtain ⟨b, f, cs, n, rfl, _⟩ := h
    rfl
  · obtain ⟨b, fm, cs, n, rfl, hb, sh, n1, q⟩ := h
    have hu := hu_of hr
    have t1 := fam_tail sh n1
    refine ⟨_, (pss_one (ps_ret (pe_slice sl_list (pv 0) (po_some pe_int) po_none))), ?_⟩
    try clear hu
    try clear hu0
    try clear hu64
    try dsimp only [cxOf, cxComp, Cx.nox]
    walk_at "s"
    refine ⟨b, _, rfl, SqL.of hb, fun l' hl' => ?_⟩
    rw [t1]
    exact q l' _ (same_upd hl') hl' upd_same
end
section
variable {P : Program} {w : World} {K : PySem.W.Frag} {mg : Str → Option Value} {base : Heap} {C : Addr}
theorem sc_law_pairs : FnScope ["found", "due", "pair"] ["found", "due"] (defScope s_law_pairs) := ⟨rfl, rfl, rfl, by decide +kernel, rfl, by decide +kernel, by decide +kernel⟩
theorem bi_law_pairs : BindOk "_law_pairs" "_law_pairs" s_law_pairs ["found", "due"] := fun _ _ _ _ _ _ us hl => by
  obtain ⟨_, _, rfl⟩ := len2D hl
  rfl
theorem d_pairs (F : FunAt K mg "_law_pairs" "_law_pairs" s_law_pairs) (T : Txt K mg C) (D_law_whole : Def P w K mg base 1 "_law_whole" ["found"] sp_whole) : Def P w K mg base 2 "_law_pairs" ["found", "due"] sp_pairs := by
  refine F.def sc_law_pairs bi_law_pairs (fun vs H Q E h => ?_) (fun f cdv A outer s H vs Q E hr h => ?_)
  · obtain ⟨l, m, rs, ss, ps, rfl, _⟩ := h
    rfl
  · obtain ⟨l, m, rs, ss, ps, rfl, hl, hm, tr, ts, q⟩ := h
    have hu64 := hr.units
    refine ⟨_, (pss_cons (ps_if (PW.pt (pw_or (pt_not (pt_val (pe_callB call_isi (by rfl) T.n_isinstance L2.boot_isinstance (pa_cons (pv 0) (pa_cons (pe_bltn (v := V.ty "list") rfl T.n_list L2.boot_list rfl) pa_nil))))) (pw_or1 (pt_cmpR op_ne (pe_callB call_len_seq (by rfl) T.n_len L2.boot_len (pa_cons (pv 0) pa_nil)) (pe_callB call_len_seq (by rfl) T.n_len L2.boot_len (pa_cons (pv 1) pa_nil)) (nomark _)))))
      (pss_one (ps_ret pe_bl))
      pss_nil)
      (pss_cons (ps_for PassesOwn.never rfl (pi_list (pv 0)) (pg_name (i := 2) sc_law_pairs.nd rfl (Or.inl rfl))
      (pss_one (ps_if (PW.pt (pw_or (pt_not (pt_val (pe_callB call_isi (by rfl) T.n_isinstance L2.boot_isinstance (pa_cons (pv 2) (pa_cons (pe_bltn (v := V.ty "tuple") rfl T.n_tuple L2.boot_tuple rfl) pa_nil))))) (pw_or (pt_cmpR op_ne (pe_callB call_len_seq (by rfl) T.n_len L2.boot_len (pa_cons (pv 2) pa_nil)) pe_int (nomark _)) (pw_or (pt_not (pt_val (pe_callD D_law_whole (hr.mono (by decide)) (pa_cons (pe_ix ix_tup (pv 2) pe_int (fun _ _ => rfl)) pa_nil)))) (pw_or1 (pt_not (pt_val (pe_callD D_law_whole (hr.mono (by decide)) (pa_cons (pe_ix ix_tup (pv 2) pe_int (fun _ _ => rfl)) pa_nil)))))))))
      (pss_one (ps_ret pe_bl))
      pss_nil)))
      (pss_one (ps_ret (pe_cmpR (op_eqD hu64) (pv 0) (pv 1) (nomark _)))))), ?_⟩
    try clear hu
    try clear hu0
    try clear hu64
    try dsimp only [cxOf, cxComp, Cx.nox]
    walk_at "s"
    refine ⟨_, _, _, _, rfl, .lst hl, isi_list_list, ?_⟩
    walk_at "s"
    refine ⟨l, _, rfl, .inl (SqL.of hl), ?_⟩
    walk_at "s"
    refine ⟨m, _, rfl, .inl (SqL.of hm), ?_⟩
    rw [tr.length, ts.length]
    walk_at "s"
    refine w_npos rfl ?_
    walk_at "s"
    refine ⟨l, rfl, ⟨_, SqL.of hl⟩, for_list (xs := rs) (fun i σ H' => ∃ o, σ = [some (.ref l), some (.ref m), o] ∧ H' = H) ⟨none, rfl, rfl⟩ (fun i σ H' _ hh9 => by obtain ⟨_, _, e⟩ := hh9; rw [e]; exact SqL.of hl) ?_ ?_⟩
    · rintro i y σ H2 hy ⟨o, rfl, rfl⟩
      obtain ⟨b, ks, rfl, hks, hb⟩ := tr.get hy
      rw [List.getElem?_map] at hks
      cases he : ps[i]? with
      | none => rw [he] at hks; cases hks
      | some e =>
        rw [he] at hks
        obtain rfl := Option.some.inj hks
        have hb2 : H2 b = some (.tup [.int e.1, .int e.2]) := hb
        walk_at "s"
        refine ⟨_, _, _, _, rfl, .tup hb2, isi_tuple_tuple, ?_⟩
        walk_at "s"
        refine ⟨b, _, rfl, .inr (SqT.of hb2), ?_⟩
        walk_at "s"
        refine w_npos rfl ?_
        walk_at "s"
        refine ⟨b, _, 0, _, rfl, rfl, SqT.of hb2, atI_nat (j := 0) rfl, ?_⟩
        walk_at "s"
        refine ⟨_, rfl, ?_⟩
        walk_at "s"
        refine ⟨b, _, 1, _, rfl, rfl, SqT.of hb2, atI_nat (j := 1) rfl, ?_⟩
        walk_at "s"
        refine ⟨_, rfl, ?_⟩
        walk_at "s"
        exact ⟨_, rfl, rfl⟩
    · rintro σ H2 ⟨o, rfl, rfl⟩
      walk_at "s"
      exact w_sameRows hl hm tr ts q
end
inductive WthK (a l dd p lf : Addr) (n : Nat) (cs : Cs) (H : Hp) (e : Addr) (k : Nat) (σ : St) (H' : Hp) : Prop
  | mk (w1 : Option V) (es : σ = [some (.ref a), some (.int n), some (.ref l), some (.ref dd), some (.ref p), some (.ref lf), none, none, none, none, none, none, none, none, w1]) (h1 : Same H H') (h2 : H' e = some (.lst ((((allF n cs).take k).map (wF n cs)).map V.int))) : WthK a l dd p lf n cs H e k σ H'
inductive GoodK (a l dd p lf : Addr) (n : Nat) (cs : Cs) (low : Int) (H : Hp) (e : Addr) (k : Nat) (σ : St) (H' : Hp) : Prop
  | mk (zs : List V) (w1 : Option V) (es : σ = [some (.ref a), some (.int n), some (.ref l), some (.ref dd), some (.ref p), some (.ref lf), some (.int low), none, none, none, none, none, none, none, w1]) (h1 : Same H H') (h2 : H' e = some (.lst zs)) (h3 : FamRefs (fun c => c ≠ e) H' zs (((allF n cs).take k).filter fun f => decide (wF n cs f = low))) (h4 : zs.length ≤ k) : GoodK a l dd p lf n cs low H e k σ H'
inductive TurnI (a l dd p lf lg : Addr) (n : Nat) (low : Int) (H : Hp) (i : Nat) (σ : St) (H' : Hp) : Prop
  | mk (o8 o9 o10 : Option V) (es : σ = [some (.ref a), some (.int n), some (.ref l), some (.ref dd), some (.ref p), some (.ref lf), some (.int low), some (.ref lg), o8, o9, o10, none, none, none]) (h1 : Same H H') : TurnI a l dd p lf lg n low H i σ H'
noncomputable def hasN (n : Nat) (cs : Cs) (low : Int) (e : Pr × Int) : Nat := ((goodF n cs low).filter fun f => decide (parF f e.1.2 = e.1.1)).length
inductive PairI (a l dd p lf lg ls le : Addr) (n : Nat) (cs : Cs) (low : Int) (H : Hp) (i : Nat) (σ : St) (H' : Hp) : Prop
  | mk (o8 o9 o10 o13 : Option V) (ss es : List V) (e : σ = [some (.ref a), some (.int n), some (.ref l), some (.ref dd), some (.ref p), some (.ref lf), some (.int low), some (.ref lg), o8, o9, o10, some (.ref ls), some (.ref le), o13]) (h1 : Same H H') (h2 : H' ls = some (.lst ss)) (h3 : H' le = some (.lst es)) (h4 : TupRefs H' ss ((((cs.take i).filter fun e => decide (0 < hasN n cs low e)).map (·.1)).map two)) (h5 : TupRefs H' es ((((cs.take i).filter fun e => decide (hasN n cs low e = (goodF n cs low).length)).map (·.1)).map two)) (h6 : ss.length ≤ i) (h7 : es.length ≤ i) : PairI a l dd p lf lg ls le n cs low H i σ H'
inductive HavK (a l dd p lf lg ls le br : Addr) (n : Nat) (cs : Cs) (low : Int) (ee : Pr × Int) (o8 o9 o13 : Option V) (H : Hp) (e : Addr) (k : Nat) (σ : St) (H' : Hp) : Prop
  | mk (zs : List V) (w1 : Option V) (es : σ = [some (.ref a), some (.int n), some (.ref l), some (.ref dd), some (.ref p), some (.ref lf), some (.int low), some (.ref lg), o8, o9, some (.ref br), some (.ref ls), some (.ref le), o13, w1]) (h1 : Same H H') (h2 : H' e = some (.lst zs)) (h3 : zs.length = (((goodF n cs low).take k).filter fun f => decide (parF f ee.1.2 = ee.1.1)).length) (h4 : zs.length ≤ k) : HavK a l dd p lf lg ls le br n cs low ee o8 o9 o13 H e k σ H'
inductive SomeJ (lg ls le lh br : Addr) (bs : List Addr) (n : Nat) (cs : Cs) (low : Int) (ee : Pr × Int) (es zs : List V) (i : Nat) (H HC : Hp) : Prop
  | mk (ss : List V) (h1 : Same H HC) (h2 : HC ls = some (.lst ss)) (h3 : HC le = some (.lst es)) (h4 : HC lh = some (.lst zs)) (h5 : HC lg = some (.lst (bs.map V.ref))) (h6 : HC br = some (.tup [.int ee.1.1, .int ee.1.2, .int ee.2])) (h7 : TupRefs HC ss ((((cs.take (i + 1)).filter fun e => decide (0 < hasN n cs low e)).map (·.1)).map two)) (h8 : TupRefs HC es ((((cs.take i).filter fun e => decide (hasN n cs low e = (goodF n cs low).length)).map (·.1)).map two)) (h9 : ss.length ≤ i + 1) : SomeJ lg ls le lh br bs n cs low ee es zs i H HC
theorem all_len {n : Nat} {cs : Cs} (c16 : cs.length ≤ 16) (n4 : n ≤ 4) : (allF n cs).length ≤ 4096 := by
  have h2 : (allF n cs).length ≤ (buildF cs (n - 1)).length := List.length_filter_le ..
  have h3 := build_len c16 (n - 1)
  have h16 : 16 ^ (n - 1) ≤ 16 ^ 3 := Nat.pow_le_pow_right (by decide) (by lia)
  lia
theorem refs_of {N : Addr → Prop} {H : Hp} {vs : List V} {fs : List Fam} (x : FamRefs N H vs fs) : ∃ bs : List Addr, vs = bs.map V.ref := by
  unfold FamRefs at x
  induction x with
  | nil => exact ⟨[], rfl⟩
  | cons h t ih =>
    obtain ⟨b, rfl, _⟩ := h
    obtain ⟨bs, rfl⟩ := ih
    exact ⟨b :: bs, rfl⟩
section
variable {P : Program} {w : World} {K : PySem.W.Frag} {mg : Str → Option Value} {base : Heap} {C C1 : Addr} {xa : Ex → Addr}
theorem sc_law : FnScope ["script", "many", "rows", "costs", "book", "families", "low", "good", "turn", "told", "row", "some", "every", "having"] ["script"] (defScope s_law) := ⟨rfl, rfl, rfl, by decide +kernel, rfl, by decide +kernel, by decide +kernel⟩
theorem law_body (T : Txt K mg C) (D_law_cell_at : Def P w K mg base 1 "_law_cell_at" ["script", "k"] (sp_cell K)) (D_law_rows : Def P w K mg base 2 "_law_rows" ["script", "many"] (sp_rows K)) (D_law_costs : Def P w K mg base 1 "_law_costs" ["rows"] sp_costs)
    (D_law_book : Def P w K mg base 3 "_law_book" ["many", "rows"] (sp_bookL C)) (D_law_all : Def P w K mg base 3 "_law_all" ["rows", "many"] sp_all) (D_law_worth : Def P w K mg base 1 "_law_worth" ["family", "costs"] sp_worth) (D_law_rest : Def P w K mg base 1 "_law_rest" ["family"] sp_rest)
    (D_law_lack_is : Def P w K mg base 2 "_law_lack_is" ["found", "row", "families", "costs", "low"] sp_lackis) (D_law_pairs : Def P w K mg base 2 "_law_pairs" ["found", "due"] sp_pairs) (D_judged : Def P w K mg base 4 "judged" ["book"] (sp_judged C)) (D_least : Def P w K mg base 5 "least" ["book"] (sp_leastB C))
    (D_first : Def P w K mg base 6 "first" ["book"] (sp_first C)) (D_lack : Def P w K mg base 6 "lack" ["book", "one", "other"] (sp_lack C)) (D_free : Def P w K mg base 6 "free" ["book"] (sp_free C)) (D_bound : Def P w K mg base 7 "bound" ["book"] (sp_bound C)) :
    BodyOk P w K mg base "law" s_law ["script", "many", "rows", "costs", "book", "families", "low", "good", "turn", "told", "row", "some", "every", "having"] 7 (spLaw K) := by
  intro f cdv A outer s0 H vs Q E hr h
  obtain ⟨a, ns, rfl, hS, hlen, q⟩ := h
  have hu64 := hr.units
  have hu0 := hr.units0
  have hu := hu_of hr
  refine ⟨_, (pss_cons (ps_set (i := 1) sc_law.nd rfl (Or.inl rfl) (pe_op op_add pe_int (pe_op op_mod (pe_callD D_law_cell_at (hr.mono (by decide)) (pa_cons (pv 0) (pa_cons pe_int pa_nil))) pe_int)))
      (pss_cons (ps_set (i := 2) sc_law.nd rfl (Or.inl rfl) (pe_callD D_law_rows (hr.mono (by decide)) (pa_cons (pv 0) (pa_cons (pv 1) pa_nil))))
      (pss_cons (ps_set (i := 3) sc_law.nd rfl (Or.inr rfl) (pe_callD D_law_costs (hr.mono (by decide)) (pa_cons (pv 2) pa_nil)))
      (pss_cons (ps_set (i := 4) sc_law.nd rfl (Or.inl rfl) (pe_callD D_law_book (hr.mono (by decide)) (pa_cons (pv 1) (pa_cons (pv 2) pa_nil))))
      (pss_cons (ps_set (i := 5) sc_law.nd rfl (Or.inl rfl) (pe_callD D_law_all (hr.mono (by decide)) (pa_cons (pv 2) (pa_cons (pv 1) pa_nil))))
      (pss_cons (ps_if (pt_cmpR (op_eqNil hu0) (pv 5) (pe_lst pa_nil) (nomark _))
      (pss_one (ps_ret (pe_and (pe_cmpR op_isN (pe_callD D_least (hr.mono (by decide)) (pa_cons (pv 4) pa_nil)) pe_non (nomark _)) (pe_and (pe_cmpR op_isN (pe_callD D_first (hr.mono (by decide)) (pa_cons (pv 4) pa_nil)) pe_non (nomark _)) (pe_one (pe_cmpR op_eq (pe_ix ix_tup (pe_callD D_judged (hr.mono (by decide)) (pa_cons (pv 4) pa_nil)) pe_int (fun _ _ => rfl)) pe_str (nomark _)))))))
      pss_nil)
      (pss_cons (ps_set (i := 6) sc_law.nd rfl (Or.inr rfl) (pe_callB (call_minI rfl) (by rfl) T.n_min L2.boot_min (pa_cons (pe_comp (N' := ["#script", "#many", "#rows", "costs", "#book", "#families", "#low", "#good", "#turn", "#told", "#row", "#some", "#every", "#having", "family"]) (n0 := 1) (osc := defScope s_law) (pi_list (pv 5)) (fun z => (pg_name (i := 14) (show (["#script", "#many", "#rows", "costs", "#book", "#families", "#low", "#good", "#turn", "#told", "#row", "#some", "#every", "#having", "family"] : List Str).Nodup by decide +kernel) rfl (Or.inl rfl))) (fun z => pif_nil) (fun z => (pe_callD D_law_worth (hr.mono (by decide)) (pa_cons (pv 14) (pa_cons (pv 3) pa_nil)))) rfl rfl (names_ok (N := ["script", "many", "rows", "costs", "book", "families", "low", "good", "turn", "told", "row", "some", "every", "having"]) (by decide +kernel)) rfl) pa_nil)))
      (pss_cons (ps_setComp (i := 7) sc_law.nd rfl (Or.inl rfl) (N' := ["#script", "#many", "#rows", "costs", "#book", "#families", "low", "#good", "#turn", "#told", "#row", "#some", "#every", "#having", "family"]) (n0 := 1) (osc := defScope s_law) (pi_list (pv 5)) (fun z => (pg_name (i := 14) (show (["#script", "#many", "#rows", "costs", "#book", "#families", "low", "#good", "#turn", "#told", "#row", "#some", "#every", "#having", "family"] : List Str).Nodup by decide +kernel) rfl (Or.inl rfl))) (fun z => (pif_one (pt_cmpR op_eq (pe_callD D_law_worth (hr.mono (by decide)) (pa_cons (pv 14) (pa_cons (pv 3) pa_nil))) (pv 6) (nomark _)))) (fun z => (pv 14)) rfl rfl (names_ok (N := ["script", "many", "rows", "costs", "book", "families", "low", "good", "turn", "told", "row", "some", "every", "having"]) (by decide +kernel)) rfl)
      (pss_cons (ps_for PassesOwn.never rfl (pi_range1 rfl T.n_range (pa_cons pe_int pa_nil)) (pg_name (i := 8) sc_law.nd rfl (Or.inl rfl))
      (pss_cons (ps_set (i := 9) sc_law.nd rfl (Or.inl rfl) (pe_callD D_first (hr.mono (by decide)) (pa_cons (pv 4) pa_nil)))
      (pss_cons (ps_if (PW.pt (pw_or (pt_cmpR op_ne (pe_callD D_least (hr.mono (by decide)) (pa_cons (pv 4) pa_nil)) (pv 6) (nomark _)) (pw_or1 (pt_cmpR (op_neD hu64) (pv 9) (pe_minKey rfl (by rfl) T.n_min D_law_rest (hr.mono (by decide)) (by rfl) (pa_cons (pv 7) pa_nil)) (nomark _)))))
      (pss_one (ps_ret pe_bl))
      pss_nil)
      (pss_one (ps_expr (pe_bm PySem.F.plainAttrs_list PySem.F.slot_list_append PySem.F.type_list_append mt_append (pv 9) (pa_cons pe_int pa_nil)))))))
      (pss_cons (ps_for PassesOwn.never rfl (pi_list (pv 2)) (pg_name (i := 10) sc_law.nd rfl (Or.inr rfl))
      (pss_one (ps_if (pt_not (pt_val (pe_callD D_law_lack_is (hr.mono (by decide)) (pa_cons (pe_callD D_lack (hr.mono (by decide)) (pa_cons (pv 4) (pa_cons (pe_ix ix_tup (pv 10) pe_int (fun _ _ => rfl)) (pa_cons (pe_ix ix_tup (pv 10) pe_int (fun _ _ => rfl)) pa_nil)))) (pa_cons (pv 10) (pa_cons (pv 5) (pa_cons (pv 3) (pa_cons (pv 6) pa_nil))))))))
      (pss_one (ps_ret pe_bl))
      pss_nil)))
      (pss_cons (ps_set (i := 11) sc_law.nd rfl (Or.inl rfl) (pe_lst pa_nil))
      (pss_cons (ps_set (i := 12) sc_law.nd rfl (Or.inl rfl) (pe_lst pa_nil))
      (pss_cons (ps_for PassesOwn.never rfl (pi_list (pv 2)) (pg_name (i := 10) sc_law.nd rfl (Or.inr rfl))
      (pss_cons (ps_setComp (i := 13) sc_law.nd rfl (Or.inl rfl) (N' := ["#script", "#many", "#rows", "#costs", "#book", "#families", "#low", "#good", "#turn", "#told", "row", "#some", "#every", "#having", "family"]) (n0 := 1) (osc := defScope s_law) (pi_list (pv 7)) (fun z => (pg_name (i := 14) (show (["#script", "#many", "#rows", "#costs", "#book", "#families", "#low", "#good", "#turn", "#told", "row", "#some", "#every", "#having", "family"] : List Str).Nodup by decide +kernel) rfl (Or.inl rfl))) (fun z => (pif_one (pt_cmpR op_eq (pe_ix ix_list (pv 14) (pe_ix ix_tup (pv 10) pe_int (fun _ _ => rfl)) (fun _ _ => rfl)) (pe_ix ix_tup (pv 10) pe_int (fun _ _ => rfl)) (nomark _)))) (fun z => (pv 14)) rfl rfl (names_ok (N := ["script", "many", "rows", "costs", "book", "families", "low", "good", "turn", "told", "row", "some", "every", "having"]) (by decide +kernel)) rfl)
      (pss_cons (ps_if (pt_cmpR op_gt (pe_callB call_len_seq (by rfl) T.n_len L2.boot_len (pa_cons (pv 13) pa_nil)) pe_int (nomark _))
      (pss_one (ps_expr (pe_bm PySem.F.plainAttrs_list PySem.F.slot_list_append PySem.F.type_list_append mt_append (pv 11) (pa_cons (pe_tup (pa_cons (pe_ix ix_tup (pv 10) pe_int (fun _ _ => rfl)) (pa_cons (pe_ix ix_tup (pv 10) pe_int (fun _ _ => rfl)) pa_nil))) pa_nil))))
      pss_nil)
      (pss_one (ps_if (pt_cmpR op_eq (pe_callB call_len_seq (by rfl) T.n_len L2.boot_len (pa_cons (pv 13) pa_nil)) (pe_callB call_len_seq (by rfl) T.n_len L2.boot_len (pa_cons (pv 7) pa_nil)) (nomark _))
      (pss_one (ps_expr (pe_bm PySem.F.plainAttrs_list PySem.F.slot_list_append PySem.F.type_list_append mt_append (pv 12) (pa_cons (pe_tup (pa_cons (pe_ix ix_tup (pv 10) pe_int (fun _ _ => rfl)) (pa_cons (pe_ix ix_tup (pv 10) pe_int (fun _ _ => rfl)) pa_nil))) pa_nil))))
      pss_nil)))))
      (pss_one (ps_ret (pe_and (pe_callD D_law_pairs (hr.mono (by decide)) (pa_cons (pe_callD D_free (hr.mono (by decide)) (pa_cons (pv 4) pa_nil)) (pa_cons (pv 11) pa_nil))) (pe_one (pe_callD D_law_pairs (hr.mono (by decide)) (pa_cons (pe_callD D_bound (hr.mono (by decide)) (pa_cons (pv 4) pa_nil)) (pa_cons (pv 12) pa_nil)))))))))))))))))))), ?_⟩
  try clear hu
  try clear hu0
  try clear hu64
  try dsimp only [cxOf, cxComp, Cx.nox]
  walk_at "s"
  refine ⟨a, ns, 0, rfl, hS, hlen, by decide, ?_⟩
  obtain ⟨n, hn⟩ : ∃ n : Nat, 1 + cellF ns 0 % 4 = n := ⟨(1 + cellF ns 0 % 4).toNat, by lia⟩
  have hn1 : 1 ≤ n ∧ n ≤ 4 := by lia
  have n1 : 1 ≤ n := by lia
  have n4 : n ≤ 4 := by lia
  have n12 : n ≤ 12 := by lia
  have n1i : (1 : Int) ≤ n := by lia
  have n12i : (n : Int) ≤ 12 := by lia
  walk_at "s"
  rw [hn]
  refine ⟨a, ns, n, rfl, hS, hlen, n1i, n12i, fun l rs cs H1 S1 hl0 hl tr R => ?_⟩
  have ok := R.bk
  have ho := ok.hs
  have hRl := R.len
  have lenr : rs.length = cs.length := by rw [tr.length, List.length_map]
  have c16 : cs.length ≤ 16 := Nat.le_trans (keys_few R.nd R.ok) (Nat.mul_le_mul hn1.2 hn1.2)
  walk_at "s"
  refine ⟨l, rs, cs, rfl, hl, tr, R.nd, by lia, fun dd H2 S2 hdd0 hdd => ?_⟩
  walk_at "s"
  refine ⟨l, rs, n, cs, rfl, S2 _ _ hl, tr.same S2, R.good, n1i, n12i, Nat.le_trans R.len (by decide), fun p d H3 S3 hp hd B3 => ?_⟩
  walk_at "s"
  refine ⟨l, rs, cs, n, rfl, S3 _ _ (S2 _ _ hl), (tr.same S2).same S3, R, c16, n1, n4, fun lf fs H4 S4 hlf0 hlf fr0 => ?_⟩
  have S14 := (S2.trans S3).trans S4
  have hl4 := S14 _ _ hl
  have tr4 := tr.same S14
  have hdd4 := (S3.trans S4) _ _ hdd
  have B4 := B3.same S4
  have fr4 : FamRefs (fun _ => True) H4 fs (allF n cs) := fr0.imp fun _ _ _ _ => trivial
  have hfs := fr4.length
  have hal := all_len c16 n4
  walk_at "s"
  refine ⟨Nat.zero_le _, fun z hz => ?_⟩
  have S5 := same_upd (o := .lst []) hz
  refine ⟨lf, z, _, rfl, rfl, SqL.of (S5 _ _ hlf), SqL.of upd_same, ?_⟩
  rw [if_neg Bool.false_ne_true]
  have hl5 := S5 _ _ hl4
  have tr5 := tr4.same S5
  have hdd5 := S5 _ _ hdd4
  have B5 := B4.same S5
  have fr5 := fr4.same S5
  have hlf5 := S5 _ _ hlf
  generalize upd H4 z (.lst []) = H5 at S5 hl5 tr5 hdd5 B5 fr5 hlf5
  by_cases hnil : allF n cs = []
  · have lwn : lwF n cs = none := (all_nil n1 ho).mp hnil
    have fnil : fs = [] := List.eq_nil_of_length_eq_zero (by rw [hfs, hnil]; rfl)
    rw [fnil]
    walk_at "s"
    refine w_is rfl ?_
    walk_at "s"
    refine ⟨p, d, n, cs, rfl, B5, ok, n1, n12, fun hs H6 S6 so => ?_⟩
    rw [sorted_unique2 so (sorted_self R.rise), lwn]
    have B6 := B5.same S6
    walk_at "s"
    refine w_pos rfl ?_
    walk_at "s"
    refine ⟨p, d, n, cs, rfl, B6, ok, n1, n12, fun hs H7 S7 so _ => ?_, fun hs goal f H7 S7 so h => ?_⟩
    rotate_left
    · rw [sorted_unique2 so (sorted_self R.rise), lwn] at h
      cases h
    have B7 := B6.same S7
    walk_at "s"
    refine w_pos rfl ?_
    walk_at "s"
    refine ⟨p, d, n, cs, rfl, B7, ok, n1, n12, fun hs st g2 t lg2 H8 so pr pi hlo S8 ht0 hl0' ht hlg2 => ?_, fun hs st t f q s qs H8 so pr pi hlo => ?_⟩
    rotate_left
    · rw [sorted_unique2 so (sorted_self R.rise)] at pr
      exact absurd (grown_fam (by lia) ho pr hlo).1.fp ((lw_none_iff (by lia) ho).mp lwn _)
    walk_at "s"
    refine ⟨t, _, 0, _, rfl, rfl, SqT.of ht, atI_nat (j := 0) rfl, ?_⟩
    walk_at "s"
    rw [decide_eq_true rfl]
    exact q _
  have fne : fs.isEmpty = false := by
    cases fs with
    | nil => exact absurd (List.eq_nil_of_length_eq_zero (by rw [← hfs]; rfl)) hnil
    | cons _ _ => rfl
  rw [fne]
  walk_at "s"
  refine ⟨lf, rfl, ⟨_, SqL.of hlf5⟩, ?_⟩
  refine comp_list (xs := fs) (fun e k σ H' => WthK a l dd p lf n cs H5 e k σ H') ?_ ?_ ?_ ?_
  · intro e he
    exact ⟨none, rfl, same_upd he, upd_same⟩
  · rintro e k σ H' he hk ⟨w1, rfl, sm, _⟩
    exact SqL.of (sm _ _ hlf5)
  · rintro e z k x σ H' he hx ⟨w1, rfl, sm, hzs⟩
    obtain ⟨b, fm, rfl, hfm, hb, _⟩ := fr5.get hx
    have sh := ((mem_all n1).mp (List.mem_of_getElem? hfm)).shape
    have hkl : k < fs.length := (List.getElem?_eq_some_iff.mp hx).1
    walk_at "s"
    refine ⟨b, dd, fm, cs, n, rfl, sm _ _ hb, sm _ _ hdd5, n1, n12, sh, fun H8 S8 => ?_⟩
    refine ⟨_, S8 _ _ hzs, ?_, _, rfl, fun c o h => ?_, ?_⟩
    · rw [sizeLine_eq, List.length_map, List.length_map, List.length_take]
      lia
    · rw [upd_ne (ne_of_none h he)]
      exact S8 _ _ (sm _ _ h)
    · rw [upd_same, List.take_add_one, hfm, List.map_append, List.map_append]
      rfl
  rintro lw σ H6 hlw0 ⟨w1, rfl, S6, hlw⟩
  rw [hfs, List.take_length] at hlw
  walk_at "s"
  refine ⟨lw, _, rfl, SqL.of hlw, by simpa using hnil, fun low hM1 hM2 => ?_⟩
  have hlow : lwF n cs = some low := all_least n1 ho hM1 hM2
  have hl6 := S6 _ _ hl5
  have tr6 := tr5.same S6
  have hdd6 := S6 _ _ hdd5
  have B6 := B5.same S6
  have fr6 := fr5.same S6
  have hlf6 := S6 _ _ hlf5
  walk_at "s"
  refine ⟨lf, rfl, ⟨_, SqL.of hlf6⟩, ?_⟩
  refine comp_list (xs := fs) (fun e k σ H' => GoodK a l dd p lf n cs low H6 e k σ H') ?_ ?_ ?_ ?_
  · intro e he
    exact ⟨[], none, rfl, same_upd he, upd_same, .nil, Nat.le_refl _⟩
  · rintro e k σ H' he hk ⟨zs, w1, rfl, sm, _⟩
    exact SqL.of (sm _ _ hlf6)
  · rintro e z k x σ H' he hx ⟨zs, w1, rfl, sm, hzs, fz, hzl⟩
    obtain ⟨b, fm, rfl, hfm, hb, _⟩ := fr6.get hx
    have sh := ((mem_all n1).mp (List.mem_of_getElem? hfm)).shape
    have hkl : k < fs.length := (List.getElem?_eq_some_iff.mp hx).1
    have et : ((allF n cs).take (k + 1)).filter (fun f => decide (wF n cs f = low)) = ((allF n cs).take k).filter (fun f => decide (wF n cs f = low)) ++ if wF n cs fm = low then [fm] else [] := by
      rw [List.take_add_one, hfm, List.filter_append]
      congr 1
      by_cases h : wF n cs fm = low
      · simp [h]
      · simp [h]
    walk_at "s"
    refine ⟨b, dd, fm, cs, n, rfl, sm _ _ hb, sm _ _ hdd6, n1, n12, sh, fun H8 S8 => ?_⟩
    have sm8 := sm.trans S8
    have hzs8 := S8 _ _ hzs
    have nbe : b ≠ e := ne_of_none hb he
    walk_at "s"
    by_cases hw : wF n cs fm = low
    · rw [if_pos hw] at et
      refine w_pos hw ?_
      walk_at "s"
      refine ⟨zs, hzs8, by rw [sizeLine_eq]; lia, zs ++ [.ref b], _, rfl, fun c o h => ?_, upd_same, ?_, by rw [List.length_append, List.length_singleton]; lia⟩
      · rw [upd_ne (ne_of_none h he)]
        exact sm8 _ _ h
      · rw [et]
        exact FamRefs.snoc ((fz.same S8).upd fun c h => h) ((upd_ne nbe).trans (sm8 _ _ hb)) nbe
    · rw [if_neg hw, List.append_nil] at et
      refine w_neg hw ?_
      walk_at "s"
      exact ⟨zs, _, rfl, sm8, hzs8, by rw [et]; exact fz.same S8, by lia⟩
  rintro lg σ H7 hlg0 ⟨gs, w1, rfl, S7, hlg, fg0, hgl⟩
  rw [hfs, List.take_length] at fg0
  have fg : FamRefs (fun _ => True) H7 gs (goodF n cs low) := fg0.imp fun _ _ _ _ => trivial
  have hgs := fg.length
  obtain ⟨bs, rfl⟩ := refs_of fg
  have hl7 := S7 _ _ hl6
  have tr7 := tr6.same S7
  have hdd7 := S7 _ _ hdd6
  have B7 := B6.same S7
  have fr7 := fr6.same S7
  have hlf7 := S7 _ _ hlf6
  have fgo := first_good n1 ho R.rise hlow
  have glex := good_lex n1 R.rise low
  have FF := first_fam n1 ho R.rise hlow
  walk_at "s"
  refine ⟨2, rfl, by decide, by decide, for_range (n := 2) (fun i σ H' => TurnI a l dd p lf lg n low H7 i σ H') ⟨none, none, none, rfl, Same.refl _⟩ ?_ ?_⟩
  · rintro i σ H8 hi ⟨o8, o9, o10, rfl, sm⟩
    have B8 := B7.same sm
    walk_at "s"
    refine ⟨p, d, n, cs, rfl, B8, ok, n1, n12, fun hs H9 S9 so h => ?_, fun hs goal f H9 S9 so h hf0 hf => ?_⟩
    · rw [sorted_unique2 so (sorted_self R.rise), hlow] at h
      cases h
    rw [sorted_unique2 so (sorted_self R.rise)] at h hf
    rw [hlow] at h
    obtain rfl := Option.some.inj h
    have B9 := B8.same S9
    walk_at "s"
    refine ⟨p, d, n, cs, rfl, B9, ok, n1, n12, fun hs HA SA so => ?_⟩
    rw [sorted_unique2 so (sorted_self R.rise), hlow, show optV (some low) = V.int low from rfl]
    walk_at "s"
    refine w_npos rfl ?_
    have S7A := (sm.trans S9).trans SA
    have hfA := SA _ _ hf
    have fgA := fg.same S7A
    have hlgA := S7A _ _ hlg
    walk_at "s"
    refine w_minkey ?_
    walk_at "s"
    obtain ⟨b0, hb0⟩ : ∃ b0, bs[0]? = some b0 := by
      cases e9 : bs[0]? with
      | some b0 => exact ⟨b0, rfl⟩
      | none =>
        have h1 := List.getElem?_eq_none_iff.mp e9
        have h2 := (List.getElem?_eq_some_iff.mp fgo).1
        rw [List.length_map] at hgs
        lia
    obtain ⟨b0', f0, eb, hf0', hb0A, _⟩ := fgA.get (i := 0) (y := .ref b0) (by rw [List.getElem?_map, hb0]; rfl)
    obtain rfl := V.ref.inj eb
    rw [fgo] at hf0'
    obtain rfl := Option.some.inj hf0'
    refine ⟨lg, bs, (goodF n cs low).map fun f => (others n).map (parF f), b0, (others n).map (parF (firstF n cs low)), rfl, hlgA, hb0, by rw [List.getElem?_map, fgo]; rfl, by rw [List.length_map, ← hgs, List.length_map], ?_, ?_, fun HB SB => ?_⟩
    · intro ks hks
      obtain ⟨g, hg, rfl⟩ := List.mem_map.mp hks
      refine ⟨by rw [List.length_map, List.length_map], (lex_tails n1 ?_).1⟩
      obtain ⟨g1, g2⟩ := (mem_good n1).mp hg
      exact FF.lex _ g1.fp g2
    · intro j b ks hb hks HB SB
      obtain ⟨b', g, eb, hg, hbA, _⟩ := fgA.get (i := j) (y := .ref b) (by rw [List.getElem?_map, hb]; rfl)
      obtain rfl := V.ref.inj eb
      rw [List.getElem?_map, hg] at hks
      obtain rfl := Option.some.inj hks
      have sh := ((mem_good n1).mp (List.mem_of_getElem? hg)).1.shape
      exact ⟨b, g, cs, n, rfl, SB _ _ hbA, sh, n1, fun l' H' Sm h0 h1 => ⟨l', rfl, Sm, h1⟩⟩
    have hfB := SB _ _ hfA
    refine w_sameD (d := .list ((firstF n cs low).map optD)) (.lst hfB (reps_opts _)) (.lst (SB _ _ hb0A) (reps_opts _)) (lay_opts _) (by show PyData.depthAll _ + 1 ≤ 60; rw [depth_opts]; decide) ?_
    walk_at "s"
    refine ⟨.inl ⟨rfl, _, SqL.of hfB⟩, ?_⟩
    walk_at "s"
    refine ⟨f, _, _, rfl, rfl, hfB, by rw [sizeLine_eq, List.length_map, FF.fam.len]; lia, ?_⟩
    walk_at "s"
    refine ⟨_, _, _, rfl, fun c o h => ?_⟩
    rw [upd_ne (ne_of_none (sm _ _ h) hf0)]
    exact SB _ _ (S7A _ _ h)
  rintro σ H8 ⟨o8, o9, o10, rfl, S8⟩
  have hl8 := S8 _ _ hl7
  have tr8 := tr7.same S8
  have hdd8 := S8 _ _ hdd7
  have B8 := B7.same S8
  have fr8 := fr7.same S8
  have hlf8 := S8 _ _ hlf7
  have fg8 := fg.same S8
  have hlg8 := S8 _ _ hlg
  walk_at "s"
  refine ⟨l, rfl, ⟨_, SqL.of hl8⟩, for_list (xs := rs) (fun i σ H' => TurnI a l dd p lf lg n low H8 i σ H') ⟨o8, o9, o10, rfl, Same.refl _⟩ (fun i σ H' _ hI => by obtain ⟨_, _, _, _, sm⟩ := hI; exact SqL.of (sm _ _ hl8)) ?_ ?_⟩
  · rintro i y σ H9 hy ⟨o8', o9', o10', rfl, sm⟩
    obtain ⟨br, ee, rfl, hee, hbr⟩ := tri_get tr8 hy
    have hbr9 := sm _ _ hbr
    have hem : ee.1 ∈ keysC cs := List.mem_map_of_mem (List.mem_of_getElem? hee)
    walk_at "s"
    refine ⟨br, _, 0, _, rfl, rfl, SqT.of hbr9, atI_nat (j := 0) rfl, ?_⟩
    walk_at "s"
    refine ⟨br, _, 1, _, rfl, rfl, SqT.of hbr9, atI_nat (j := 1) rfl, ?_⟩
    walk_at "s"
    refine ⟨p, d, n, cs, ee.1.1, ee.1.2, rfl, B8.same sm, ok, n1, n12, ok2_refuses (R.ok _ hem), look_isSome hem, fun hs HF SF so => ?_⟩
    rw [sorted_unique2 so (sorted_self R.rise)]
    have S8F := sm.trans SF
    walk_at "s"
    refine ⟨_, br, lf, dd, fs, cs, n, ee, low, rfl, SF _ _ hbr9, S8F _ _ hlf8, fr8.same S8F, S8F _ _ hdd8, ho, List.mem_of_getElem? hee, c16, n1, n4, hlow, fun HG SG => ?_⟩
    walk_at "s"
    exact ⟨_, _, _, rfl, S8F.trans SG⟩
  rintro σ H9 ⟨o8', o9', o10', rfl, S9⟩
  have hl9 := S9 _ _ hl8
  have tr9 := tr8.same S9
  have B9 := B8.same S9
  have fg9 := fg8.same S9
  have hlg9 := S9 _ _ hlg8
  walk_at "s"
  refine ⟨Nat.zero_le _, fun ls hls0 => ?_⟩
  have SA := same_upd (o := .lst []) hls0
  walk_at "s"
  refine ⟨Nat.zero_le _, fun le hle0 => ?_⟩
  have SB := SA.trans (same_upd (o := .lst []) hle0)
  have nls : ls ≠ le := fun z => by rw [← z, upd_same] at hle0; cases hle0
  have hle9 : H9 le = none := SA.free hle0
  have hlsB : upd (upd H9 ls (.lst [])) le (.lst []) ls = some (.lst []) := (upd_ne nls).trans upd_same
  walk_at "s"
  refine ⟨l, rfl, ⟨_, SqL.of (SB _ _ hl9)⟩, for_list (xs := rs) (fun i σ H' => PairI a l dd p lf lg ls le n cs low H9 i σ H') ⟨o8', o9', o10', none, [], [], rfl, SB, hlsB, upd_same, .nil, .nil, Nat.le_refl _, Nat.le_refl _⟩ (fun i σ H' _ hI => by obtain ⟨_, _, _, _, _, _, _, sm, _⟩ := hI; exact SqL.of (sm _ _ hl9)) ?_ ?_⟩
  · rintro i y σ HA hy ⟨o8, o9, o10, o13, ss, es, rfl, sm, hss, hes, trs, tre, hsl, hel⟩
    obtain ⟨br, ee, rfl, hee, hbr⟩ := tri_get tr9 hy
    have hbrA := sm _ _ hbr
    have hil : i < rs.length := (List.getElem?_eq_some_iff.mp hy).1
    have hem : ee.1 ∈ keysC cs := List.mem_map_of_mem (List.mem_of_getElem? hee)
    obtain ⟨_, _, k3, k4, _, k6⟩ := ho.ok ee.1 hem
    have t1 : 1 ≤ ee.1.2 := by lia
    have hlgA := sm _ _ hlg9
    have fgA := fg9.same sm
    walk_at "s"
    refine ⟨lg, rfl, ⟨_, SqL.of hlgA⟩, ?_⟩
    refine comp_list (xs := bs.map V.ref) (fun e k σ H' => HavK a l dd p lf lg ls le br n cs low ee o8 o9 o13 HA e k σ H') ?_ ?_ ?_ ?_
    · intro e he
      exact ⟨[], none, rfl, same_upd he, upd_same, rfl, Nat.le_refl _⟩
    · rintro e k σ H' he hk ⟨zs, w1, rfl, sm2, _⟩
      exact SqL.of (sm2 _ _ hlgA)
    · rintro e z k x σ H' he hx ⟨zs, w1, rfl, sm2, hzs, hzn, hzl⟩
      obtain ⟨b, fm, rfl, hfm, hb, _⟩ := fgA.get hx
      have sh := ((mem_good n1).mp (List.mem_of_getElem? hfm)).1.shape
      have hkl : k < (bs.map V.ref).length := (List.getElem?_eq_some_iff.mp hx).1
      have hat := sh.at t1 k4
      have hat' : atI (fm.map optV) ee.1.2 = some (V.int (parF fm ee.1.2)) := by
        have := atI_nat hat
        rwa [Int.toNat_of_nonneg (by lia)] at this
      have et : ((goodF n cs low).take (k + 1)).filter (fun f => decide (parF f ee.1.2 = ee.1.1)) = ((goodF n cs low).take k).filter (fun f => decide (parF f ee.1.2 = ee.1.1)) ++ if parF fm ee.1.2 = ee.1.1 then [fm] else [] := by
        rw [List.take_add_one, hfm, List.filter_append]
        congr 1
        by_cases h : parF fm ee.1.2 = ee.1.1
        · simp [h]
        · simp [h]
      walk_at "s"
      refine ⟨br, _, 1, _, rfl, rfl, SqT.of (sm2 _ _ hbrA), atI_nat (j := 1) rfl, ?_⟩
      walk_at "s"
      refine ⟨b, _, _, _, rfl, rfl, SqL.of (sm2 _ _ hb), hat', ?_⟩
      walk_at "s"
      refine ⟨br, _, 0, _, rfl, rfl, SqT.of (sm2 _ _ hbrA), atI_nat (j := 0) rfl, ?_⟩
      walk_at "s"
      by_cases hp : parF fm ee.1.2 = ee.1.1
      · rw [if_pos hp] at et
        refine w_pos hp ?_
        walk_at "s"
        refine ⟨zs, hzs, by rw [sizeLine_eq]; rw [hgs] at hkl; have := List.length_filter_le (fun f => decide (wF n cs f = low)) (allF n cs); unfold goodF at hkl; lia, zs ++ [.ref b], _, rfl, fun c o h => ?_, upd_same, by rw [et, List.length_append, List.length_append, hzn]; rfl, by rw [List.length_append, List.length_singleton]; lia⟩
        rw [upd_ne (ne_of_none h he)]
        exact sm2 _ _ h
      · rw [if_neg hp, List.append_nil] at et
        refine w_neg hp ?_
        walk_at "s"
        exact ⟨zs, _, rfl, sm2, hzs, by rw [et]; exact hzn, by lia⟩
    rintro lh σ HB hlh0 ⟨zs, w1, rfl, SB2, hlh, hzn, hzl⟩
    rw [hgs, List.take_length] at hzn
    have hzn' : zs.length = hasN n cs low ee := hzn
    have hglen : (bs.map V.ref).length = (goodF n cs low).length := hgs
    have hssB := SB2 _ _ hss
    have hesB := SB2 _ _ hes
    have trsB := trs.same SB2
    have treB := tre.same SB2
    have hbrB := SB2 _ _ hbrA
    have S9B := sm.trans SB2
    have hlgB := SB2 _ _ hlgA
    have nlh1 : lh ≠ ls := (ne_of_none hss hlh0).symm
    have nlh2 : lh ≠ le := (ne_of_none hes hlh0).symm
    have ets := take_filter_succ (fun e : Pr × Int => decide (0 < hasN n cs low e)) hee
    have ete := take_filter_succ (fun e : Pr × Int => decide (hasN n cs low e = (goodF n cs low).length)) hee
    walk_at "s"
    refine ⟨lh, _, rfl, .inl (SqL.of hlh), ?_⟩
    walk_at "s"
    apply w_joinB (H := HB) (J := fun HC => SomeJ lg ls le lh br bs n cs low ee es zs i H9 HC)
    case h =>
      rintro HC ⟨ss', S9C, hssC, hesC, hlhC, hlgC, hbrC, trsC, treC, hslC⟩
      walk_at "s"
      refine ⟨lh, _, rfl, .inl (SqL.of hlhC), ?_⟩
      walk_at "s"
      refine ⟨lg, _, rfl, .inl (SqL.of hlgC), ?_⟩
      walk_at "s"
      by_cases hq : (zs.length : Int) = ((bs.map V.ref).length : Int)
      · refine w_pos hq ?_
        have hq2 : hasN n cs low ee = (goodF n cs low).length := by lia
        rw [if_pos (decide_eq_true hq2)] at ete
        walk_at "s"
        refine ⟨.inl ⟨rfl, _, SqL.of hesC⟩, ?_⟩
        walk_at "s"
        refine ⟨br, _, 0, _, rfl, rfl, SqT.of hbrC, atI_nat (j := 0) rfl, ?_⟩
        walk_at "s"
        refine ⟨br, _, 1, _, rfl, rfl, SqT.of hbrC, atI_nat (j := 1) rfl, ?_⟩
        walk_at "s"
        refine ⟨by simp [sizeLine_eq], fun t ht => ?_⟩
        have St := same_upd (o := .tup [.int ee.1.1, .int ee.1.2]) ht
        have nte : t ≠ le := (ne_of_none hesC ht).symm
        refine ⟨le, es, _, rfl, rfl, St _ _ hesC, by rw [sizeLine_eq]; lia, ?_⟩
        walk_at "s"
        refine ⟨_, _, _, _, ss', es ++ [.ref t], rfl, fun c o h => ?_, (upd_ne nls).trans (St _ _ hssC), upd_same, TupRefs.nl (trsC.same St) (nl_upd (St _ _ hesC)), ?_, hslC, by rw [List.length_append, List.length_singleton]; lia⟩
        · rw [upd_ne (ne_of_none h hle9)]
          exact St _ _ (S9C _ _ h)
        · rw [ete, List.map_append, List.map_append]
          exact TupRefs.snoc (TupRefs.nl (treC.same St) (nl_upd (St _ _ hesC))) (by rw [upd_ne nte, upd_same]; rfl)
      · refine w_neg hq ?_
        have hq2 : ¬ hasN n cs low ee = (goodF n cs low).length := by lia
        rw [if_neg (by rw [decide_eq_false hq2]; exact Bool.false_ne_true), List.append_nil] at ete
        walk_at "s"
        exact ⟨_, _, _, _, ss', es, rfl, S9C, hssC, hesC, trsC, by rw [ete]; exact treC, hslC, by lia⟩
    case h2 =>
      intro hb
      have hp0 : ¬ 0 < hasN n cs low ee := by have := of_decide_eq_false hb; lia
      rw [if_neg (by rw [decide_eq_false hp0]; exact Bool.false_ne_true), List.append_nil] at ets
      exact ⟨ss, S9B, hssB, hesB, hlh, hlgB, hbrB, by rw [ets]; exact trsB, treB, by lia⟩
    case h1 =>
      intro hb key
      have hp0 : 0 < hasN n cs low ee := by have := of_decide_eq_true hb; lia
      rw [if_pos (decide_eq_true hp0)] at ets
      walk_at "s"
      refine ⟨.inl ⟨rfl, _, SqL.of hssB⟩, ?_⟩
      walk_at "s"
      refine ⟨br, _, 0, _, rfl, rfl, SqT.of hbrB, atI_nat (j := 0) rfl, ?_⟩
      walk_at "s"
      refine ⟨br, _, 1, _, rfl, rfl, SqT.of hbrB, atI_nat (j := 1) rfl, ?_⟩
      walk_at "s"
      refine ⟨by simp [sizeLine_eq], fun t ht => ?_⟩
      have St := same_upd (o := .tup [.int ee.1.1, .int ee.1.2]) ht
      have nts : t ≠ ls := (ne_of_none hssB ht).symm
      refine ⟨ls, ss, _, rfl, rfl, St _ _ hssB, by rw [sizeLine_eq]; lia, ?_⟩
      have nll : lg ≠ ls := ne_of_none hlg9 hls0
      have nbl : br ≠ ls := ne_of_none hbr hls0
      refine key _ ⟨ss ++ [.ref t], fun c o h => ?_, upd_same, (upd_ne nls.symm).trans (St _ _ hesB), (upd_ne nlh1).trans (St _ _ hlh), (upd_ne nll).trans (St _ _ hlgB), (upd_ne nbl).trans (St _ _ hbrB), ?_, TupRefs.nl (treB.same St) (nl_upd (St _ _ hssB)), by rw [List.length_append, List.length_singleton]; lia⟩
      · rw [upd_ne (ne_of_none h hls0)]
        exact St _ _ (S9B _ _ h)
      · rw [ets, List.map_append, List.map_append]
        exact TupRefs.snoc (TupRefs.nl (trsB.same St) (nl_upd (St _ _ hssB))) (by rw [upd_ne nts, upd_same]; rfl)
  rintro σ HA ⟨o8, o9, o10, o13, ss, es, rfl, sm, hss, hes, trs, tre, hsl, hel⟩
  rw [lenr, List.take_length] at trs tre
  have BA := B9.same sm
  have hfree := free_list n1 ho hlow
  have hbound := bound_list n1 ho hlow
  walk_at "s"
  refine ⟨p, d, n, cs, rfl, BA, ok, n1, n12, fun hs l1 r1 HB SB1 so hl10 hl1 tr1 _ => ?_⟩
  rw [sorted_unique2 so (sorted_self R.rise)] at tr1
  walk_at "s"
  refine ⟨l1, ls, r1, ss, freeF n cs, rfl, hl1, SB1 _ _ hss, tr1, by rw [hfree]; exact trs.same SB1, ?_⟩
  walk_at "s"
  refine ⟨p, d, n, cs, rfl, BA.same SB1, ok, n1, n12, fun hs l2 r2 HC SC1 so hl20 hl2 tr2 => ?_⟩
  rw [sorted_unique2 so (sorted_self R.rise)] at tr2
  walk_at "s"
  refine ⟨l2, le, r2, es, boundL (freeF n cs), rfl, hl2, (SB1.trans SC1) _ _ hes, tr2, by rw [hbound]; exact tre.same (SB1.trans SC1), ?_⟩
  exact q _
end
theorem all_mk {l : PySem.W.OpenLaw} {w : World} {K : PySem.W.Frag} {h : Heap} {mg : Str → Option Value} {fa C : Addr} (X : K.In h) (G : h.Ns mainGlobals mg) (hfa : mg "law" = some (.ref fa))
    {C1 : Addr}
    {f1 : Addr} {od1 an1 : Option Addr} {sl1 : Array (Option Value)} {oc1 kV1 dc1 pm1 cd1 ct1 : Value}
    {f2 : Addr} {od2 an2 : Option Addr} {sl2 : Array (Option Value)} {oc2 kV2 dc2 pm2 cd2 ct2 : Value}
    {f3 : Addr} {od3 an3 : Option Addr} {sl3 : Array (Option Value)} {oc3 kV3 dc3 pm3 cd3 ct3 : Value}
    {f4 : Addr} {od4 an4 : Option Addr} {sl4 : Array (Option Value)} {oc4 kV4 dc4 pm4 cd4 ct4 : Value}
    {f5 : Addr} {od5 an5 : Option Addr} {sl5 : Array (Option Value)} {oc5 kV5 dc5 pm5 cd5 ct5 : Value}
    {f6 : Addr} {od6 an6 : Option Addr} {sl6 : Array (Option Value)} {oc6 kV6 dc6 pm6 cd6 ct6 : Value}
    {f7 : Addr} {od7 an7 : Option Addr} {sl7 : Array (Option Value)} {oc7 kV7 dc7 pm7 cd7 ct7 : Value}
    {f8 : Addr} {od8 an8 : Option Addr} {sl8 : Array (Option Value)} {oc8 kV8 dc8 pm8 cd8 ct8 : Value}
    {f9 : Addr} {od9 an9 : Option Addr} {sl9 : Array (Option Value)} {oc9 kV9 dc9 pm9 cd9 ct9 : Value}
    {f10 : Addr} {od10 an10 : Option Addr} {sl10 : Array (Option Value)} {oc10 kV10 dc10 pm10 cd10 ct10 : Value}
    {f11 : Addr} {od11 an11 : Option Addr} {sl11 : Array (Option Value)} {oc11 kV11 dc11 pm11 cd11 ct11 : Value}
    {f12 : Addr} {od12 an12 : Option Addr} {sl12 : Array (Option Value)} {oc12 kV12 dc12 pm12 cd12 ct12 : Value}
    {f13 : Addr} {od13 an13 : Option Addr} {sl13 : Array (Option Value)} {oc13 kV13 dc13 pm13 cd13 ct13 : Value}
    {f14 : Addr} {od14 an14 : Option Addr} {sl14 : Array (Option Value)} {oc14 kV14 dc14 pm14 cd14 ct14 : Value}
    {f15 : Addr} {od15 an15 : Option Addr} {sl15 : Array (Option Value)} {oc15 kV15 dc15 pm15 cd15 ct15 : Value}
    {f16 : Addr} {od16 an16 : Option Addr} {sl16 : Array (Option Value)} {oc16 kV16 dc16 pm16 cd16 ct16 : Value}
    {f17 : Addr} {od17 an17 : Option Addr} {sl17 : Array (Option Value)} {oc17 kV17 dc17 pm17 cd17 ct17 : Value}
    {f18 : Addr} {od18 an18 : Option Addr} {sl18 : Array (Option Value)} {oc18 kV18 dc18 pm18 cd18 ct18 : Value}
    {f19 : Addr} {od19 an19 : Option Addr} {sl19 : Array (Option Value)} {oc19 kV19 dc19 pm19 cd19 ct19 : Value}
    {f20 : Addr} {od20 an20 : Option Addr} {sl20 : Array (Option Value)} {oc20 kV20 dc20 pm20 cd20 ct20 : Value}
    {f21 : Addr} {od21 an21 : Option Addr} {sl21 : Array (Option Value)} {oc21 kV21 dc21 pm21 cd21 ct21 : Value}
    {f22 : Addr} {od22 an22 : Option Addr} {sl22 : Array (Option Value)} {oc22 kV22 dc22 pm22 cd22 ct22 : Value}
    {f23 : Addr} {od23 an23 : Option Addr} {sl23 : Array (Option Value)} {oc23 kV23 dc23 pm23 cd23 ct23 : Value}
    {f24 : Addr} {od24 an24 : Option Addr} {sl24 : Array (Option Value)} {oc24 kV24 dc24 pm24 cd24 ct24 : Value}
    {f25 : Addr} {od25 an25 : Option Addr} {sl25 : Array (Option Value)} {oc25 kV25 dc25 pm25 cd25 ct25 : Value}
    {f26 : Addr} {od26 an26 : Option Addr} {sl26 : Array (Option Value)} {oc26 kV26 dc26 pm26 cd26 ct26 : Value}
    {f27 : Addr} {od27 an27 : Option Addr} {sl27 : Array (Option Value)} {oc27 kV27 dc27 pm27 cd27 ct27 : Value}
    {f28 : Addr} {od28 an28 : Option Addr} {sl28 : Array (Option Value)} {oc28 kV28 dc28 pm28 cd28 ct28 : Value}
    {f29 : Addr} {od29 an29 : Option Addr} {sl29 : Array (Option Value)} {oc29 kV29 dc29 pm29 cd29 ct29 : Value}
    {f30 : Addr} {od30 an30 : Option Addr} {sl30 : Array (Option Value)} {oc30 kV30 dc30 pm30 cd30 ct30 : Value}
    {f31 : Addr} {od31 an31 : Option Addr} {sl31 : Array (Option Value)} {oc31 kV31 dc31 pm31 cd31 ct31 : Value}
    {f32 : Addr} {od32 an32 : Option Addr} {sl32 : Array (Option Value)} {oc32 kV32 dc32 pm32 cd32 ct32 : Value}
    {f33 : Addr} {od33 an33 : Option Addr} {sl33 : Array (Option Value)} {oc33 kV33 dc33 pm33 cd33 ct33 : Value}
    {f34 : Addr} {od34 an34 : Option Addr} {sl34 : Array (Option Value)} {oc34 kV34 dc34 pm34 cd34 ct34 : Value}
    {f35 : Addr} {od35 an35 : Option Addr} {sl35 : Array (Option Value)} {oc35 kV35 dc35 pm35 cd35 ct35 : Value}
    {t_MOST_TELLERS : Tok}
    (aC : PySem.W.nsIn K mainGlobals "Book" = some (some (.ref C)))
    (aC1 : PySem.W.nsIn K mainGlobals "Pricing" = some (some (.ref C1)))
    (a1 : PySem.W.findIn K (.ref C1) "__init__" = some (some (.ref f1))) (i1 : PySem.W.isFn K (.ref f1) = true)
    (l1 : K.lookup f1 = some ⟨oc1, od1, .func (PySem.W.fnOf "__init__" "Pricing.__init__" (defArgs s_Pricing___init__) (defBody s_Pricing___init__) (defScope s_Pricing___init__) .none kV1 dc1 pm1 an1 cd1 ct1), sl1⟩) (c1 : PySem.W.codeIn K cd1 "Pricing.__init__" = true) (k1 : PySem.W.keepIn K (.ref f1) = true)
    (a2 : PySem.W.findIn K (.ref C1) "charge" = some (some (.ref f2))) (i2 : PySem.W.isFn K (.ref f2) = true)
    (l2 : K.lookup f2 = some ⟨oc2, od2, .func (PySem.W.fnOf "charge" "Pricing.charge" (defArgs s_Pricing_charge) (defBody s_Pricing_charge) (defScope s_Pricing_charge) .none kV2 dc2 pm2 an2 cd2 ct2), sl2⟩) (c2 : PySem.W.codeIn K cd2 "Pricing.charge" = true) (k2 : PySem.W.keepIn K (.ref f2) = true)
    (a3 : PySem.W.nsIn K mainGlobals "tellers_behind" = some (some (.ref f3)))
    (l3 : K.lookup f3 = some ⟨oc3, od3, .func (PySem.W.fnOf "tellers_behind" "tellers_behind" (defArgs s_tellers_behind) (defBody s_tellers_behind) (defScope s_tellers_behind) .none kV3 dc3 pm3 an3 cd3 ct3), sl3⟩) (c3 : PySem.W.codeIn K cd3 "tellers_behind" = true) (k3 : PySem.W.keepIn K (.ref f3) = true)
    (a4 : PySem.W.nsIn K mainGlobals "cut_off" = some (some (.ref f4)))
    (l4 : K.lookup f4 = some ⟨oc4, od4, .func (PySem.W.fnOf "cut_off" "cut_off" (defArgs s_cut_off) (defBody s_cut_off) (defScope s_cut_off) .none kV4 dc4 pm4 an4 cd4 ct4), sl4⟩) (c4 : PySem.W.codeIn K cd4 "cut_off" = true) (k4 : PySem.W.keepIn K (.ref f4) = true)
    (a5 : PySem.W.nsIn K mainGlobals "priced" = some (some (.ref f5)))
    (l5 : K.lookup f5 = some ⟨oc5, od5, .func (PySem.W.fnOf "priced" "priced" (defArgs s_priced) (defBody s_priced) (defScope s_priced) .none kV5 dc5 pm5 an5 cd5 ct5), sl5⟩) (c5 : PySem.W.codeIn K cd5 "priced" = true) (k5 : PySem.W.keepIn K (.ref f5) = true)
    (a6 : PySem.W.nsIn K mainGlobals "grown" = some (some (.ref f6)))
    (l6 : K.lookup f6 = some ⟨oc6, od6, .func (PySem.W.fnOf "grown" "grown" (defArgs s_grown) (defBody s_grown) (defScope s_grown) .none kV6 dc6 pm6 an6 cd6 ct6), sl6⟩) (c6 : PySem.W.codeIn K cd6 "grown" = true) (k6 : PySem.W.keepIn K (.ref f6) = true)
    (a7 : PySem.W.nsIn K mainGlobals "judged" = some (some (.ref f7)))
    (l7 : K.lookup f7 = some ⟨oc7, od7, .func (PySem.W.fnOf "judged" "judged" (defArgs s_judged) (defBody s_judged) (defScope s_judged) .none kV7 dc7 pm7 an7 cd7 ct7), sl7⟩) (c7 : PySem.W.codeIn K cd7 "judged" = true) (k7 : PySem.W.keepIn K (.ref f7) = true)
    (a8 : PySem.W.nsIn K mainGlobals "least_worth" = some (some (.ref f8)))
    (l8 : K.lookup f8 = some ⟨oc8, od8, .func (PySem.W.fnOf "least_worth" "least_worth" (defArgs s_least_worth) (defBody s_least_worth) (defScope s_least_worth) .none kV8 dc8 pm8 an8 cd8 ct8), sl8⟩) (c8 : PySem.W.codeIn K cd8 "least_worth" = true) (k8 : PySem.W.keepIn K (.ref f8) = true)
    (a9 : PySem.W.nsIn K mainGlobals "with_only" = some (some (.ref f9)))
    (l9 : K.lookup f9 = some ⟨oc9, od9, .func (PySem.W.fnOf "with_only" "with_only" (defArgs s_with_only) (defBody s_with_only) (defScope s_with_only) .none kV9 dc9 pm9 an9 cd9 ct9), sl9⟩) (c9 : PySem.W.codeIn K cd9 "with_only" = true) (k9 : PySem.W.keepIn K (.ref f9) = true)
    (a10 : PySem.W.nsIn K mainGlobals "least_with" = some (some (.ref f10)))
    (l10 : K.lookup f10 = some ⟨oc10, od10, .func (PySem.W.fnOf "least_with" "least_with" (defArgs s_least_with) (defBody s_least_with) (defScope s_least_with) .none kV10 dc10 pm10 an10 cd10 ct10), sl10⟩) (c10 : PySem.W.codeIn K cd10 "least_with" = true) (k10 : PySem.W.keepIn K (.ref f10) = true)
    (a11 : PySem.W.nsIn K mainGlobals "least" = some (some (.ref f11)))
    (l11 : K.lookup f11 = some ⟨oc11, od11, .func (PySem.W.fnOf "least" "least" (defArgs s_least) (defBody s_least) (defScope s_least) .none kV11 dc11 pm11 an11 cd11 ct11), sl11⟩) (c11 : PySem.W.codeIn K cd11 "least" = true) (k11 : PySem.W.keepIn K (.ref f11) = true)
    (a12 : PySem.W.nsIn K mainGlobals "settled" = some (some (.ref f12)))
    (l12 : K.lookup f12 = some ⟨oc12, od12, .func (PySem.W.fnOf "settled" "settled" (defArgs s_settled) (defBody s_settled) (defScope s_settled) .none kV12 dc12 pm12 an12 cd12 ct12), sl12⟩) (c12 : PySem.W.codeIn K cd12 "settled" = true) (k12 : PySem.W.keepIn K (.ref f12) = true)
    (a13 : PySem.W.nsIn K mainGlobals "first" = some (some (.ref f13)))
    (l13 : K.lookup f13 = some ⟨oc13, od13, .func (PySem.W.fnOf "first" "first" (defArgs s_first) (defBody s_first) (defScope s_first) .none kV13 dc13 pm13 an13 cd13 ct13), sl13⟩) (c13 : PySem.W.codeIn K cd13 "first" = true) (k13 : PySem.W.keepIn K (.ref f13) = true)
    (a14 : PySem.W.nsIn K mainGlobals "lack" = some (some (.ref f14)))
    (l14 : K.lookup f14 = some ⟨oc14, od14, .func (PySem.W.fnOf "lack" "lack" (defArgs s_lack) (defBody s_lack) (defScope s_lack) .none kV14 dc14 pm14 an14 cd14 ct14), sl14⟩) (c14 : PySem.W.codeIn K cd14 "lack" = true) (k14 : PySem.W.keepIn K (.ref f14) = true)
    (a15 : PySem.W.nsIn K mainGlobals "free" = some (some (.ref f15)))
    (l15 : K.lookup f15 = some ⟨oc15, od15, .func (PySem.W.fnOf "free" "free" (defArgs s_free) (defBody s_free) (defScope s_free) .none kV15 dc15 pm15 an15 cd15 ct15), sl15⟩) (c15 : PySem.W.codeIn K cd15 "free" = true) (k15 : PySem.W.keepIn K (.ref f15) = true)
    (a16 : PySem.W.nsIn K mainGlobals "bound" = some (some (.ref f16)))
    (l16 : K.lookup f16 = some ⟨oc16, od16, .func (PySem.W.fnOf "bound" "bound" (defArgs s_bound) (defBody s_bound) (defScope s_bound) .none kV16 dc16 pm16 an16 cd16 ct16), sl16⟩) (c16 : PySem.W.codeIn K cd16 "bound" = true) (k16 : PySem.W.keepIn K (.ref f16) = true)
    (a17 : PySem.W.nsIn K mainGlobals "check_pair" = some (some (.ref f17)))
    (l17 : K.lookup f17 = some ⟨oc17, od17, .func (PySem.W.fnOf "check_pair" "check_pair" (defArgs s_check_pair) (defBody s_check_pair) (defScope s_check_pair) .none kV17 dc17 pm17 an17 cd17 ct17), sl17⟩) (c17 : PySem.W.codeIn K cd17 "check_pair" = true) (k17 : PySem.W.keepIn K (.ref f17) = true)
    (a18 : PySem.W.findIn K (.ref C) "__init__" = some (some (.ref f18))) (i18 : PySem.W.isFn K (.ref f18) = true)
    (l18 : K.lookup f18 = some ⟨oc18, od18, .func (PySem.W.fnOf "__init__" "Book.__init__" (defArgs s_Book___init__) (defBody s_Book___init__) (defScope s_Book___init__) .none kV18 dc18 pm18 an18 cd18 ct18), sl18⟩) (c18 : PySem.W.codeIn K cd18 "Book.__init__" = true) (k18 : PySem.W.keepIn K (.ref f18) = true)
    (a19 : PySem.W.findIn K (.ref C) "many" = some (some (.ref f19))) (i19 : PySem.W.isFn K (.ref f19) = true)
    (l19 : K.lookup f19 = some ⟨oc19, od19, .func (PySem.W.fnOf "many" "Book.many" (defArgs s_Book_many) (defBody s_Book_many) (defScope s_Book_many) .none kV19 dc19 pm19 an19 cd19 ct19), sl19⟩) (c19 : PySem.W.codeIn K cd19 "Book.many" = true) (k19 : PySem.W.keepIn K (.ref f19) = true)
    (a20 : PySem.W.findIn K (.ref C) "let" = some (some (.ref f20))) (i20 : PySem.W.isFn K (.ref f20) = true)
    (l20 : K.lookup f20 = some ⟨oc20, od20, .func (PySem.W.fnOf "let" "Book.let" (defArgs s_Book_let) (defBody s_Book_let) (defScope s_Book_let) .none kV20 dc20 pm20 an20 cd20 ct20), sl20⟩) (c20 : PySem.W.codeIn K cd20 "Book.let" = true) (k20 : PySem.W.keepIn K (.ref f20) = true)
    (a21 : PySem.W.findIn K (.ref C) "cost" = some (some (.ref f21))) (i21 : PySem.W.isFn K (.ref f21) = true)
    (l21 : K.lookup f21 = some ⟨oc21, od21, .func (PySem.W.fnOf "cost" "Book.cost" (defArgs s_Book_cost) (defBody s_Book_cost) (defScope s_Book_cost) .none kV21 dc21 pm21 an21 cd21 ct21), sl21⟩) (c21 : PySem.W.codeIn K cd21 "Book.cost" = true) (k21 : PySem.W.keepIn K (.ref f21) = true)
    (a22 : PySem.W.findIn K (.ref C) "hearings" = some (some (.ref f22))) (i22 : PySem.W.isFn K (.ref f22) = true)
    (l22 : K.lookup f22 = some ⟨oc22, od22, .func (PySem.W.fnOf "hearings" "Book.hearings" (defArgs s_Book_hearings) (defBody s_Book_hearings) (defScope s_Book_hearings) .none kV22 dc22 pm22 an22 cd22 ct22), sl22⟩) (c22 : PySem.W.codeIn K cd22 "Book.hearings" = true) (k22 : PySem.W.keepIn K (.ref f22) = true)
    (a23 : PySem.W.nsIn K mainGlobals "_law_cell_at" = some (some (.ref f23)))
    (l23 : K.lookup f23 = some ⟨oc23, od23, .func (PySem.W.fnOf "_law_cell_at" "_law_cell_at" (defArgs s_law_cell_at) (defBody s_law_cell_at) (defScope s_law_cell_at) .none kV23 dc23 pm23 an23 cd23 ct23), sl23⟩) (c23 : PySem.W.codeIn K cd23 "_law_cell_at" = true) (k23 : PySem.W.keepIn K (.ref f23) = true)
    (a24 : PySem.W.nsIn K mainGlobals "_law_whole" = some (some (.ref f24)))
    (l24 : K.lookup f24 = some ⟨oc24, od24, .func (PySem.W.fnOf "_law_whole" "_law_whole" (defArgs s_law_whole) (defBody s_law_whole) (defScope s_law_whole) .none kV24 dc24 pm24 an24 cd24 ct24), sl24⟩) (c24 : PySem.W.codeIn K cd24 "_law_whole" = true) (k24 : PySem.W.keepIn K (.ref f24) = true)
    (a25 : PySem.W.nsIn K mainGlobals "_law_mix" = some (some (.ref f25)))
    (l25 : K.lookup f25 = some ⟨oc25, od25, .func (PySem.W.fnOf "_law_mix" "_law_mix" (defArgs s_law_mix) (defBody s_law_mix) (defScope s_law_mix) .none kV25 dc25 pm25 an25 cd25 ct25), sl25⟩) (c25 : PySem.W.codeIn K cd25 "_law_mix" = true) (k25 : PySem.W.keepIn K (.ref f25) = true)
    (a26 : PySem.W.nsIn K mainGlobals "_law_rows" = some (some (.ref f26)))
    (l26 : K.lookup f26 = some ⟨oc26, od26, .func (PySem.W.fnOf "_law_rows" "_law_rows" (defArgs s_law_rows) (defBody s_law_rows) (defScope s_law_rows) .none kV26 dc26 pm26 an26 cd26 ct26), sl26⟩) (c26 : PySem.W.codeIn K cd26 "_law_rows" = true) (k26 : PySem.W.keepIn K (.ref f26) = true)
    (a27 : PySem.W.nsIn K mainGlobals "_law_book" = some (some (.ref f27)))
    (l27 : K.lookup f27 = some ⟨oc27, od27, .func (PySem.W.fnOf "_law_book" "_law_book" (defArgs s_law_book) (defBody s_law_book) (defScope s_law_book) .none kV27 dc27 pm27 an27 cd27 ct27), sl27⟩) (c27 : PySem.W.codeIn K cd27 "_law_book" = true) (k27 : PySem.W.keepIn K (.ref f27) = true)
    (a28 : PySem.W.nsIn K mainGlobals "_law_costs" = some (some (.ref f28)))
    (l28 : K.lookup f28 = some ⟨oc28, od28, .func (PySem.W.fnOf "_law_costs" "_law_costs" (defArgs s_law_costs) (defBody s_law_costs) (defScope s_law_costs) .none kV28 dc28 pm28 an28 cd28 ct28), sl28⟩) (c28 : PySem.W.codeIn K cd28 "_law_costs" = true) (k28 : PySem.W.keepIn K (.ref f28) = true)
    (a29 : PySem.W.nsIn K mainGlobals "_law_family" = some (some (.ref f29)))
    (l29 : K.lookup f29 = some ⟨oc29, od29, .func (PySem.W.fnOf "_law_family" "_law_family" (defArgs s_law_family) (defBody s_law_family) (defScope s_law_family) .none kV29 dc29 pm29 an29 cd29 ct29), sl29⟩) (c29 : PySem.W.codeIn K cd29 "_law_family" = true) (k29 : PySem.W.keepIn K (.ref f29) = true)
    (a30 : PySem.W.nsIn K mainGlobals "_law_worth" = some (some (.ref f30)))
    (l30 : K.lookup f30 = some ⟨oc30, od30, .func (PySem.W.fnOf "_law_worth" "_law_worth" (defArgs s_law_worth) (defBody s_law_worth) (defScope s_law_worth) .none kV30 dc30 pm30 an30 cd30 ct30), sl30⟩) (c30 : PySem.W.codeIn K cd30 "_law_worth" = true) (k30 : PySem.W.keepIn K (.ref f30) = true)
    (a31 : PySem.W.nsIn K mainGlobals "_law_all" = some (some (.ref f31)))
    (l31 : K.lookup f31 = some ⟨oc31, od31, .func (PySem.W.fnOf "_law_all" "_law_all" (defArgs s_law_all) (defBody s_law_all) (defScope s_law_all) .none kV31 dc31 pm31 an31 cd31 ct31), sl31⟩) (c31 : PySem.W.codeIn K cd31 "_law_all" = true) (k31 : PySem.W.keepIn K (.ref f31) = true)
    (a32 : PySem.W.nsIn K mainGlobals "_law_pairs" = some (some (.ref f32)))
    (l32 : K.lookup f32 = some ⟨oc32, od32, .func (PySem.W.fnOf "_law_pairs" "_law_pairs" (defArgs s_law_pairs) (defBody s_law_pairs) (defScope s_law_pairs) .none kV32 dc32 pm32 an32 cd32 ct32), sl32⟩) (c32 : PySem.W.codeIn K cd32 "_law_pairs" = true) (k32 : PySem.W.keepIn K (.ref f32) = true)
    (a33 : PySem.W.nsIn K mainGlobals "_law_rest" = some (some (.ref f33)))
    (l33 : K.lookup f33 = some ⟨oc33, od33, .func (PySem.W.fnOf "_law_rest" "_law_rest" (defArgs s_law_rest) (defBody s_law_rest) (defScope s_law_rest) .none kV33 dc33 pm33 an33 cd33 ct33), sl33⟩) (c33 : PySem.W.codeIn K cd33 "_law_rest" = true) (k33 : PySem.W.keepIn K (.ref f33) = true)
    (a34 : PySem.W.nsIn K mainGlobals "_law_lack_is" = some (some (.ref f34)))
    (l34 : K.lookup f34 = some ⟨oc34, od34, .func (PySem.W.fnOf "_law_lack_is" "_law_lack_is" (defArgs s_law_lack_is) (defBody s_law_lack_is) (defScope s_law_lack_is) .none kV34 dc34 pm34 an34 cd34 ct34), sl34⟩) (c34 : PySem.W.codeIn K cd34 "_law_lack_is" = true) (k34 : PySem.W.keepIn K (.ref f34) = true)
    (a35 : PySem.W.nsIn K mainGlobals "law" = some (some (.ref f35)))
    (l35 : K.lookup f35 = some ⟨oc35, od35, .func (PySem.W.fnOf "law" "law" (defArgs s_law) (defBody s_law) (defScope s_law) .none kV35 dc35 pm35 an35 cd35 ct35), sl35⟩) (c35 : PySem.W.codeIn K cd35 "law" = true) (k35 : PySem.W.keepIn K (.ref f35) = true)
    (pgC : PySem.W.plainGet K C Str.empty = true) (hdC : PySem.W.hasDictIn K C = true) (poC : PySem.W.plainOver K C = true) (saC : PySem.W.findIn K (.ref C) "__setattr__" = some (some (.builtin "object.__setattr__"))) (mkC : PySem.W.makesIn K C = true) (kcC : PySem.W.keepIn K (.ref C) = true)
    (nC_tellers : PySem.W.findIn K (.ref C) "tellers" = some none)
    (nC_costs : PySem.W.findIn K (.ref C) "costs" = some none)
    (pgC1 : PySem.W.plainGet K C1 Str.empty = true) (hdC1 : PySem.W.hasDictIn K C1 = true) (poC1 : PySem.W.plainOver K C1 = true) (saC1 : PySem.W.findIn K (.ref C1) "__setattr__" = some (some (.builtin "object.__setattr__"))) (mkC1 : PySem.W.makesIn K C1 = true) (kcC1 : PySem.W.keepIn K (.ref C1) = true)
    (nC1_rests : PySem.W.findIn K (.ref C1) "rests" = some none)
    (nC1_spent : PySem.W.findIn K (.ref C1) "spent" = some none)
    (nC1_prices : PySem.W.findIn K (.ref C1) "prices" = some none)
    (nC1_lonely : PySem.W.findIn K (.ref C1) "lonely" = some none)
    (z_len : PySem.W.nsIn K mainGlobals "len" = some none)
    (z_range : PySem.W.nsIn K mainGlobals "range" = some none)
    (z_max : PySem.W.nsIn K mainGlobals "max" = some none)
    (z_min : PySem.W.nsIn K mainGlobals "min" = some none)
    (z_isinstance : PySem.W.nsIn K mainGlobals "isinstance" = some none)
    (z_all : PySem.W.nsIn K mainGlobals "all" = some none)
    (z_any : PySem.W.nsIn K mainGlobals "any" = some none)
    (z_sorted : PySem.W.nsIn K mainGlobals "sorted" = some none)
    (z_sum : PySem.W.nsIn K mainGlobals "sum" = some none)
    (z_list : PySem.W.nsIn K mainGlobals "list" = some none)
    (z_int : PySem.W.nsIn K mainGlobals "int" = some none)
    (z_bool : PySem.W.nsIn K mainGlobals "bool" = some none)
    (z_tuple : PySem.W.nsIn K mainGlobals "tuple" = some none)
    (z_str : PySem.W.nsIn K mainGlobals "str" = some none)
    (z_dict : PySem.W.nsIn K mainGlobals "dict" = some none)
    (z_ValueError : PySem.W.nsIn K mainGlobals "ValueError" = some none)
    (v_MOST_TELLERS : PySem.W.nsIn K mainGlobals "MOST_TELLERS" = some (some (.int 12 t_MOST_TELLERS))) :
    ∃ fd : FuncData, (∀ (s : Shared) (v : Value), BindsTo s fd ⟨[v], []⟩ [("script", v)]) ∧ ∀ base : Heap, K.In base → base.Ns mainGlobals mg → FnOk l.prog w K mg base CX0 8 fa fd ["script"] (spLaw K) := by
  have e := hfa.symm.trans (PySem.W.mg_of X G a35)
  cases e
  have F1 := fun_mk (st := s_Pricing___init__) l1 c1 k1
  have FA_Pricing___init__ : MakAt K mg C1 "Pricing" "__init__" "Pricing.__init__" s_Pricing___init__ := ⟨f1, _, F1, ⟨mkC1, a1, i1, kcC1⟩, PySem.W.mg_of X G aC1⟩
  have F2 := fun_mk (st := s_Pricing_charge) l2 c2 k2
  have FA_Pricing_charge : MetAt K C1 "charge" "Pricing.charge" s_Pricing_charge := ⟨f2, _, F2, ⟨a2, i2, k2⟩⟩
  have F3 := fun_mk (st := s_tellers_behind) l3 c3 k3
  have FA_tellers_behind : FunAt K mg "tellers_behind" "tellers_behind" s_tellers_behind := ⟨f3, _, F3, PySem.W.mg_of X G a3⟩
  have F4 := fun_mk (st := s_cut_off) l4 c4 k4
  have FA_cut_off : FunAt K mg "cut_off" "cut_off" s_cut_off := ⟨f4, _, F4, PySem.W.mg_of X G a4⟩
  have F5 := fun_mk (st := s_priced) l5 c5 k5
  have FA_priced : FunAt K mg "priced" "priced" s_priced := ⟨f5, _, F5, PySem.W.mg_of X G a5⟩
  have F6 := fun_mk (st := s_grown) l6 c6 k6
  have FA_grown : FunAt K mg "grown" "grown" s_grown := ⟨f6, _, F6, PySem.W.mg_of X G a6⟩
  have F7 := fun_mk (st := s_judged) l7 c7 k7
  have FA_judged : FunAt K mg "judged" "judged" s_judged := ⟨f7, _, F7, PySem.W.mg_of X G a7⟩
  have F8 := fun_mk (st := s_least_worth) l8 c8 k8
  have FA_least_worth : FunAt K mg "least_worth" "least_worth" s_least_worth := ⟨f8, _, F8, PySem.W.mg_of X G a8⟩
  have F9 := fun_mk (st := s_with_only) l9 c9 k9
  have FA_with_only : FunAt K mg "with_only" "with_only" s_with_only := ⟨f9, _, F9, PySem.W.mg_of X G a9⟩
  have F10 := fun_mk (st := s_least_with) l10 c10 k10
  have FA_least_with : FunAt K mg "least_with" "least_with" s_least_with := ⟨f10, _, F10, PySem.W.mg_of X G a10⟩
  have F11 := fun_mk (st := s_least) l11 c11 k11
  have FA_least : FunAt K mg "least" "least" s_least := ⟨f11, _, F11, PySem.W.mg_of X G a11⟩
  have F12 := fun_mk (st := s_settled) l12 c12 k12
  have FA_settled : FunAt K mg "settled" "settled" s_settled := ⟨f12, _, F12, PySem.W.mg_of X G a12⟩
  have F13 := fun_mk (st := s_first) l13 c13 k13
  have FA_first : FunAt K mg "first" "first" s_first := ⟨f13, _, F13, PySem.W.mg_of X G a13⟩
  have F14 := fun_mk (st := s_lack) l14 c14 k14
  have FA_lack : FunAt K mg "lack" "lack" s_lack := ⟨f14, _, F14, PySem.W.mg_of X G a14⟩
  have F15 := fun_mk (st := s_free) l15 c15 k15
  have FA_free : FunAt K mg "free" "free" s_free := ⟨f15, _, F15, PySem.W.mg_of X G a15⟩
  have F16 := fun_mk (st := s_bound) l16 c16 k16
  have FA_bound : FunAt K mg "bound" "bound" s_bound := ⟨f16, _, F16, PySem.W.mg_of X G a16⟩
  have F17 := fun_mk (st := s_check_pair) l17 c17 k17
  have FA_check_pair : FunAt K mg "check_pair" "check_pair" s_check_pair := ⟨f17, _, F17, PySem.W.mg_of X G a17⟩
  have F18 := fun_mk (st := s_Book___init__) l18 c18 k18
  have FA_Book___init__ : MakAt K mg C "Book" "__init__" "Book.__init__" s_Book___init__ := ⟨f18, _, F18, ⟨mkC, a18, i18, kcC⟩, PySem.W.mg_of X G aC⟩
  have F19 := fun_mk (st := s_Book_many) l19 c19 k19
  have FA_Book_many : MetAt K C "many" "Book.many" s_Book_many := ⟨f19, _, F19, ⟨a19, i19, k19⟩⟩
  have F20 := fun_mk (st := s_Book_let) l20 c20 k20
  have FA_Book_let : MetAt K C "let" "Book.let" s_Book_let := ⟨f20, _, F20, ⟨a20, i20, k20⟩⟩
  have F21 := fun_mk (st := s_Book_cost) l21 c21 k21
  have FA_Book_cost : MetAt K C "cost" "Book.cost" s_Book_cost := ⟨f21, _, F21, ⟨a21, i21, k21⟩⟩
  have F22 := fun_mk (st := s_Book_hearings) l22 c22 k22
  have FA_Book_hearings : MetAt K C "hearings" "Book.hearings" s_Book_hearings := ⟨f22, _, F22, ⟨a22, i22, k22⟩⟩
  have F23 := fun_mk (st := s_law_cell_at) l23 c23 k23
  have FA_law_cell_at : FunAt K mg "_law_cell_at" "_law_cell_at" s_law_cell_at := ⟨f23, _, F23, PySem.W.mg_of X G a23⟩
  have F24 := fun_mk (st := s_law_whole) l24 c24 k24
  have FA_law_whole : FunAt K mg "_law_whole" "_law_whole" s_law_whole := ⟨f24, _, F24, PySem.W.mg_of X G a24⟩
  have F25 := fun_mk (st := s_law_mix) l25 c25 k25
  have FA_law_mix : FunAt K mg "_law_mix" "_law_mix" s_law_mix := ⟨f25, _, F25, PySem.W.mg_of X G a25⟩
  have F26 := fun_mk (st := s_law_rows) l26 c26 k26
  have FA_law_rows : FunAt K mg "_law_rows" "_law_rows" s_law_rows := ⟨f26, _, F26, PySem.W.mg_of X G a26⟩
  have F27 := fun_mk (st := s_law_book) l27 c27 k27
  have FA_law_book : FunAt K mg "_law_book" "_law_book" s_law_book := ⟨f27, _, F27, PySem.W.mg_of X G a27⟩
  have F28 := fun_mk (st := s_law_costs) l28 c28 k28
  have FA_law_costs : FunAt K mg "_law_costs" "_law_costs" s_law_costs := ⟨f28, _, F28, PySem.W.mg_of X G a28⟩
  have F29 := fun_mk (st := s_law_family) l29 c29 k29
  have FA_law_family : FunAt K mg "_law_family" "_law_family" s_law_family := ⟨f29, _, F29, PySem.W.mg_of X G a29⟩
  have F30 := fun_mk (st := s_law_worth) l30 c30 k30
  have FA_law_worth : FunAt K mg "_law_worth" "_law_worth" s_law_worth := ⟨f30, _, F30, PySem.W.mg_of X G a30⟩
  have F31 := fun_mk (st := s_law_all) l31 c31 k31
  have FA_law_all : FunAt K mg "_law_all" "_law_all" s_law_all := ⟨f31, _, F31, PySem.W.mg_of X G a31⟩
  have F32 := fun_mk (st := s_law_pairs) l32 c32 k32
  have FA_law_pairs : FunAt K mg "_law_pairs" "_law_pairs" s_law_pairs := ⟨f32, _, F32, PySem.W.mg_of X G a32⟩
  have F33 := fun_mk (st := s_law_rest) l33 c33 k33
  have FA_law_rest : FunAt K mg "_law_rest" "_law_rest" s_law_rest := ⟨f33, _, F33, PySem.W.mg_of X G a33⟩
  have F34 := fun_mk (st := s_law_lack_is) l34 c34 k34
  have FA_law_lack_is : FunAt K mg "_law_lack_is" "_law_lack_is" s_law_lack_is := ⟨f34, _, F34, PySem.W.mg_of X G a34⟩
  have F35 := fun_mk (st := s_law) l35 c35 k35
  have cl_Book : Cls K C := ⟨pgC, hdC, poC, saC⟩
  have cl_Pricing : Cls K C1 := ⟨pgC1, hdC1, poC1, saC1⟩
  have T : Txt K mg C := ⟨cl_Book, nC_tellers, nC_costs, PySem.W.mg_of X G aC, ⟨_, PySem.W.mg_of X G v_MOST_TELLERS⟩, PySem.W.mg_none_of X G z_len, PySem.W.mg_none_of X G z_range, PySem.W.mg_none_of X G z_max, PySem.W.mg_none_of X G z_min, PySem.W.mg_none_of X G z_isinstance, PySem.W.mg_none_of X G z_all, PySem.W.mg_none_of X G z_any, PySem.W.mg_none_of X G z_sorted, PySem.W.mg_none_of X G z_sum, PySem.W.mg_none_of X G z_list, PySem.W.mg_none_of X G z_int, PySem.W.mg_none_of X G z_bool, PySem.W.mg_none_of X G z_tuple, PySem.W.mg_none_of X G z_str, PySem.W.mg_none_of X G z_dict, PySem.W.mg_none_of X G z_ValueError⟩
  have TP : TxtP K mg C1 := ⟨cl_Pricing, nC1_rests, nC1_spent, nC1_prices, nC1_lonely⟩
  refine ⟨PySem.W.fnOf "law" "law" (defArgs s_law) (defBody s_law) (defScope s_law) .none kV35 dc35 pm35 an35 cd35 ct35, fun s v => .of_eq rfl, fun base _ _ => ?_⟩
  have D1 := d_check (P := l.prog) (w := w) (base := base) FA_check_pair
  have I1 := d_init (P := l.prog) (w := w) (base := base) FA_Book___init__ T
  have L1 := d_let (base := base) FA_Book_let T D1
  have MC := d_cost (base := base) FA_Book_cost T D1
  have D0 := d_cell (P := l.prog) (w := w) (base := base) FA_law_cell_at T
  have D2 := d_whole (P := l.prog) (w := w) (base := base) FA_law_whole T
  have MX := d_mix (P := l.prog) (w := w) (base := base) FA_law_mix
  have MM := d_many (P := l.prog) (w := w) (base := base) FA_Book_many T
  have MR := d_hear (P := l.prog) (w := w) (base := base) FA_Book_hearings T
  have MH := MetD.imp MR (hearS_of C)
  have PR := d_priced FA_priced T TP (d_initP (P := l.prog) (w := w) (base := base) FA_Pricing___init__ T TP) (d_charge FA_Pricing_charge T TP) (d_cut FA_cut_off T (d_behind FA_tellers_behind T))
  have LW := d_lw FA_least_worth T TP PR
  have LE := d_least FA_least T MM MH LW
  have OW := d_only (P := l.prog) (w := w) (base := base) FA_with_only T
  have LWI := d_leastW FA_least_with T MM MH OW LW
  have FI := d_first FA_first T MM MH LE (d_settled FA_settled T OW LW)
  have JU := d_judged FA_judged T TP PR MM MH (d_grown FA_grown T)
  have FR := d_free FA_free T MH LE LWI
  have CO := d_costs (P := l.prog) (w := w) (base := base) FA_law_costs T
  have WO := d_worth (P := l.prog) (w := w) (base := base) FA_law_worth T
  refine F35.ok sc_law (fun vs H Q E h => ?_) (law_body T D0 (d_rows FA_law_rows T D0 MX) CO (d_bookL FA_law_book T I1 L1) (d_all FA_law_all T CO (d_family FA_law_family T D2)) WO (d_rest FA_law_rest T) (d_lackis FA_law_lack_is T D2 WO) (d_pairs FA_law_pairs T D2)
    JU LE FI (d_lack FA_lack T MC LE LWI) FR (d_bound FA_bound T FR) _)
  obtain ⟨a, ns, rfl, _⟩ := h
  rfl
theorem walk {l : PySem.W.OpenLaw} {q : Program} {loose : List Str} {XP : (Str → Option Value) → Heap → Prop} {YP : World → Heap → Prop} {d : DefRec} {K : Params → PySem.W.Frag} (hn : l.most = some 63) (hdf : d.params.defaults = [])
    (hY : ∀ (w : World) (h : Heap), YP w h → (K w.params).In h)
    (F : ∀ (w : World) (mg : Str → Option Value) (fa : Addr) (h : Heap), (K w.params).In h → h.Ns mainGlobals mg → mg d.name = some (.ref fa) →
      ∃ fd : FuncData, (∀ (s : Shared) (u : Value), BindsTo s fd ⟨[u], []⟩ [("script", u)]) ∧ ∀ base : Heap, (K w.params).In base → base.Ns mainGlobals mg → FnOk l.prog w (K w.params) mg base CX0 8 fa fd ["script"] (spLaw (K w.params))) :
    PySem.W.WalkO q loose XP YP l.row.toRowW d [] (fun f vs => PySem.call f vs) :=
  L2.walk_of (n := 63) (k := 8) (x := "script") (CX := fun _ => CX0) (sp := fun w => spLaw (K w.params)) hn (by decide) hdf ⟨rfl, by decide, by decide⟩ hY F (fun _ _ a ns hl _ hS => ⟨a, ns, rfl, hS, hl, fun _ => rfl⟩) fun _ _ _ _ _ z => z
end Hw
open PySem PySem.W PyProof.Rows
noncomputable def PySem.W.Fast.tw7413188124555606062 : PySem.Program := PySem.Challenge.pw_hearwood_k13_whole_by_all_families
theorem PySem.W.Fast.te7413188124555606062 : PySem.Challenge.pw_hearwood_k13_whole_by_all_families = PySem.W.Fast.tw7413188124555606062 := rfl
noncomputable def PySem.W.Fast.tw4528989744864815445 : PySem.Program := { PySem.Challenge.pw_hearwood_k13_whole_by_all_families with main := { (PySem.Challenge.pw_hearwood_k13_whole_by_all_families).main with body := [Hw.top 0, Hw.top 2, Hw.top 3, Hw.top 4, Hw.top 5, Hw.top 6, Hw.top 7, Hw.top 9, Hw.top 10, Hw.top 11, Hw.top 12, Hw.top 13, Hw.top 14, Hw.top 16, Hw.top 17, Hw.top 18, Hw.top 19, Hw.top 20, Hw.top 21, Hw.top 22, Hw.top 23, Hw.top 24, Hw.top 26, Hw.top 27, Hw.top 28, Hw.top 30, Hw.top 31, Hw.top 32, Hw.top 33, Hw.top 34, Hw.top 35, Hw.top 36, Hw.top 37, Hw.top 38, Hw.top 39, Hw.top 40, Hw.top 41, Hw.top 42] } }
theorem PySem.W.Fast.te4528989744864815445 : PySem.W.Fast.tw4528989744864815445 = PySem.W.Fast.tw4528989744864815445 := rfl
set_option maxRecDepth 100000 in
set_option maxHeartbeats 0 in
theorem PySem.Challenge.cw_hearwood_k13_whole_by_all_families_holds : PySem.Challenge.rw_hearwood_k13_whole_by_all_families.Holds := by
  w_on; o_law; z_head; (case hw => w_witness2)
  refine Hw.walkX_of (fun _ => by kernel_rfl) ?W
  case W =>
  refine Hw.walk (l := PySem.Challenge.rw_hearwood_k13_whole_by_all_families) rfl rfl (fun w h Y => Y) ?F
  case F =>
    intro w mg fa h KX G hmg
    refine' Hw.all_mk KX G hmg ?aC ?aC1 ?a1 ?i1 ?l1 ?c1 ?k1 ?a2 ?i2 ?l2 ?c2 ?k2 ?a3 ?l3 ?c3 ?k3 ?a4 ?l4 ?c4 ?k4 ?a5 ?l5 ?c5 ?k5 ?a6 ?l6 ?c6 ?k6 ?a7 ?l7 ?c7 ?k7 ?a8 ?l8 ?c8 ?k8 ?a9 ?l9 ?c9 ?k9 ?a10 ?l10 ?c10 ?k10 ?a11 ?l11 ?c11 ?k11 ?a12 ?l12 ?c12 ?k12 ?a13 ?l13 ?c13 ?k13 ?a14 ?l14 ?c14 ?k14 ?a15 ?l15 ?c15 ?k15 ?a16 ?l16 ?c16 ?k16 ?a17 ?l17 ?c17 ?k17 ?a18 ?i18 ?l18 ?c18 ?k18 ?a19 ?i19 ?l19 ?c19 ?k19 ?a20 ?i20 ?l20 ?c20 ?k20 ?a21 ?i21 ?l21 ?c21 ?k21 ?a22 ?i22 ?l22 ?c22 ?k22 ?a23 ?l23 ?c23 ?k23 ?a24 ?l24 ?c24 ?k24 ?a25 ?l25 ?c25 ?k25 ?a26 ?l26 ?c26 ?k26 ?a27 ?l27 ?c27 ?k27 ?a28 ?l28 ?c28 ?k28 ?a29 ?l29 ?c29 ?k29 ?a30 ?l30 ?c30 ?k30 ?a31 ?l31 ?c31 ?k31 ?a32 ?l32 ?c32 ?k32 ?a33 ?l33 ?c33 ?k33 ?a34 ?l34 ?c34 ?k34 ?a35 ?l35 ?c35 ?k35 ?pgC ?hdC ?poC ?saC ?mkC ?kcC ?nC_tellers ?nC_costs ?pgC1 ?hdC1 ?poC1 ?saC1 ?mkC1 ?kcC1 ?nC1_rests ?nC1_spent ?nC1_prices ?nC1_lonely ?z_len ?z_range ?z_max ?z_min ?z_isinstance ?z_all ?z_any ?z_sorted ?z_sum ?z_list ?z_int ?z_bool ?z_tuple ?z_str ?z_dict ?z_ValueError ?v_MOST_TELLERS
    (case aC => k_is); (case aC1 => k_is); (case a1 => k_is); (case i1 => k_is); (case l1 => k_is); (case c1 => k_is)
    (case k1 => k_is); (case a2 => k_is); (case i2 => k_is); (case l2 => k_is); (case c2 => k_is); (case k2 => k_is)
    (case a3 => k_is); (case l3 => k_is); (case c3 => k_is); (case k3 => k_is); (case a4 => k_is); (case l4 => k_is)
    (case c4 => k_is); (case k4 => k_is); (case a5 => k_is); (case l5 => k_is); (case c5 => k_is); (case k5 => k_is)
    (case a6 => k_is); (case l6 => k_is); (case c6 => k_is); (case k6 => k_is); (case a7 => k_is); (case l7 => k_is)
    (case c7 => k_is); (case k7 => k_is); (case a8 => k_is); (case l8 => k_is); (case c8 => k_is); (case k8 => k_is)
    (case a9 => k_is); (case l9 => k_is); (case c9 => k_is); (case k9 => k_is); (case a10 => k_is); (case l10 => k_is)
    (case c10 => k_is); (case k10 => k_is); (case a11 => k_is); (case l11 => k_is); (case c11 => k_is); (case k11 => k_is)
    (case a12 => k_is); (case l12 => k_is); (case c12 => k_is); (case k12 => k_is); (case a13 => k_is); (case l13 => k_is)
    (case c13 => k_is); (case k13 => k_is); (case a14 => k_is); (case l14 => k_is); (case c14 => k_is); (case k14 => k_is)
    (case a15 => k_is); (case l15 => k_is); (case c15 => k_is); (case k15 => k_is); (case a16 => k_is); (case l16 => k_is)
    (case c16 => k_is); (case k16 => k_is); (case a17 => k_is); (case l17 => k_is); (case c17 => k_is); (case k17 => k_is)
    (case a18 => k_is); (case i18 => k_is); (case l18 => k_is); (case c18 => k_is); (case k18 => k_is); (case a19 => k_is)
    (case i19 => k_is); (case l19 => k_is); (case c19 => k_is); (case k19 => k_is); (case a20 => k_is); (case i20 => k_is)
    (case l20 => k_is); (case c20 => k_is); (case k20 => k_is); (case a21 => k_is); (case i21 => k_is); (case l21 => k_is)
    (case c21 => k_is); (case k21 => k_is); (case a22 => k_is); (case i22 => k_is); (case l22 => k_is); (case c22 => k_is)
    (case k22 => k_is); (case a23 => k_is); (case l23 => k_is); (case c23 => k_is); (case k23 => k_is); (case a24 => k_is)
    (case l24 => k_is); (case c24 => k_is); (case k24 => k_is); (case a25 => k_is); (case l25 => k_is); (case c25 => k_is)
    (case k25 => k_is); (case a26 => k_is); (case l26 => k_is); (case c26 => k_is); (case k26 => k_is); (case a27 => k_is)
    (case l27 => k_is); (case c27 => k_is); (case k27 => k_is); (case a28 => k_is); (case l28 => k_is); (case c28 => k_is)
    (case k28 => k_is); (case a29 => k_is); (case l29 => k_is); (case c29 => k_is); (case k29 => k_is); (case a30 => k_is)
    (case l30 => k_is); (case c30 => k_is); (case k30 => k_is); (case a31 => k_is); (case l31 => k_is); (case c31 => k_is)
    (case k31 => k_is); (case a32 => k_is); (case l32 => k_is); (case c32 => k_is); (case k32 => k_is); (case a33 => k_is)
    (case l33 => k_is); (case c33 => k_is); (case k33 => k_is); (case a34 => k_is); (case l34 => k_is); (case c34 => k_is)
    (case k34 => k_is); (case a35 => k_is); (case l35 => k_is); (case c35 => k_is); (case k35 => k_is); (case pgC => k_is)
    (case hdC => k_is); (case poC => k_is); (case saC => k_is); (case mkC => k_is); (case kcC => k_is); (case nC_tellers => k_is)
    (case nC_costs => k_is); (case pgC1 => k_is); (case hdC1 => k_is); (case poC1 => k_is); (case saC1 => k_is); (case mkC1 => k_is)
    (case kcC1 => k_is); (case nC1_rests => k_is); (case nC1_spent => k_is); (case nC1_prices => k_is); (case nC1_lonely => k_is); (case z_len => k_is)
    (case z_range => k_is); (case z_max => k_is); (case z_min => k_is); (case z_isinstance => k_is); (case z_all => k_is); (case z_any => k_is)
    (case z_sorted => k_is); (case z_sum => k_is); (case z_list => k_is); (case z_int => k_is); (case z_bool => k_is); (case z_tuple => k_is)
    (case z_str => k_is); (case z_dict => k_is); (case z_ValueError => k_is); (case v_MOST_TELLERS => k_is)
