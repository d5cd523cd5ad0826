import PyProof.Rows.All
import Wide.All
import OpenK.AllK
import Wide.FinOn
import PyProof.EqAt
import PyProof.EqKinds
import PyProof.TupleCall
import KE.BitLaws
import Open.SpecLaws
import KE.OsHead
import KE.OsGo
import KE.KSortKeySt
import PyProof.Rows.SetFrom
import PyVamrqg
import PyFlatLaws
import PySem.Challenge.RW_agingqueue_s01_answers
set_option Elab.async false
set_option linter.all false
set_option maxRecDepth 100000
namespace L2
open PySem PySem.Spec PyProof.Rows
/-- a key: an int or a str -/
abbrev Key := Sum Int Str
def keyIs : Key → Value → Bool
  | .inl k, v => Value.isInt k v
  | .inr x, v => Value.isStrOf x v
def keyH (w : World) : Key → Int
  | .inl k => hashInt k
  | .inr x => hashStr w x
theorem keyIs_shape : ∀ {k : Key} {v : Value}, keyIs k v = true → (∃ i t, k = Sum.inl i ∧ v = Value.int i t) ∨ (∃ x t, k = Sum.inr x ∧ v = Value.str x t)
  | .inl i, v, h => by
    obtain ⟨t, e⟩ := Value.isInt_shape (k := i) (v := v) h
    exact .inl ⟨i, t, rfl, e⟩
  | .inr x, v, h => by
    obtain ⟨t, e⟩ := Value.isStrOf_shape (x := x) (v := v) h
    exact .inr ⟨x, t, rfl, e⟩
theorem keyIs_int (i : Int) (t : Tok) : keyIs (.inl i) (.int i t) = true := by simp [keyIs, Value.isInt]
theorem keyIs_str (x : Str) (t : Tok) : keyIs (.inr x) (.str x t) = true := by simp [keyIs, Value.isStrOf]
theorem key_ll (a b : Int) : decide ((Sum.inl a : Key) = Sum.inl b) = (a == b) := by
  by_cases e : a = b
  · subst e; simp
  · have h : ¬ (Sum.inl a : Key) = Sum.inl b := fun q => e (Sum.inl.inj q)
    rw [decide_eq_false h]
    exact (beq_eq_false_iff_ne.mpr e).symm
theorem key_rr (a b : Str) : decide ((Sum.inr a : Key) = Sum.inr b) = decide (a = b) := by
  by_cases e : a = b
  · subst e; simp
  · have h : ¬ (Sum.inr a : Key) = Sum.inr b := fun q => e (Sum.inr.inj q)
    rw [decide_eq_false h, decide_eq_false e]
theorem key_lr (a : Int) (b : Str) : decide ((Sum.inl a : Key) = Sum.inr b) = false := decide_eq_false (fun q => nomatch q)
theorem key_rl (a : Str) (b : Int) : decide ((Sum.inr a : Key) = Sum.inl b) = false := decide_eq_false (fun q => nomatch q)
def mixKind (prog : Program) (w : World) : PySem.KeyKind prog w Key where
  is := keyIs
  hash := keyH w
  inj := fun v a b ha hb => by
    rcases keyIs_shape ha with ⟨i, t, rfl, rfl⟩ | ⟨x, t, rfl, rfl⟩
    · rcases keyIs_shape hb with ⟨j, u, rfl, e⟩ | ⟨y, u, rfl, e⟩
      · injection e with e1 _; rw [e1]
      · exact nomatch e
    · rcases keyIs_shape hb with ⟨j, u, rfl, e⟩ | ⟨y, u, rfl, e⟩
      · exact nomatch e
      · injection e with e1 _; rw [e1]
  byValue := fun k v h => by
    rcases keyIs_shape h with ⟨i, t, rfl, rfl⟩ | ⟨x, t, rfl, rfl⟩ <;> rfl
  pyHash := fun hv h => by
    rcases keyIs_shape hv with ⟨i, t, rfl, rfl⟩ | ⟨x, t, rfl, rfl⟩
    · exact wpAny_pyHash_int h
    · exact wpAny_pyHash_str h
  eqBool := fun hu hv h => by
    rcases keyIs_shape hu with ⟨i, t, rfl, rfl⟩ | ⟨x, t, rfl, rfl⟩
    · rcases keyIs_shape hv with ⟨j, u, rfl, rfl⟩ | ⟨y, u, rfl, rfl⟩
      · rw [key_ll] at h; exact wpAny_eqBool_int h
      · rw [key_lr] at h; exact SeqAt.EqAt.int_str i t y u _ _ _ _ h
    · rcases keyIs_shape hv with ⟨j, u, rfl, rfl⟩ | ⟨y, u, rfl, rfl⟩
      · rw [key_rl] at h; exact SeqAt.EqAt.str_int x t j u _ _ _ _ h
      · rw [key_rr] at h; exact wpAny_eqBool_str h
  «strs» := fun k x t v h => by
    rcases keyIs_shape h with ⟨i, u, rfl, e⟩ | ⟨y, u, rfl, e⟩
    · exact nomatch e
    · injection e with e1 _
      subst e1
      cases v <;> rfl
theorem mixKind_int (prog : Program) (w : World) (i : Int) (t : Tok) : (mixKind prog w).is (.inl i) (.int i t) = true := keyIs_int i t
theorem mixKind_str (prog : Program) (w : World) (x : Str) (t : Tok) : (mixKind prog w).is (.inr x) (.str x t) = true := keyIs_str x t
end L2
namespace L2
open PySem PySem.Spec PyProof.Rows
/-- a value, without the heap -/
inductive V where
  | non | bl (b : Bool) | int (i : Int) | str (x : Str) | byt (b : Array UInt8) | flt (b : UInt64) | ref (a : Addr) | ty (n : String)
  deriving DecidableEq
def RelV : V → Value → Prop
  | .non, u => u = Value.none
  | .bl b, u => u = Value.bool b
  | .int i, u => ∃ t, u = Value.int i t
  | .str x, u => ∃ t, u = Value.str x t
  | .byt b, u => ∃ t, u = Value.bytes b t
  | .flt b, u => ∃ t, u = Value.float b t
  | .ref a, u => u = Value.ref a
  | .ty n, u => u = Value.type n
abbrev Vals : List V → List Value → Prop := Paired RelV
theorem Vals.length {xs : List V} {us : List Value} (r : Vals xs us) : xs.length = us.length := Paired.length r
theorem Vals.get : ∀ {xs : List V} {us : List Value} {i : Nat} {x : V}, Vals xs us → xs[i]? = some x → ∃ u, us[i]? = some u ∧ RelV x u
  | _, _, _, _, .nil, e => by simp at e
  | _, _, 0, _, .cons r _, e => by simp at e; subst e; exact ⟨_, rfl, r⟩
  | _, _, i + 1, x, .cons _ t, e => by
    obtain ⟨u, h1, h2⟩ := Vals.get (i := i) (x := x) t (by simpa using e)
    exact ⟨u, by simpa using h1, h2⟩
theorem Vals.set {x : V} {u : Value} (r : RelV x u) : ∀ {xs : List V} {us : List Value} (i : Nat), Vals xs us → Vals (xs.set i x) (us.set i u)
  | _, _, _, .nil => .nil
  | _, _, 0, .cons _ t => .cons r t
  | _, _, i + 1, .cons q t => .cons q (Vals.set r i t)
theorem Vals.append : ∀ {xs ys : List V} {us ws : List Value}, Vals xs us → Vals ys ws → Vals (xs ++ ys) (us ++ ws)
  | _, _, _, _, .nil, s => s
  | _, _, _, _, .cons r t, s => .cons r (Vals.append t s)
theorem Vals.take : ∀ {xs : List V} {us : List Value} (n : Nat), Vals xs us → Vals (xs.take n) (us.take n)
  | _, _, 0, _ => .nil
  | _, _, _ + 1, .nil => .nil
  | _, _, n + 1, .cons r t => .cons r (Vals.take n t)
theorem Vals.drop : ∀ {xs : List V} {us : List Value} (n : Nat), Vals xs us → Vals (xs.drop n) (us.drop n)
  | _, _, 0, r => r
  | _, _, _ + 1, .nil => .nil
  | _, _, n + 1, .cons _ t => Vals.drop n t
theorem Vals.none_of : ∀ {xs : List V} {us : List Value} {i : Nat}, Vals xs us → xs[i]? = none → us[i]? = none := fun {xs us i} r e => by
  have h1 := r.length
  have h2 : xs.length ≤ i := List.getElem?_eq_none_iff.mp e
  exact List.getElem?_eq_none_iff.mpr (by omega)
def RelO : Option V → Option Value → Prop
  | some v, some u => RelV v u
  | none, none => True
  | _, _ => False
def KV {κ : Type} : List (κ × V) → List (κ × Value) → Prop := Paired fun (p : κ × V) (q : κ × Value) => p.1 = q.1 ∧ RelV p.2 q.2
/-- a key of a dict (00_mix): an int or a text -/
def kV : Key → V
  | .inl i => .int i
  | .inr x => .str x
/-- what stands at a tracked address -/
inductive HO where
  /-- a list -/
  | lst (xs : List V)
  /-- a tuple (never changes) -/
  | tup (xs : List V)
  /-- a dict whose keys are ints and texts; one whose keys are tuples of ints and texts (the empty one is both) -/
  | dK (kvs : List (Key × V)) | dT (kvs : List (List Key × V))
  /-- a set of ints: its members, its size -/
  | set (S : Int → Bool) (n : Nat)
  /-- an instance of the class at C, its dict at dx, its attributes -/
  | ins (C dx : Addr) (fs : List (Str × V))
  /-- the dict of the instance at x -/
  | own (x : Addr)
  /-- the dict of an exception -/
  | xd (fs : List (Str × V))
  /-- a bound method, f of x -/
  | met (f x : Addr)
  /-- a range object lo, lo + 1, .. below hi -/
  | rng (lo hi : Int)
  /-- a thing that is known to the object (the script; a dict while a loop walks it): read, never written while it is so -/
  | frz (o : Obj) (u : HO)
  /-- a code object's table -/
  | tbl (ps : Array Value)
  /-- any other thing, by what is true of its one object (a def of one's own: SetO a S n := HO.ext fun h => ..) -/
  | ext (φ : Heap → Prop)
abbrev Hp := Addr → Option HO
def upd (H : Hp) (a : Addr) (o : HO) : Hp := fun b => if b = a then some o else H b
theorem upd_same {H : Hp} {a : Addr} {o : HO} : upd H a o a = some o := by unfold upd; rw [if_pos rfl]
theorem upd_ne {H : Hp} {a b : Addr} {o : HO} (h : b ≠ a) : upd H a o b = H b := by unfold upd; rw [if_neg h]
/-- two objects of different content stand apart -/
theorem ne_of {H : Hp} {a b : Addr} {o u : HO} (h : H a = some o) (h' : H b = some u) (d : o ≠ u) : a ≠ b := by
  intro e; subst e; rw [h] at h'; exact d (Option.some.inj h')
theorem ne_of_none {H : Hp} {a b : Addr} {o : HO} (h : H a = some o) (h' : H b = none) : a ≠ b := by
  intro e; subst e; rw [h] at h'; cases h'
section
variable (P : Program) (w : World)
def ObjOk (H : Hp) (h : Heap) (a : Addr) : HO → Prop
  | .lst xs => xs.length ≤ sizeLine ∧ ∃ (its : List Value) (n : Nat), Vals xs its ∧ h.get? a = some { cls := .type "list", data := .seq its.toArray n }
  | .tup xs => xs.length ≤ sizeLine ∧ ∃ its : List Value, Vals xs its ∧ IsTup h a its.toArray
  | .dK kvs => kvs.length ≤ sizeLine ∧ (a == sysModules) = false ∧ ∃ vs, KV kvs vs ∧ h.DictOf (mixKind P w) a vs
  | .dT kvs => kvs.length ≤ sizeLine ∧ (a == sysModules) = false ∧ ∃ xs : List (List Key × Addr × Value),
      Paired (fun (p : List Key × V) (q : List Key × Addr × Value) => p.1 = q.1 ∧ H q.2.1 = some (.tup (p.1.map kV)) ∧ RelV p.2 q.2.2) kvs xs ∧
      ∃ o es ep, h.get? a = some o ∧ o.ExactDict ∧ o.data = .dict es ep ∧ es.toList = xs.map (entryOfKey (tupleKind (mixKind P w))) ∧ (xs.map (·.1)).Nodup
  | .set S n => h.SetOf (intKind P w) a S n
  | .ins C dx fs => H dx = some (.own a) ∧ fs.length ≤ 1000 ∧ dx ≠ a ∧ h.get? a = some (PySem.W.instObj C dx) ∧
      ∃ mA, h.Ns1 dx mA ∧ (∀ f, RelO (fs.lookup f) (mA f)) ∧ PySem.Within mA (fs.map (·.1))
  | .own _ => ∃ o, h.get? a = some o
  | .xd fs => ∃ mA, h.Ns1 a mA ∧ ∀ f, RelO (fs.lookup f) (mA f)
  | .rng lo hi => ∃ t u v, h.get? a = some { cls := .type "range", data := .fields #[.int lo t, .int hi u, .int 1 v] }
  | .frz o u => h.get? a = some o ∧ ObjOk H h a u
  | .tbl ps => h.get? a = some { cls := .none, data := .fields ps }
  | .met f x => h.get? a = some (PySem.W.methodObj (.ref f) (.ref x))
  | .ext φ => φ h ∧ (∃ o, h.get? a = some o) ∧ ∀ h1 h2 : Heap, φ h1 → (∀ o, h1.get? a = some o → h2.get? a = some o) → φ h2
/-- the abstract heap is held -/
def HOk (H : Hp) (h : Heap) : Prop := ∀ a o, H a = some o → ObjOk P w H h a o
end
section
variable {P : Program} {w : World} {H H' : Hp} {h h' : Heap} {a : Addr} {o : HO}
theorem ObjOk.lt (x : ObjOk P w H h a o) : a < h.objs.size := by
  cases o with
  | lst xs => obtain ⟨_, _, _, _, e⟩ := x; exact Heap.lt_size e
  | tup xs => obtain ⟨_, _, _, p⟩ := x; exact p.lt
  | dK kvs => obtain ⟨_, _, _, _, o, _, _, e, _⟩ := x; exact Heap.lt_size e
  | dT kvs => obtain ⟨_, _, _, _, o, _, _, e, _⟩ := x; exact Heap.lt_size e
  | set S n => obtain ⟨o, _, _, _, e, _⟩ := x; exact Heap.lt_size e
  | ins C dx fs => obtain ⟨_, _, _, e, _⟩ := x; exact Heap.lt_size e
  | own y => obtain ⟨_, e⟩ := x; exact Heap.lt_size e
  | xd fs => obtain ⟨_, ⟨_, _, _, e, _⟩, _⟩ := x; exact Heap.lt_size e
  | rng lo hi => obtain ⟨_, _, _, e⟩ := x; exact Heap.lt_size e
  | frz ob u => obtain ⟨e, _⟩ := x; exact Heap.lt_size e
  | tbl ps => exact Heap.lt_size (show h.get? a = some _ from x)
  | met f y => exact Heap.lt_size (show h.get? a = some _ from x)
  | ext φ => obtain ⟨_, ⟨_, e⟩, _⟩ := x; exact Heap.lt_size e
theorem Paired.mapP {α β : Type} {F G : α → β → Prop} : ∀ {l₁ : List α} {l₂ : List β}, Paired F l₁ l₂ → (∀ a b, F a b → G a b) → Paired G l₁ l₂
  | _, _, .nil, _ => .nil
  | _, _, .cons r t, f => .cons (f _ _ r) (Paired.mapP t f)
/-- what an object's description leans on: its own object, its own dict, the tuples -/
theorem ObjOk.stay (x : ObjOk P w H h a o) (k : ∀ b u, (b = a ∨ H b = some (.own a)) → h.get? b = some u → h'.get? b = some u)
    (ho : ∀ b, H b = some (.own a) → H' b = some (.own a)) (ht : ∀ b xs, H b = some (.tup xs) → H' b = some (.tup xs)) : ObjOk P w H' h' a o := by
  induction o with
  | lst xs => obtain ⟨z, its, n, r, e⟩ := x; exact ⟨z, its, n, r, k _ _ (.inl rfl) e⟩
  | tup xs => obtain ⟨z, its, r, ob, e, c⟩ := x; exact ⟨z, its, r, ob, k _ _ (.inl rfl) e, c⟩
  | dK kvs => obtain ⟨z, y, vs, r, ob, es, ep, e, c⟩ := x; exact ⟨z, y, vs, r, ob, es, ep, k _ _ (.inl rfl) e, c⟩
  | dT kvs =>
    obtain ⟨z, y, xs, r, ob, es, ep, e, c⟩ := x
    exact ⟨z, y, xs, Paired.mapP r fun p q z => ⟨z.1, ht _ _ z.2.1, z.2.2⟩, ob, es, ep, k _ _ (.inl rfl) e, c⟩
  | set S n => obtain ⟨ob, es, ep, t, e, c⟩ := x; exact ⟨ob, es, ep, t, k _ _ (.inl rfl) e, c⟩
  | ins C dx fs =>
    obtain ⟨d, z, ne, e, mA, ⟨od, es, ep, e2, c⟩, r⟩ := x
    exact ⟨ho _ d, z, ne, k _ _ (.inl rfl) e, mA, ⟨od, es, ep, k _ _ (.inr d) e2, c⟩, r⟩
  | own y => obtain ⟨ob, e⟩ := x; exact ⟨ob, k _ _ (.inl rfl) e⟩
  | xd fs => obtain ⟨mA, ⟨od, es, ep, e, c⟩, r⟩ := x; exact ⟨mA, ⟨od, es, ep, k _ _ (.inl rfl) e, c⟩, r⟩
  | rng lo hi => obtain ⟨t, u, v, e⟩ := x; exact ⟨t, u, v, k _ _ (.inl rfl) e⟩
  | frz ob u ih => obtain ⟨e, q⟩ := x; exact ⟨k _ _ (.inl rfl) e, ih q⟩
  | tbl ps =>
    have e : h.get? a = some { cls := .none, data := .fields ps } := x
    show h'.get? a = some { cls := .none, data := .fields ps }
    exact k a _ (.inl rfl) e
  | met f y =>
    have e : h.get? a = some (PySem.W.methodObj (.ref f) (.ref y)) := x
    show h'.get? a = some (PySem.W.methodObj (.ref f) (.ref y))
    exact k a _ (.inl rfl) e
  | ext φ => obtain ⟨p, ⟨o, e⟩, st⟩ := x; exact ⟨st _ _ p fun o q => k _ _ (.inl rfl) q, ⟨o, k _ _ (.inl rfl) e⟩, st⟩
theorem HOk.lt (x : HOk P w H h) (e : H a = some o) : a < h.objs.size := (x a o e).lt
theorem HOk.fresh (x : HOk P w H h) (e : h.objs.size ≤ a) : H a = none := by
  cases q : H a with
  | none => rfl
  | some u => exact absurd (Nat.lt_of_lt_of_le (x.lt q) e) (Nat.lt_irrefl _)
/-- every object of the heap is kept -/
theorem HOk.kept (x : HOk P w H h) (k : ∀ b u, h.get? b = some u → h'.get? b = some u) : HOk P w H h' := fun a o e =>
  (x a o e).stay (fun b u _ q => k b u q) (fun _ q => q) fun _ _ q => q
/-- a new object is laid and tracked -/
theorem HOk.laid (x : HOk P w H h) (k : ∀ b u, h.get? b = some u → h'.get? b = some u) (hp : h.objs.size ≤ a) (new : ObjOk P w (upd H a o) h' a o) : HOk P w (upd H a o) h' := fun b u e => by
  have hn := x.fresh hp
  by_cases hb : b = a
  · subst hb; rw [upd_same] at e; cases e; exact new
  · rw [upd_ne hb] at e
    exact (x b u e).stay (fun c v _ q => k c v q) (fun c q => by rw [upd_ne (ne_of_none q hn)]; exact q) fun c xs q => by rw [upd_ne (ne_of_none q hn)]; exact q
end
/-- what may be read as u: it is u, or a known u -/
def Rd (H : Hp) (a : Addr) (u : HO) : Prop := H a = some u ∨ ∃ o, H a = some (.frz o u)
theorem Rd.ok {P : Program} {w : World} {H : Hp} {h : Heap} {a : Addr} {u : HO} (r : Rd H a u) (x : HOk P w H h) : ObjOk P w H h a u := by
  rcases r with r | ⟨o, r⟩
  · exact x a u r
  · obtain ⟨_, q⟩ := x a _ r
    exact q
/-- what may be written -/
def Mut : Option HO → Prop
  | some (.lst _) => True
  | some (.dK _) => True
  | some (.dT _) => True
  | some (.set _ _) => True
  | some (.ins _ _ _) => True
  | some (.ext _) => True
  | _ => False
section
variable {P : Program} {w : World} {H : Hp} {h h' : Heap} {x e : Addr} {o' : HO}
/-- the object at e is changed: x itself, or the dict of the instance x -/
theorem HOk.write (ok : HOk P w H h) (mu : Mut (H x)) (he : e = x ∨ H e = some (.own x)) (k : ∀ b u, b ≠ e → h.get? b = some u → h'.get? b = some u) (heo : ∃ u, h'.get? e = some u)
    (new : ObjOk P w (upd H x o') h' x o') : HOk P w (upd H x o') h' := fun b u q => by
  have nown : ∀ c y, H c = some (.own y) → c ≠ x := fun c y r z => by subst z; rw [r] at mu; exact mu
  have ntup : ∀ c xs, H c = some (.tup xs) → c ≠ x := fun c xs r z => by subst z; rw [r] at mu; exact mu
  by_cases hb : b = x
  · subst hb; rw [upd_same] at q; cases q; exact new
  · rw [upd_ne hb] at q
    by_cases hbe : b = e
    · have q' : H b = some (.own x) := by
        rcases he with z | z
        · exact absurd (hbe.trans z) hb
        · rw [hbe]; exact z
      rw [q] at q'; cases q'
      obtain ⟨v, hv⟩ := heo
      exact ⟨v, by rw [hbe]; exact hv⟩
    · refine (ok b u q).stay (fun c v hc r => k c v ?_ r) (fun c r => by rw [upd_ne (nown c b r)]; exact r) fun c xs r => by rw [upd_ne (ntup c xs r)]; exact r
      rcases hc with rfl | hc
      · exact hbe
      · rintro rfl
        rcases he with z | z
        · exact nown c b hc z
        · rw [hc] at z; cases z; exact hb rfl
end
structure Un (fs ex : List Addr) (H H' : Hp) (h h' : Heap) : Prop where
  keep : ∀ b o, h.get? b = some o → H b = none → b ∉ fs → b ∉ ex → h'.get? b = some o
  slot : ∀ b o, h.get? b = some o → H b = none → b ∈ fs → b ∉ ex → ∃ sl, h'.get? b = some { o with slots := sl }
  free : ∀ b o, h.get? b = some o → H b = none → b ∉ ex → H' b = none
  there : ∀ b o, h.get? b = some o → b ∉ ex → ∃ o', h'.get? b = some o'
  tups : ∀ b xs, H b = some (.tup xs) → H' b = some (.tup xs)
  frzs : ∀ b o u, H b = some (.frz o u) → H' b = some (.frz o u)
  tbls : ∀ b ps, H b = some (.tbl ps) → ∃ more, H' b = some (.tbl (ps ++ more))
section
variable {fs fs' ex ex' : List Addr} {H H1 H2 : Hp} {h h1 h2 h' : Heap} {a x e : Addr} {o : HO}
theorem Un.any (u : Un fs ex H H1 h h1) {b : Addr} {ob : Obj} (q : h.get? b = some ob) (n : H b = none) (hx : b ∉ ex) : ∃ sl, h1.get? b = some { ob with slots := sl } := by
  by_cases hb : b ∈ fs
  · exact u.slot b ob q n hb hx
  · exact ⟨ob.slots, u.keep b ob q n hb hx⟩
theorem Un.kept (k : ∀ b u, h.get? b = some u → h'.get? b = some u) : Un fs ex H H h h' :=
  ⟨fun b ob q _ _ _ => k b ob q, fun b ob q _ _ _ => ⟨ob.slots, k b ob q⟩, fun _ _ _ n _ => n, fun b ob q _ => ⟨ob, k b ob q⟩, fun _ _ q => q, fun _ _ _ q => q, fun _ ps q => ⟨#[], by rw [q]; simp⟩⟩
theorem Un.refl : Un fs ex H H h h := Un.kept fun _ _ q => q
theorem Un.laid (k : ∀ b u, h.get? b = some u → h'.get? b = some u) (hp : h.objs.size ≤ a) (hn : H a = none) : Un fs ex H (upd H a o) h h' where
  keep := fun b u q _ _ _ => k b u q
  slot := fun b u q _ _ _ => ⟨u.slots, k b u q⟩
  free := fun b u q n _ => by rw [upd_ne (Nat.ne_of_lt (Nat.lt_of_lt_of_le (Heap.lt_size q) hp))]; exact n
  there := fun b u q _ => ⟨u, k b u q⟩
  tups := fun b xs q => by rw [upd_ne (ne_of_none q hn)]; exact q
  frzs := fun b u xs q => by rw [upd_ne (ne_of_none q hn)]; exact q
  tbls := fun b ps q => ⟨#[], by rw [upd_ne (ne_of_none q hn), q]; simp⟩
theorem Un.write (mu : Mut (H x)) (he : e = x ∨ H e = some (.own x)) (k : ∀ b u, b ≠ e → h.get? b = some u → h'.get? b = some u) (heo : ∃ u, h'.get? e = some u) : Un fs ex H (upd H x o) h h' := by
  have hx : ∀ b, H b = none → b ≠ x := fun b n z => by subst z; rw [n] at mu; exact mu
  have hb : ∀ b, H b = none → b ≠ e := fun b n z => by
    subst z
    rcases he with r | r
    · exact hx b n r
    · rw [n] at r; cases r
  have hm : ∀ b u, H b = some u → ¬ Mut (some u) → b ≠ x := fun b u q nm z => by subst z; rw [q] at mu; exact nm mu
  refine ⟨fun b u q n _ _ => k b u (hb b n) q, fun b u q n _ _ => ⟨u.slots, k b u (hb b n) q⟩, fun b u q n _ => by rw [upd_ne (hx b n)]; exact n, fun b u q _ => ?_,
    fun b xs q => by rw [upd_ne (hm b _ q fun z => z)]; exact q, fun b u xs q => by rw [upd_ne (hm b _ q fun z => z)]; exact q, fun b ps q => ⟨#[], by rw [upd_ne (hm b _ q fun z => z), q]; simp⟩⟩
  by_cases hbe : b = e
  · subst hbe; exact heo
  · exact ⟨u, k b u hbe q⟩
end
def trk (h : Heap) (H : Hp) : List Addr := (List.range h.objs.size).filter fun a => (H a).isSome
def hidT (h : Heap) (H : Hp) : Heap := PySem.W.hideAll h (trk h H)
theorem hidT_size (h : Heap) (H : Hp) : (hidT h H).objs.size = h.objs.size := PySem.W.hideAll_size _ _
theorem hidT_get {h : Heap} {H : Hp} {b : Addr} {o : Obj} (e : h.get? b = some o) (n : H b = none) : (hidT h H).get? b = some o :=
  PySem.W.hideAll_get _ e fun hm => by
    have q : (H b).isSome = true := (List.mem_filter.mp hm).2
    rw [n] at q; simp at q
theorem of_hidT {h : Heap} {H : Hp} {b : Addr} {o : Obj} (e : (hidT h H).get? b = some o) : h.get? b = some o ∧ H b = none := by
  have e' : h.get? b = some o := PySem.W.of_hideAll (trk h H) e
  refine ⟨e', ?_⟩
  cases q : H b with
  | none => rfl
  | some x =>
    have hm : b ∈ trk h H := List.mem_filter.mpr ⟨List.mem_range.mpr (Heap.lt_size e'), by simp [q]⟩
    have z : (hidT h H).get? b = none := PySem.W.hideAll_none (trk h H) hm
    rw [z] at e; cases e
def allNews (g h : Heap) (L : Addr) : List (Addr × Obj) := (List.range h.objs.size).filterMap fun a => if a = L ∨ (g.get? a).isSome = true then none else (h.get? a).map fun o => (a, o)
theorem mem_allNews {g h : Heap} {L a : Addr} {o : Obj} (h1 : a ≠ L) (h2 : g.get? a = none) (h3 : h.get? a = some o) : (a, o) ∈ allNews g h L :=
  List.mem_filterMap.mpr ⟨a, List.mem_range.mpr (Heap.lt_size h3), by simp [h1, h2, h3]⟩
theorem of_mem_allNews {g h : Heap} {L : Addr} {p : Addr × Obj} (hp : p ∈ allNews g h L) : p.1 ≠ L ∧ g.get? p.1 = none ∧ h.get? p.1 = some p.2 := by
  obtain ⟨b, _, e⟩ := List.mem_filterMap.mp hp
  split at e
  · cases e
  · rename_i hn
    cases q : h.get? b with
    | none => rw [q] at e; simp at e
    | some u =>
      rw [q] at e
      simp only [Option.map_some, Option.some.injEq] at e
      subst e
      refine ⟨fun z => hn (.inl z), ?_, q⟩
      show g.get? b = none
      cases r : g.get? b with
      | none => rfl
      | some v => exact (hn (.inr (by simp [r]))).elim
theorem news_all {g h : Heap} {L : Addr} : News g L h (allNews g h L) := fun p hp => let ⟨a, b, c⟩ := of_mem_allNews hp; ⟨c, a, b⟩
end L2
namespace L2
open PySem PySem.Spec PyProof.Rows
/-- the module's facts, over the base: the heap at the law's entry without what is tracked there -/
structure Mod (K : PySem.W.Frag) (mg : Str → Option Value) (base : Heap) : Prop where
  kin : K.In base
  glob : base.Ns mainGlobals mg
  blt : ∃ mb, base.Ns builtinsNs mb ∧ ∀ x : Str, x ≠ "__name__" → mb x = bootBuiltins x
  nolimit : base.NoLimit
/-- the context: a def's body (or a comprehension's block) running. base: fixed through the whole law; s₀, H₀: the entry; outer: the frames whose slots others may change (a def's callers); stack: all frames that run;
   ex: iterators that were made ahead of the entry and are walked here (a comprehension's); fn: the names whose cells were made at the entry (a def: all; a comprehension's block: its own); calm: not within an except suite; pn: pins that every state bears; xe: what is wanted of an exception that leaves the code -/
structure Cx where
  prog : Program
  w : World
  K : PySem.W.Frag
  mg : Str → Option Value
  base : Heap
  A : Around
  N : List Str
  s_0 : Shared
  H_0 : Hp
  env : Env
  outer : List Env
  stack : List Env
  ex : List Addr
  fn : Str → Bool
  calm : Bool
  pn : List (Addr × Obj)
  xe : Value → Shared → Prop
/-- the callers' frames -/
def frs (l : List Env) : List Addr := l.filterMap (·.frame)
abbrev Cx.fs (X : Cx) : List Addr := frs X.outer
def Vis (sc : Scope) (x : Str) : Prop := sc.names.lookup x = some .local ∨ sc.names.lookup x = some .cell ∨ sc.names.lookup x = some .free
def Loc (sc : Scope) (x : Str) : Prop := sc.names.lookup x = some .local ∨ sc.names.lookup x = some .cell
def Look (env : Env) (h : Heap) (m : Str → Option Value) (x : Str) (u : Value) : Prop :=
  (env.kindOf x = some .local ∧ m x = some u) ∨ ((env.kindOf x = some .cell ∨ env.kindOf x = some .free) ∧ ∃ c, env.cells.lookup x = some c ∧ h.IsCell c (some u))
structure Cx.Ok (X : Cx) : Prop where
  mod : Mod X.K X.mg X.base
  kind : X.env.scope.kind = .function
  glob : X.env.globals = mainGlobals
  blt : X.env.builtins = builtinsNs
  above : X.s_0.heap.objs.size ≤ X.env.locals
  inj : ∀ x y c, X.env.cells.lookup x = some c → X.env.cells.lookup y = some c → x = y
  has : ∀ x, (X.env.kindOf x = some .cell ∨ X.env.kindOf x = some .free) → ∃ c, X.env.cells.lookup x = some c
  cab : ∀ x c, X.fn x = true → X.env.cells.lookup x = some c → X.s_0.heap.objs.size ≤ c
  hd : X.calm = true → X.A.handled = none
  frames : X.A.frames = some X.stack
  stk : X.stack = X.outer ∨ (X.stack = X.env :: X.outer ∧ X.env.frame = some X.env.locals)
  exf : ∀ b ∈ X.ex, b ≠ X.env.locals ∧ ∀ x c, X.env.cells.lookup x = some c → c ≠ b
  bs : ∀ b o, X.base.get? b = some o → X.s_0.heap.get? b = some o ∧ X.H_0 b = none
  bsz : X.base.objs.size ≤ X.s_0.heap.objs.size
  noex : ∀ b o, X.base.get? b = some o → b ∉ X.ex
  exfs : ∀ b ∈ X.ex, b ∉ X.fs
  funs : X.s_0.heap.FunFrames X.base X.outer
  frf : ∀ b ∈ X.fs, X.H_0 b = none
structure Inv (X : Cx) (pins : List (Addr × Obj)) (σ : List (Option V)) (H : Hp) (s : Shared) : Prop where
  ok : X.Ok
  os : s.os = X.s_0.os
  bare : AllBare s.gens
  base : Un X.fs X.ex X.H_0 H X.s_0.heap s.heap
  loc : ∃ m, s.heap.Ns X.env.locals m ∧ ∀ (i : Nat) (x : Str) (v : V), X.N[i]? = some x → σ[i]? = some (some v) → Vis X.env.scope x → ∃ u, RelV v u ∧ Look X.env s.heap m x u
  cell : ∀ x c, X.env.cells.lookup x = some c → ∃ v, s.heap.IsCell c v
  free : H X.env.locals = none
  freeC : ∀ x c, X.env.cells.lookup x = some c → H c = none
  pin : ∀ p ∈ X.pn ++ pins, s.heap.get? p.1 = some p.2 ∧ H p.1 = none ∧ p.1 ≠ X.env.locals ∧ p.1 ∉ X.fs ∧ ∀ v, p.2.data ≠ .cell v
  hok : HOk X.prog X.w H s.heap
  len : σ.length = X.N.length
section
variable {X : Cx} {pins : List (Addr × Obj)} {σ : List (Option V)} {H H' : Hp} {s : Shared} {h' : Heap}
theorem Cx.Ok.nofr (ok : X.Ok) {b : Addr} {o : Obj} (e : X.base.get? b = some o) : b ∉ X.fs := fun hb => by
  have := (ok.funs.mem hb).1
  rw [e] at this; cases this
theorem Inv.bs (I : Inv X pins σ H s) : ∀ b o, X.base.get? b = some o → s.heap.get? b = some o ∧ H b = none := fun b o e =>
  ⟨I.base.keep b o (I.ok.bs b o e).1 (I.ok.bs b o e).2 (I.ok.nofr e) (I.ok.noex b o e), I.base.free b o (I.ok.bs b o e).1 (I.ok.bs b o e).2 (I.ok.noex b o e)⟩
theorem Inv.bk (I : Inv X pins σ H s) : ∀ b o, X.base.get? b = some o → s.heap.get? b = some o := fun b o e => (I.bs b o e).1
theorem Inv.mod (I : Inv X pins σ H s) : Mod X.K X.mg X.base := I.ok.mod
theorem Inv.kIn (I : Inv X pins σ H s) : X.K.In s.heap := I.ok.mod.kin.keeps I.bk
/-- the frame over the base: for OpenK's rules (K.In X.base is I.mod.kin) -/
theorem Inv.fr (I : Inv X pins σ H s) : ∃ m, Fr X.base X.env.locals s.heap m :=
  let ⟨m, hn, _⟩ := I.loc
  ⟨m, hn, I.bk, Nat.le_trans I.ok.bsz I.ok.above⟩
theorem Inv.lt (I : Inv X pins σ H s) : X.env.locals < s.heap.objs.size := let ⟨_, hn, _⟩ := I.loc; hn.lt
theorem Inv.sz (I : Inv X pins σ H s) : X.s_0.heap.objs.size ≤ s.heap.objs.size := Nat.le_trans I.ok.above (Nat.le_of_lt I.lt)
theorem Inv.nofs (I : Inv X pins σ H s) {a : Addr} (h : s.heap.objs.size ≤ a) : a ∉ X.fs := fun hb => by
  obtain ⟨_, o, ho, _⟩ := I.ok.funs.mem hb
  exact absurd (Nat.lt_of_lt_of_le (Heap.lt_size ho) (Nat.le_trans I.sz h)) (Nat.lt_irrefl _)
theorem Inv.cne (I : Inv X pins σ H s) : ∀ x c, X.env.cells.lookup x = some c → c ≠ X.env.locals := fun x c e z => by
  obtain ⟨v, o, ho, hd⟩ := I.cell x c e
  obtain ⟨m, ⟨o', es, ep, ho', hd', _⟩, _⟩ := I.loc
  rw [z, ho'] at ho; cases ho; rw [hd'] at hd; cases hd
theorem Inv.funs (I : Inv X pins σ H s) : s.heap.FunFrames X.base X.outer := by
  have all : ∀ (l : List Env), (∀ b ∈ frs l, b ∈ X.fs) → X.s_0.heap.FunFrames X.base l → s.heap.FunFrames X.base l := by
    intro l
    induction l with
    | nil => intro _ _; trivial
    | cons env r ih =>
      intro hs hl
      obtain ⟨hk, ⟨L, o, hf, hn, ho, hd⟩, hr⟩ := hl
      have hL : L ∈ X.fs := hs L (by unfold frs; rw [List.filterMap_cons, hf]; exact List.mem_cons_self)
      obtain ⟨sl, e⟩ := I.base.slot L o ho (I.ok.frf L hL) hL fun z => I.ok.exfs L z hL
      exact ⟨hk, ⟨L, _, hf, hn, e, hd⟩, ih (fun b hb => hs b (by unfold frs; rw [List.filterMap_cons, hf]; exact List.mem_cons_of_mem _ hb)) hr⟩
  exact all X.outer (fun _ hb => hb) I.ok.funs
/-- the frames that run, for a call -/
theorem Inv.stack (I : Inv X pins σ H s) : s.heap.FunFrames X.base X.stack := by
  rcases I.ok.stk with e | ⟨e, hf⟩
  · rw [e]; exact I.funs
  · rw [e]
    obtain ⟨m, hn, _⟩ := I.loc
    refine .cons (by rw [I.ok.kind]; decide) hf hn ?_ I.funs
    exact Heap.get?_none_of_le (Nat.le_trans I.ok.bsz I.ok.above)
theorem Inv.stkSub (I : Inv X pins σ H s) : ∀ b ∈ frs X.stack, b ∈ X.env.locals :: X.fs := fun b hb => by
  rcases I.ok.stk with e | ⟨e, hf⟩
  · rw [e] at hb; exact List.mem_cons_of_mem _ hb
  · rw [e] at hb
    unfold frs at hb
    rw [List.filterMap_cons, hf] at hb
    exact hb
theorem Inv.stkFree (I : Inv X pins σ H s) : ∀ b ∈ frs X.stack, H b = none := fun b hb => by
  rcases List.mem_cons.mp (I.stkSub b hb) with e | hb
  · rw [e]; exact I.free
  · obtain ⟨_, o, ho, _⟩ := I.ok.funs.mem hb
    exact I.base.free b o ho (I.ok.frf b hb) fun z => I.ok.exfs b z hb
/-- THE STEP: the untracked objects but the frame and the records at ch are kept (the callers' frames up to slots), the frame's map is kept, the new abstract heap is held -/
theorem Inv.step {g' : Array GenState} {t' : Nat} {d' : Drawn} {ch : List Addr} (I : Inv X pins σ H s)
    (hch : ∀ b ∈ ch, (b ∈ X.ex ∨ X.s_0.heap.objs.size ≤ b) ∧ b ≠ X.env.locals ∧ (∀ x c, X.env.cells.lookup x = some c → c ≠ b) ∧ ∀ p ∈ X.pn ++ pins, p.1 ≠ b)
    (keep : ∀ b o, b ≠ X.env.locals → b ∉ X.fs → b ∉ ch → s.heap.get? b = some o → H b = none → h'.get? b = some o)
    (slot : ∀ b o, b ≠ X.env.locals → b ∈ X.fs → b ∉ ch → s.heap.get? b = some o → H b = none → ∃ sl, h'.get? b = some { o with slots := sl }) (free : ∀ b o, b ∉ ch → s.heap.get? b = some o → H b = none → H' b = none)
    (there : ∀ b o, b ∉ ch → s.heap.get? b = some o → ∃ o', h'.get? b = some o')
    (tups : ∀ b xs, H b = some (.tup xs) → H' b = some (.tup xs)) (frzs : ∀ b o u, H b = some (.frz o u) → H' b = some (.frz o u)) (tbls : ∀ b ps, H b = some (.tbl ps) → ∃ more, H' b = some (.tbl (ps ++ more)))
    (ns : ∀ m, s.heap.Ns X.env.locals m → h'.Ns X.env.locals m) (hok : HOk X.prog X.w H' h') (hg : AllBare g') :
    Inv X pins σ H' { s with heap := h', gens := g', drawn := d', toks := t' } := by
  have neL : ∀ b o, X.s_0.heap.get? b = some o → b ≠ X.env.locals := fun b o e => Nat.ne_of_lt (Nat.lt_of_lt_of_le (Heap.lt_size e) I.ok.above)
  have neC : ∀ b o, X.s_0.heap.get? b = some o → b ∉ X.ex → b ∉ ch := fun b o e hx hb => by
    rcases (hch b hb).1 with z | z
    · exact hx z
    · exact absurd (Nat.lt_of_lt_of_le (Heap.lt_size e) z) (Nat.lt_irrefl _)
  have cellK : ∀ x c, X.env.cells.lookup x = some c → ∀ v, s.heap.IsCell c v → h'.IsCell c v := fun x c e v ⟨o, ho, hd⟩ => by
    have nch : c ∉ ch := fun z => (hch c z).2.2.1 x c e rfl
    by_cases hc : c ∈ X.fs
    · obtain ⟨sl, q⟩ := slot c o (I.cne x c e) hc nch ho (I.freeC x c e)
      exact ⟨_, q, hd⟩
    · exact ⟨o, keep c o (I.cne x c e) hc nch ho (I.freeC x c e), hd⟩
  refine ⟨I.ok, I.os, hg, ⟨fun b o e n hb hx => ?_, fun b o e n hb hx => ?_, fun b o e n hx => ?_, fun b o e hx => ?_, fun b xs e => tups b xs (I.base.tups b xs e), fun b o xs e => frzs b o xs (I.base.frzs b o xs e), fun b ps e => ?_⟩, ?_, fun x c e => ?_, ?_, fun x c e => ?_, fun p hp => ?_, hok, I.len⟩
  · exact keep b o (neL b o e) hb (neC b o e hx) (I.base.keep b o e n hb hx) (I.base.free b o e n hx)
  · obtain ⟨sl, e1⟩ := I.base.slot b o e n hb hx
    obtain ⟨sl', e2⟩ := slot b _ (neL b o e) hb (neC b o e hx) e1 (I.base.free b o e n hx)
    exact ⟨sl', e2⟩
  · obtain ⟨o', e1⟩ := I.base.there b o e hx
    exact free b o' (neC b o e hx) e1 (I.base.free b o e n hx)
  · obtain ⟨o', e1⟩ := I.base.there b o e hx
    exact there b o' (neC b o e hx) e1
  · obtain ⟨m1, e1⟩ := I.base.tbls b ps e
    obtain ⟨m2, e2⟩ := tbls b _ e1
    exact ⟨m1 ++ m2, by rw [e2, Array.append_assoc]⟩
  · obtain ⟨m, hn, hl⟩ := I.loc
    refine ⟨m, ns m hn, fun i x v e1 e2 e3 => ?_⟩
    obtain ⟨u, r, l⟩ := hl i x v e1 e2 e3
    refine ⟨u, r, ?_⟩
    rcases l with l | ⟨k, c, e, z⟩
    · exact .inl l
    · exact .inr ⟨k, c, e, cellK x c e _ z⟩
  · obtain ⟨v, z⟩ := I.cell x c e
    exact ⟨v, cellK x c e v z⟩
  · obtain ⟨m, ⟨o, _, _, ho, _⟩, _⟩ := I.loc
    exact free _ o (fun z => (hch _ z).2.1 rfl) ho I.free
  · obtain ⟨v, o, ho, hd⟩ := I.cell x c e
    exact free c o (fun z => (hch c z).2.2.1 x c e rfl) ho (I.freeC x c e)
  · obtain ⟨e, n, ne, nf, d⟩ := I.pin p hp
    have nch : p.1 ∉ ch := fun z => (hch p.1 z).2.2.2 p hp rfl
    exact ⟨keep p.1 p.2 ne nf nch e n, free p.1 p.2 nch e n, ne, nf, d⟩
/-- .. where the frame's own object is kept too -/
theorem Inv.un {t' : Nat} (I : Inv X pins σ H s) (u : Un X.fs [] H H' s.heap h') (hok : HOk X.prog X.w H' h') : Inv X pins σ H' { s with heap := h', toks := t' } := by
  obtain ⟨m, ⟨o, es, ep, ho, r⟩, _⟩ := id I.loc
  obtain ⟨sl, hL⟩ := u.any ho I.free (by simp)
  exact I.step (g' := s.gens) (d' := s.drawn) (ch := []) (fun _ z => nomatch z) (fun b o _ hb _ e n => u.keep b o e n hb (by simp)) (fun b o _ hb _ e n => u.slot b o e n hb (by simp)) (fun b o _ e n => u.free b o e n (by simp)) (fun b o _ e => u.there b o e (by simp)) u.tups u.frzs u.tbls (fun m' hm => by
    obtain ⟨o', es', ep', ho', r'⟩ := hm
    rw [ho] at ho'; cases ho'
    exact ⟨_, es', ep', hL, r'⟩) hok I.bare
/-- behind a call (or a comprehension's block): the slots of this frame may have changed too, the records at ch may have turned -/
theorem Inv.call {g' : Array GenState} {t' : Nat} {d' : Drawn} {ch : List Addr} (I : Inv X pins σ H s) (u : Un (frs X.stack) ch H H' s.heap h') (hok : HOk X.prog X.w H' h') (hg : AllBare g')
    (hch : ∀ b ∈ ch, (b ∈ X.ex ∨ X.s_0.heap.objs.size ≤ b) ∧ b ≠ X.env.locals ∧ (∀ x c, X.env.cells.lookup x = some c → c ≠ b) ∧ ∀ p ∈ X.pn ++ pins, p.1 ≠ b) :
    Inv X pins σ H' { s with heap := h', gens := g', drawn := d', toks := t' } := by
  obtain ⟨m, ⟨o, es, ep, ho, r⟩, _⟩ := id I.loc
  obtain ⟨sl, hL⟩ := u.any ho I.free fun z => (hch _ z).2.1 rfl
  exact I.step (ch := ch) hch (fun b o hL hb hc e n => u.keep b o e n (fun z => (List.mem_cons.mp (I.stkSub b z)).elim hL hb) hc) (fun b o _ _ hc e n => u.any e n hc) (fun b o hc e n => u.free b o e n hc) (fun b o hc e => u.there b o e hc) u.tups u.frzs u.tbls (fun m' hm => by
    obtain ⟨o', es', ep', ho', r'⟩ := hm
    rw [ho] at ho'; cases ho'
    exact ⟨_, es', ep', hL, r'⟩) hok hg
/-- an untracked record of ours (an iterator) has turned -/
theorem Inv.turned {t' : Nat} {it : Addr} (I : Inv X pins σ H s) (k : ∀ b o, b ≠ it → s.heap.get? b = some o → h'.get? b = some o) (hn : H it = none) (hL : it ≠ X.env.locals)
    (h1 : it ∈ X.ex ∨ X.s_0.heap.objs.size ≤ it) (h2 : ∀ x c, X.env.cells.lookup x = some c → c ≠ it) (h3 : ∀ p ∈ X.pn ++ pins, p.1 ≠ it) : Inv X pins σ H { s with heap := h', toks := t' } := by
  have nit : ∀ b u, H b = some u → b ≠ it := fun b u e z => by rw [z, hn] at e; cases e
  refine I.step (g' := s.gens) (d' := s.drawn) (ch := [it]) (fun b hb => ?_) (fun b o _ _ hc e _ => k b o (fun z => hc (by simp [z])) e) (fun b o _ _ hc e _ => ⟨o.slots, k b o (fun z => hc (by simp [z])) e⟩) (fun _ _ _ _ n => n)
    (fun b o hc e => ⟨o, k b o (fun z => hc (by simp [z])) e⟩) (fun _ _ e => e) (fun _ _ _ e => e) (fun b ps e => ⟨#[], by rw [e]; simp⟩) (fun m hm => ?_) (fun b u e => ?_) I.bare
  · have e : b = it := by simpa using hb
    subst e
    exact ⟨h1, hL, h2, h3⟩
  · obtain ⟨o, es, ep, ho, r⟩ := hm
    exact ⟨o, es, ep, k _ o (Ne.symm hL) ho, r⟩
  · refine (I.hok b u e).stay (fun c v hc q => k c v ?_ q) (fun _ q => q) fun _ _ q => q
    rcases hc with z | z
    · rw [z]; exact nit b u e
    · exact nit c _ z
theorem Inv.tok (I : Inv X pins σ H s) (t : Nat) : Inv X pins σ H { s with toks := t } := I.un (h' := s.heap) (t' := t) Un.refl I.hok
/-- all objects kept -/
theorem Inv.kept {t' : Nat} (I : Inv X pins σ H s) (k : ∀ b u, s.heap.get? b = some u → h'.get? b = some u) : Inv X pins σ H { s with heap := h', toks := t' } := I.un (Un.kept k) (I.hok.kept k)
/-- a new object laid and tracked -/
theorem Inv.laid {a : Addr} {o : HO} {t' : Nat} (I : Inv X pins σ H s) (k : ∀ b u, s.heap.get? b = some u → h'.get? b = some u) (hp : s.heap.objs.size ≤ a) (new : ObjOk X.prog X.w (upd H a o) h' a o) :
    Inv X pins σ (upd H a o) { s with heap := h', toks := t' } := I.un (Un.laid k hp (I.hok.fresh hp)) (I.hok.laid k hp new)
/-- an object written -/
theorem Inv.write {x e : Addr} {o : HO} {t' : Nat} (I : Inv X pins σ H s) (mu : Mut (H x)) (he : e = x ∨ H e = some (.own x)) (k : ∀ b u, b ≠ e → s.heap.get? b = some u → h'.get? b = some u) (heo : ∃ u, h'.get? e = some u)
    (new : ObjOk X.prog X.w (upd H x o) h' x o) : Inv X pins σ (upd H x o) { s with heap := h', toks := t' } := I.un (Un.write mu he k heo) (I.hok.write mu he k heo new)
/-- forgetting slots, pins -/
theorem Inv.weak {σ' : List (Option V)} (I : Inv X pins σ H s) (hl : σ'.length = σ.length) (w : ∀ (i : Nat) v, σ'[i]? = some (some v) → σ[i]? = some (some v)) : Inv X pins σ' H s :=
  ⟨I.ok, I.os, I.bare, I.base, let ⟨m, hn, hl'⟩ := I.loc; ⟨m, hn, fun i x v e1 e2 e3 => hl' i x v e1 (w i v e2) e3⟩, I.cell, I.free, I.freeC, I.pin, I.hok, hl.trans I.len⟩
theorem Inv.pins_of {pins' : List (Addr × Obj)} (I : Inv X pins σ H s) (h : ∀ p ∈ pins', s.heap.get? p.1 = some p.2 ∧ H p.1 = none ∧ p.1 ≠ X.env.locals ∧ p.1 ∉ X.fs ∧ ∀ v, p.2.data ≠ .cell v) : Inv X pins' σ H s :=
  ⟨I.ok, I.os, I.bare, I.base, I.loc, I.cell, I.free, I.freeC, fun p hp => (List.mem_append.mp hp).elim (fun z => I.pin p (List.mem_append_left _ z)) (h p), I.hok, I.len⟩
theorem nodup_ix {N : List Str} (hN : N.Nodup) {i j : Nat} {x : Str} (a : N[i]? = some x) (b : N[j]? = some x) : i = j := by
  obtain ⟨h1, e1⟩ := List.getElem?_eq_some_iff.mp a
  obtain ⟨h2, e2⟩ := List.getElem?_eq_some_iff.mp b
  exact (List.getElem_inj hN).mp (e1.trans e2.symm)
/-- a name is stored; what changed -/
theorem store_ok2 {M : Model} {A : Around} {E : Value → Shared → Prop} {i : Nat} {x : Str} {v : V} {u : Value} {Q : Unit → Shared → Prop} (I : Inv X pins σ H s) (hN : X.N.Nodup) (hi : X.N[i]? = some x) (hx : Loc X.env.scope x) (r : RelV v u)
    (h : ∀ s', Inv X pins (σ.set i (some v)) H s' → (∃ a, Heap.SameBut a s.heap s'.heap ∧ (a = X.env.locals ∨ X.env.cells.lookup x = some a)) → Q () s') (hf : X.fn x = true ∨ X.env.scope.names.lookup x = some .local := by first | exact .inl rfl | exact .inr rfl | assumption) : wpAny M A (storeName X.env x u) Q E s := by
  obtain ⟨m, hn, hl⟩ := id I.loc
  have hcls : (X.env.scope.kind == .class || (X.env.scope.kind == .module && X.env.locals != X.env.globals)) = false := by rw [I.ok.kind]; rfl
  have hiσ : i < σ.length := by rw [I.len]; exact (List.getElem?_eq_some_iff.mp hi).1
  have cne := I.cne
  have tracked : ∀ {a : Addr} {h' : Heap}, (∃ o, s.heap.get? a = some o ∧ H a = none) → Heap.SameBut a s.heap h' → HOk X.prog X.w H h' := fun {a h'} ha hs b ob e => by
    obtain ⟨_, _, hfree⟩ := ha
    refine (I.hok b ob e).stay (fun c w' hc q => (hs.2 c ?_).trans q) (fun _ q => q) fun _ _ q => q
    rintro rfl
    rcases hc with rfl | hc
    · rw [hfree] at e; cases e
    · rw [hfree] at hc; cases hc
  rcases hx with hk | hk
  · refine wpAny_storeName_local hk hn (fun h' hn' hs => ?_) hcls
    obtain ⟨oL, _, _, hoL, _⟩ := id hn
    refine h _ ⟨I.ok, I.os, I.bare, ⟨fun b o e n hb hx => ?_, fun b o e n hb hx => ?_, I.base.free, fun b o e hx => ?_, I.base.tups, I.base.frzs, I.base.tbls⟩, ⟨_, hn', fun j y v' e1 e2 e3 => ?_⟩, fun y c e => ?_, I.free, I.freeC, fun p hp => ?_, tracked ⟨oL, hoL, I.free⟩ hs, by simpa using I.len⟩ ⟨_, hs, .inl rfl⟩
    · exact (hs.2 b (Nat.ne_of_lt (Nat.lt_of_lt_of_le (Heap.lt_size e) I.ok.above))).trans (I.base.keep b o e n hb hx)
    · obtain ⟨sl, e1⟩ := I.base.slot b o e n hb hx
      exact ⟨sl, (hs.2 b (Nat.ne_of_lt (Nat.lt_of_lt_of_le (Heap.lt_size e) I.ok.above))).trans e1⟩
    · obtain ⟨o', e1⟩ := I.base.there b o e hx
      exact ⟨o', (hs.2 b (Nat.ne_of_lt (Nat.lt_of_lt_of_le (Heap.lt_size e) I.ok.above))).trans e1⟩
    · by_cases hj : j = i
      · subst hj
        rw [hi] at e1; cases e1
        rw [List.getElem?_set_self hiσ] at e2
        cases e2
        exact ⟨u, r, .inl ⟨hk, by simp⟩⟩
      · rw [List.getElem?_set_ne (Ne.symm hj)] at e2
        obtain ⟨u', r', q⟩ := hl j y v' e1 e2 e3
        refine ⟨u', r', ?_⟩
        rcases q with ⟨k, e⟩ | ⟨k, c, e, z⟩
        · refine .inl ⟨k, ?_⟩
          have : y ≠ x := fun e => hj (nodup_ix hN e1 (e ▸ hi))
          simp [this, e]
        · exact .inr ⟨k, c, e, z.sameBut hs (cne y c e)⟩
    · obtain ⟨w', z⟩ := I.cell y c e
      exact ⟨w', z.sameBut hs (cne y c e)⟩
    · obtain ⟨e, n, ne, nf, d⟩ := I.pin p hp
      exact ⟨(hs.2 p.1 ne).trans e, n, ne, nf, d⟩
  · have hfn : X.fn x = true := by
      rcases hf with z | z
      · exact z
      · rw [z] at hk; cases hk
    obtain ⟨c, hc⟩ := I.ok.has x (.inl hk)
    obtain ⟨w', z⟩ := I.cell x c hc
    refine wpAny_storeName_cell I.ok.kind hk hc z (fun h' hc' hs => ?_)
    obtain ⟨oc, hoc, hocd⟩ := id z
    refine h { s with heap := h' } ⟨I.ok, I.os, I.bare, ⟨fun b o e n hb hx => ?_, fun b o e n hb hx => ?_, I.base.free, fun b o e hx => ?_, I.base.tups, I.base.frzs, I.base.tbls⟩, ⟨m, hn.sameBut hs (Ne.symm (cne x c hc)), fun j y v' e1 e2 e3 => ?_⟩, fun y c' e => ?_, I.free, I.freeC, fun p hp => ?_, tracked ⟨oc, hoc, I.freeC x c hc⟩ hs, by simpa using I.len⟩ ⟨c, hs, .inr hc⟩
    · exact (hs.2 b (Nat.ne_of_lt (Nat.lt_of_lt_of_le (Heap.lt_size e) (I.ok.cab x c hfn hc)))).trans (I.base.keep b o e n hb hx)
    · obtain ⟨sl, e1⟩ := I.base.slot b o e n hb hx
      exact ⟨sl, (hs.2 b (Nat.ne_of_lt (Nat.lt_of_lt_of_le (Heap.lt_size e) (I.ok.cab x c hfn hc)))).trans e1⟩
    · obtain ⟨o', e1⟩ := I.base.there b o e hx
      exact ⟨o', (hs.2 b (Nat.ne_of_lt (Nat.lt_of_lt_of_le (Heap.lt_size e) (I.ok.cab x c hfn hc)))).trans e1⟩
    · by_cases hj : j = i
      · subst hj
        rw [hi] at e1; cases e1
        rw [List.getElem?_set_self hiσ] at e2
        cases e2
        exact ⟨u, r, .inr ⟨.inl hk, c, hc, hc'⟩⟩
      · rw [List.getElem?_set_ne (Ne.symm hj)] at e2
        obtain ⟨u', r', q⟩ := hl j y v' e1 e2 e3
        refine ⟨u', r', ?_⟩
        rcases q with q | ⟨k, c', e, z'⟩
        · exact .inl q
        · refine .inr ⟨k, c', e, z'.sameBut hs ?_⟩
          rintro rfl
          exact hj (nodup_ix hN e1 (I.ok.inj _ _ _ e hc ▸ hi))
    · by_cases hcc : c' = c
      · subst hcc; exact ⟨_, hc'⟩
      · obtain ⟨w2, z2⟩ := I.cell y c' e
        exact ⟨w2, z2.sameBut hs hcc⟩
    · obtain ⟨e, n, ne, nf, d⟩ := I.pin p hp
      refine ⟨(hs.2 p.1 ?_).trans e, n, ne, nf, d⟩
      intro q
      rw [q, hoc] at e
      have q' : oc = p.2 := Option.some.inj e
      exact d w' (by rw [← q']; exact hocd)
theorem store_ok {M : Model} {A : Around} {E : Value → Shared → Prop} {i : Nat} {x : Str} {v : V} {u : Value} {Q : Unit → Shared → Prop} (I : Inv X pins σ H s) (hN : X.N.Nodup) (hi : X.N[i]? = some x) (hx : Loc X.env.scope x) (r : RelV v u)
    (h : ∀ s', Inv X pins (σ.set i (some v)) H s' → Q () s') (hf : X.fn x = true ∨ X.env.scope.names.lookup x = some .local := by first | exact .inl rfl | exact .inr rfl | assumption) : wpAny M A (storeName X.env x u) Q E s :=
  store_ok2 I hN hi hx r (fun s' I' _ => h s' I') hf
/-- behind a call or a block, the state as it is -/
theorem Inv.call' {s' : Shared} {ch : List Addr} (I : Inv X pins σ H s) (ho : s'.os = s.os) (u : Un (frs X.stack) ch H H' s.heap s'.heap) (hok : HOk X.prog X.w H' s'.heap) (hg : AllBare s'.gens)
    (hch : ∀ b ∈ ch, (b ∈ X.ex ∨ X.s_0.heap.objs.size ≤ b) ∧ b ≠ X.env.locals ∧ (∀ x c, X.env.cells.lookup x = some c → c ≠ b) ∧ ∀ p ∈ X.pn ++ pins, p.1 ≠ b) : Inv X pins σ H' s' := by
  obtain ⟨h', g', d', t', o'⟩ := s'
  have e : o' = s.os := ho
  subst e
  exact I.call (g' := g') (t' := t') (d' := d') u hok hg hch
end
/-- an exception: its class, its own dict's address (where it has one), the abstract heap behind it -/
abbrev XK := Value → Option Addr → Hp → Prop
abbrev St := List (Option V)
abbrev VK := V → Hp → Prop
/-- an expression's reading; a test's; an argument list's -/
abbrev TE := St → Hp → VK → Prop
abbrev TT := St → Hp → (Bool → Hp → Prop) → Prop
abbrev TA := St → Hp → (List V → Hp → Prop) → Prop
/-- what is wanted behind a statement -/
structure Ends where
  nx : St → Hp → Prop
  rt : VK
  bk : St → Hp → Prop := fun _ _ => False
  ct : St → Hp → Prop := fun _ _ => False
abbrev TS := Ends → St → Hp → Prop
def EP (X : Cx) (pins : List (Addr × Obj)) (σ : St) (Q : VK) (u : Value) (s' : Shared) : Prop := ∃ v H', Inv X pins σ H' s' ∧ RelV v u ∧ Q v H'
def TP (X : Cx) (pins : List (Addr × Obj)) (σ : St) (Q : Bool → Hp → Prop) (b : Bool) (s' : Shared) : Prop := ∃ H', Inv X pins σ H' s' ∧ Q b H'
def AP (X : Cx) (pins : List (Addr × Obj)) (σ : St) (Q : List V → Hp → Prop) (us : List Value) (s' : Shared) : Prop := ∃ vs H', Inv X pins σ H' s' ∧ Vals vs us ∧ Q vs H'
def SP (X : Cx) (pins : List (Addr × Obj)) (D : Ends) (f : Flow) (s' : Shared) : Prop :=
  match f with
  | .next => ∃ σ' H', Inv X pins σ' H' s' ∧ D.nx σ' H'
  | .brk => ∃ σ' H', Inv X pins σ' H' s' ∧ D.bk σ' H'
  | .cont => ∃ σ' H', Inv X pins σ' H' s' ∧ D.ct σ' H'
  | .ret u => ∃ v σ' H', Inv X pins σ' H' s' ∧ RelV v u ∧ D.rt v H'
def PE (X : Cx) (e : Expr) (t : TE) : Prop :=
  ∀ (pins : List (Addr × Obj)) (s : Shared) (σ : St) (H : Hp) (Q : VK), Inv X pins σ H s → t σ H Q → wpAny (model X.prog X.w) X.A (eval e X.env) (EP X pins σ Q) X.xe s
def PT (X : Cx) (e : Expr) (t : TT) : Prop :=
  ∀ (pins : List (Addr × Obj)) (s : Shared) (σ : St) (H : Hp) (Q : Bool → Hp → Prop), Inv X pins σ H s → t σ H Q → wpAny (model X.prog X.w) X.A (isTrue e X.env (eval e X.env)) (TP X pins σ Q) X.xe s
/-- a test whatever its 'whole' is (and, or) -/
def PW (X : Cx) (e : Expr) (t : TT) : Prop :=
  ∀ (whole : Sem Value) (pins : List (Addr × Obj)) (s : Shared) (σ : St) (H : Hp) (Q : Bool → Hp → Prop), Inv X pins σ H s → t σ H Q → wpAny (model X.prog X.w) X.A (isTrue e X.env whole) (TP X pins σ Q) X.xe s
theorem PW.pt {X : Cx} {e : Expr} {t : TT} (h : PW X e t) : PT X e t := h _
/-- an argument list (no star), from the left -/
def PA (X : Cx) (es : List Expr) (t : TA) : Prop :=
  ∀ (pos : Pos) (pins : List (Addr × Obj)) (s : Shared) (σ : St) (H : Hp) (Q : List V → Hp → Prop), Inv X pins σ H s → t σ H Q → wpAny (model X.prog X.w) X.A (spliced (backTo pos (starEach es X.env))) (AP X pins σ Q) X.xe s
def PS (X : Cx) (st : Stmt) (t : TS) : Prop :=
  ∀ (pins : List (Addr × Obj)) (s : Shared) (σ : St) (H : Hp) (D : Ends), Inv X pins σ H s → t D σ H → wpAny (model X.prog X.w) X.A (exec st X.env) (SP X pins D) X.xe s
def PSs (X : Cx) (st : List Stmt) (t : TS) : Prop :=
  ∀ (pins : List (Addr × Obj)) (s : Shared) (σ : St) (H : Hp) (D : Ends), Inv X pins σ H s → t D σ H → wpAny (model X.prog X.w) X.A (execs st X.env) (SP X pins D) X.xe s
/-- weaken the end -/
theorem thn {α : Type} {t : Sem α} {Q Q' : α → Shared → Prop} {M : Model} {A : Around} {E : Value → Shared → Prop} {s : Shared} (h : wpAny M A t Q E s) (hQ : ∀ a s, Q a s → Q' a s) : wpAny M A t Q' E s := wpAny_mono h hQ fun _ _ x => x
end L2
namespace L2
open PySem PySem.Spec PyProof.Rows
section
variable {X : Cx}
/-- two expressions in a row -/
theorem bin {a b : Expr} {ta tb : TE} (ha : PE X a ta) (hb : PE X b tb) {pins : List (Addr × Obj)} {s : Shared} {σ : St} {H : Hp} {R : V → V → Hp → Prop} (I : Inv X pins σ H s) (h : ta σ H fun x H1 => tb σ H1 fun y H2 => R x y H2)
    {α : Type} {Q : α → Shared → Prop} {f : Value → Value → Sem α}
    (hf : ∀ v u s2 x y H2, Inv X pins σ H2 s2 → RelV x v → RelV y u → R x y H2 → wpAny (model X.prog X.w) X.A (f v u) Q X.xe s2) :
    wpAny (model X.prog X.w) X.A (eval a X.env) (fun v s₁ => wpAny (model X.prog X.w) X.A (eval b X.env) (fun u s₂ => wpAny (model X.prog X.w) X.A (f v u) Q X.xe s₂) X.xe s₁) X.xe s := by
  refine thn (ha pins s σ H _ I h) fun v s1 ⟨x, H1, I1, r1, q1⟩ => ?_
  refine thn (hb pins s1 σ H1 _ I1 q1) fun u s2 ⟨y, H2, I2, r2, q2⟩ => ?_
  exact hf v u s2 x y H2 I2 r1 r2 q2
def tVar (i : Nat) : TE := fun σ H Q => ∃ v, σ[i]? = some (some v) ∧ Q v H
def tC (v : V) : TE := fun _ H Q => Q v H
theorem pe_var {i : Nat} {x : Str} {pos : Pos} (hN : X.N[i]? = some x) (hv : Vis X.env.scope x) (hd : (x == ("__debug__" : Str)) = false := by decide) (hcd : (x == ("__classdict__" : Str)) = false := by decide) : PE X (.Name x pos) (tVar i) := by
  intro pins s σ H Q I h
  obtain ⟨v, e, h⟩ := h
  obtain ⟨m, hn, hl⟩ := I.loc
  obtain ⟨u, r, l⟩ := hl i x v hN e hv
  have fin : EP X pins σ Q u s := ⟨v, H, I, r, h⟩
  rcases l with ⟨hk, hm⟩ | ⟨hk, c, hc, hcell⟩
  · exact wpAny_Name (wpAny_loadName_local I.ok.kind hk hn hm fin) hd
  · rcases hk with hk | hk
    · exact wpAny_Name (wpAny_loadName_cell I.ok.kind hk hc hcell fin) hd
    · exact wpAny_Name (wpAny_loadName_free I.ok.kind hk hc hcell fin hcd) hd
theorem pe_int {i j pos} : PE X (.Constant (.int i) j pos) (tC (.int i)) := fun _ _ _ H _ I h => wpAny_Constant_int ⟨.int i, H, I.tok _, ⟨_, rfl⟩, h⟩
theorem pe_bl {b j pos} : PE X (.Constant (.bool b) j pos) (tC (.bl b)) := fun _ _ _ H _ I h => Constant_bool ⟨.bl b, H, I, rfl, h⟩
/-- a global name of the def -/
def Gl (X : Cx) (x : Str) : Prop := X.env.kindOf x = some .globalImplicit
theorem ld_glob {E : Value → Shared → Prop} {pins : List (Addr × Obj)} {s : Shared} {σ : St} {H : Hp} {x : Str} {u : Value} {pos : Pos} {Q : Value → Shared → Prop} (I : Inv X pins σ H s) (hg : Gl X x) (hm : X.mg x = some u) (h : Q u s)
    (hd : (x == ("__debug__" : Str)) = false := by decide) : wpAny (model X.prog X.w) X.A (eval (.Name x pos) X.env) Q E s :=
  Calls.Name_function_global I.ok.kind hg (Calls.loadGlobal_global (by rw [I.ok.glob]; exact I.mod.glob.keeps I.bk) hm h) hd
theorem ld_blt {E : Value → Shared → Prop} {pins : List (Addr × Obj)} {s : Shared} {σ : St} {H : Hp} {x : Str} {u : Value} {pos : Pos} {Q : Value → Shared → Prop} (I : Inv X pins σ H s) (hg : Gl X x) (hm : X.mg x = none) (hv : bootBuiltins x = some u) (h : Q u s)
    (hn : x ≠ "__name__" := by decide) (hd : (x == ("__debug__" : Str)) = false := by decide) : wpAny (model X.prog X.w) X.A (eval (.Name x pos) X.env) Q E s := by
  obtain ⟨mb, h1, h2⟩ := I.mod.blt
  exact Calls.Name_function_global I.ok.kind hg (Calls.loadGlobal_builtin (by rw [I.ok.glob]; exact I.mod.glob.keeps I.bk) hm (by rw [I.ok.blt]; exact h1.keeps I.bk) ((h2 x hn).trans hv) h) hd
/-- a module's constant, a class, a function, as a value -/
theorem pe_glob {x : Str} {v : V} {u : Value} {pos : Pos} (hg : Gl X x) (hm : X.mg x = some u) (r : RelV v u) (hd : (x == ("__debug__" : Str)) = false := by decide) : PE X (.Name x pos) (tC v) :=
  fun _ _ _ H _ I h => ld_glob I hg hm ⟨v, H, I, r, h⟩ hd
variable {a b : Expr} {ta tb : TE} {pos : Pos}
def PC (X : Cx) (op : CmpOp) (a b : Expr) (t : TE) : Prop :=
  ∀ (pins : List (Addr × Obj)) (s : Shared) (σ : St) (H : Hp) (Q : VK), Inv X pins σ H s → t σ H Q →
    wpAny (model X.prog X.w) X.A (eval a X.env) (fun v s₁ => wpAny (model X.prog X.w) X.A (eval b X.env) (fun u s₂ => wpAny (model X.prog X.w) X.A (compareOp op v u) (EP X pins σ Q) X.xe s₂) X.xe s₁) X.xe s
/-- a comparison as a value, as a test -/
def tB (t : TE) : TT := fun σ H Q => t σ H fun x H1 => ∃ c, x = .bl c ∧ Q c H1
theorem pe_cmp {op : CmpOp} {t : TE} (h : PC X op a b t) (h1 : behindInMarks op b = false := by first | exact nobehind _ (by decide) (by decide) | rfl) : PE X (.Compare a [op] [b] pos) t := fun pins s σ H Q I hw => wpAny_Compare1 (h pins s σ H Q I hw) h1
theorem pt_cmp {op : CmpOp} {t : TE} (h : PC X op a b t) (h1 : behindInMarks op b = false := by first | exact nobehind _ (by decide) (by decide) | rfl) : PT X (.Compare a [op] [b] pos) (tB t) := by
  intro pins s σ H Q I hw
  refine wpAny_isTrue_Compare1 (thn (h pins s σ H _ I hw) fun v s1 h1 => thn h1 fun u s2 h2 => thn h2 fun c s3 ⟨x, H1, I1, r1, q1⟩ => ?_) h1
  obtain ⟨d, rfl, q⟩ := q1
  cases r1
  exact wpAny_truthy_bool ⟨H1, I1, q⟩
/-- an expression whose value is a bool, as a test -/
theorem pt_val {e : Expr} {t : TE} (h : PE X e t) (he : ∀ whole, isTrue e X.env whole = (do let v ← whole; standAt e.pos; holding [v] (truthy v)) := by intro _; rfl) : PT X e (tB t) := by
  intro pins s σ H Q I hw
  refine isTrue_plain (thn (h pins s σ H _ I hw) fun v s1 ⟨x, H1, I1, r1, q1⟩ => ?_) (he _)
  obtain ⟨d, rfl, q⟩ := q1
  cases r1
  exact wpAny_truthy_bool ⟨H1, I1, q⟩
variable {tA tB' : TT} {rest : List Expr}
def tAnd (t u : TT) : TT := fun σ H Q => t σ H fun c H1 => if c = true then u σ H1 Q else Q false H1
def tOr (t u : TT) : TT := fun σ H Q => t σ H fun c H1 => if c = true then Q true H1 else u σ H1 Q
def tNot (t : TT) : TT := fun σ H Q => t σ H fun c H1 => Q (!c) H1
theorem pw_and1 (ha : PT X a tA) : PW X (.BoolOp .And [a] pos) tA := by
  intro wh pins s σ H Q I h
  refine isTrue_and (thn (ha pins s σ H Q I h) fun c s1 e => ?_)
  cases c with
  | true => exact isTrue_and_nil e
  | false => exact e
theorem pw_or1 (ha : PT X a tA) : PW X (.BoolOp .Or [a] pos) tA := by
  intro wh pins s σ H Q I h
  refine isTrue_or (thn (ha pins s σ H Q I h) fun c s1 e => ?_)
  cases c with
  | false => exact isTrue_or_nil e
  | true => exact e
theorem pw_and (ha : PT X a tA) (hb : PW X (.BoolOp .And (b :: rest) pos) tB') : PW X (.BoolOp .And (a :: b :: rest) pos) (tAnd tA tB') := by
  intro wh pins s σ H Q I h
  refine isTrue_and (thn (ha pins s σ H _ I h) fun c s1 ⟨H1, I1, q1⟩ => ?_)
  cases c with
  | true => exact hb wh pins s1 σ H1 Q I1 q1
  | false => exact ⟨H1, I1, q1⟩
theorem pw_or (ha : PT X a tA) (hb : PW X (.BoolOp .Or (b :: rest) pos) tB') : PW X (.BoolOp .Or (a :: b :: rest) pos) (tOr tA tB') := by
  intro wh pins s σ H Q I h
  refine isTrue_or (thn (ha pins s σ H _ I h) fun c s1 ⟨H1, I1, q1⟩ => ?_)
  cases c with
  | true => exact ⟨H1, I1, q1⟩
  | false => exact hb wh pins s1 σ H1 Q I1 q1
theorem pt_not (ha : PT X a tA) : PT X (.UnaryOp .Not a pos) (tNot tA) := by
  intro pins s σ H Q I h
  exact isTrue_not (ha pins s σ H (fun c H1 => Q (!c) H1) I h)
def tOrV (ta tb : TE) : TE := fun σ H Q => ta σ H fun x H1 => ∃ c, x = .bl c ∧ if c = true then Q (.bl true) H1 else tb σ H1 Q
theorem pe_one {op} {t : TE} (h : PE X a t) : PE X (.BoolOp op [a] pos) t := fun pins s σ H Q I hw => BoolOp_one (h pins s σ H Q I hw)
theorem pe_or (ha : PE X a ta) (hb : PE X (.BoolOp .Or (b :: rest) pos) tb) : PE X (.BoolOp .Or (a :: b :: rest) pos) (tOrV ta tb) := by
  intro pins s σ H Q I h
  refine BoolOp_or (thn (ha pins s σ H _ I h) fun v s1 ⟨x, H1, I1, r1, q1⟩ => ?_)
  obtain ⟨c, rfl, q1⟩ := q1
  cases r1
  refine wpAny_truthy_bool ?_
  cases c with
  | false => exact hb pins s1 σ H1 Q I1 q1
  | true => exact ⟨.bl true, H1, I1, rfl, q1⟩
/-- a if t else b -/
def tIf (t : TT) (ta tb : TE) : TE := fun σ H Q => t σ H fun c H1 => if c = true then ta σ H1 Q else tb σ H1 Q
theorem pe_ifExp {c : Expr} (hc : PT X c tA) (ha : PE X a ta) (hb : PE X b tb) : PE X (.IfExp c a b pos) (tIf tA ta tb) := by
  intro pins s σ H Q I h
  refine wpAny_IfExp (thn (hc pins s σ H _ I h) fun d s1 ⟨H1, I1, q1⟩ => ?_)
  cases d with
  | true => exact ha pins s1 σ H1 Q I1 q1
  | false => exact hb pins s1 σ H1 Q I1 q1
end
end L2
namespace L2
open PySem PySem.Spec PyProof.Rows
def SqL (K : PySem.W.Frag) (H : Hp) (a : Addr) (xs : List V) : Prop :=
  Rd H a (.lst xs) ∨
    ∃ (o : Obj) (its : Array Value) (n : Nat), K.lookup a = some o ∧ o.cls = .type "list" ∧ o.dict = none ∧ o.data = .seq its n ∧ its.size ≤ sizeLine ∧ Vals xs its.toList
def SqT (K : PySem.W.Frag) (H : Hp) (a : Addr) (xs : List V) : Prop :=
  Rd H a (.tup xs) ∨
    ∃ (o : Obj) (its : Array Value) (n : Nat), K.lookup a = some o ∧ o.cls = .type "tuple" ∧ o.data = .seq its n ∧ its.size ≤ sizeLine ∧ Vals xs its.toList
def absV : Value → Option V
  | .none => some .non
  | .bool b => some (.bl b)
  | .int i _ => some (.int i)
  | .str x _ => some (.str x)
  | .bytes b _ => some (.byt b)
  | .float b _ => some (.flt b)
  | .ref a => some (.ref a)
  | .type n => some (.ty n)
  | _ => none
theorem RelV.abs {x : V} {u : Value} (r : RelV x u) : absV u = some x := by
  cases x with
  | non => cases r; rfl
  | bl _ => cases r; rfl
  | int _ => obtain ⟨t, rfl⟩ := r; rfl
  | str _ => obtain ⟨t, rfl⟩ := r; rfl
  | byt _ => obtain ⟨t, rfl⟩ := r; rfl
  | flt _ => obtain ⟨t, rfl⟩ := r; rfl
  | ref _ => cases r; rfl
  | ty _ => cases r; rfl
theorem RelV.inj {x y : V} {u : Value} (r : RelV x u) (q : RelV y u) : x = y := Option.some.inj (r.abs.symm.trans q.abs)
theorem Vals.inj : ∀ {xs ys : List V} {us : List Value}, Vals xs us → Vals ys us → xs = ys
  | _, _, _, .nil, .nil => rfl
  | _, _, _, .cons r t, .cons r' t' => by rw [r.inj r', Vals.inj t t']
section
variable {X : Cx} {pins : List (Addr × Obj)} {σ : St} {H : Hp} {s : Shared} {a : Addr} {xs ys : List V}
theorem SqL.of {K : PySem.W.Frag} (h : H a = some (.lst xs)) : SqL K H a xs := .inl (.inl h)
theorem SqT.of {K : PySem.W.Frag} (h : H a = some (.tup xs)) : SqT K H a xs := .inl (.inl h)
theorem Inv.list (I : Inv X pins σ H s) (h : SqL X.K H a xs) : ∃ its : List Value, Vals xs its ∧ PlainL s.heap a its.toArray ∧ xs.length ≤ sizeLine := by
  rcases h with h | ⟨o, its, n, hk, hc, hd, hs, hz, r⟩
  · obtain ⟨z, its, n, r, e⟩ := h.ok I.hok
    exact ⟨its, r, ⟨_, n, e, rfl, rfl, rfl⟩, z⟩
  · refine ⟨its.toList, r, ⟨o, n, I.kIn a o hk, hc, hd, by simpa using hs⟩, ?_⟩
    have e := r.length
    simp only [Array.length_toList] at e
    omega
theorem Inv.tuple (I : Inv X pins σ H s) (h : SqT X.K H a xs) : ∃ its : List Value, Vals xs its ∧ IsTup s.heap a its.toArray ∧ xs.length ≤ sizeLine := by
  rcases h with h | ⟨o, its, n, hk, hc, hs, hz, r⟩
  · obtain ⟨z, its, r, p⟩ := h.ok I.hok
    exact ⟨its, r, p, z⟩
  · refine ⟨its.toList, r, ⟨o, I.kIn a o hk, hc, n, by simpa using hs⟩, ?_⟩
    have e := r.length
    simp only [Array.length_toList] at e
    omega
theorem Inv.list_inj (I : Inv X pins σ H s) (h : SqL X.K H a xs) (h' : SqL X.K H a ys) : xs = ys := by
  obtain ⟨its, r, ⟨o, n, e, _, _, d⟩, _⟩ := I.list h
  obtain ⟨its', r', ⟨o', n', e', _, _, d'⟩, _⟩ := I.list h'
  rw [e] at e'; cases e'
  rw [d] at d'
  injection d' with d1 _
  have : its = its' := by simpa using congrArg Array.toList d1
  subst this
  exact r.inj r'
end
abbrev Cx.wish (X : Cx) (E : Value → Shared → Prop) : Cx := { X with xe := E }
/-- no exception leaves -/
abbrev Cx.nox (X : Cx) : Cx := X.wish fun _ _ => False
theorem Cx.Ok.wish {X : Cx} (ok : X.Ok) (E : Value → Shared → Prop) : (X.wish E).Ok :=
  ⟨ok.mod, ok.kind, ok.glob, ok.blt, ok.above, ok.inj, ok.has, ok.cab, ok.hd, ok.frames, ok.stk, ok.exf, ok.bs, ok.bsz, ok.noex, ok.exfs, ok.funs, ok.frf⟩
theorem Cx.Ok.unwish {X : Cx} {E : Value → Shared → Prop} (ok : (X.wish E).Ok) : X.Ok :=
  ⟨ok.mod, ok.kind, ok.glob, ok.blt, ok.above, ok.inj, ok.has, ok.cab, ok.hd, ok.frames, ok.stk, ok.exf, ok.bs, ok.bsz, ok.noex, ok.exfs, ok.funs, ok.frf⟩
section
variable {X : Cx} {pins : List (Addr × Obj)} {σ : St} {H : Hp} {s : Shared} {E : Value → Shared → Prop}
theorem Inv.wish (I : Inv X pins σ H s) (E : Value → Shared → Prop) : Inv (X.wish E) pins σ H s := ⟨I.ok.wish E, I.os, I.bare, I.base, I.loc, I.cell, I.free, I.freeC, I.pin, I.hok, I.len⟩
theorem Inv.unwish (I : Inv (X.wish E) pins σ H s) : Inv X pins σ H s := ⟨I.ok.unwish, I.os, I.bare, I.base, I.loc, I.cell, I.free, I.freeC, I.pin, I.hok, I.len⟩
theorem SP.unwish {D : Ends} {f : Flow} {s' : Shared} (h : SP (X.wish E) pins D f s') : SP X pins D f s' := by
  cases f with
  | next => obtain ⟨σ', H', I, q⟩ := h; exact ⟨σ', H', I.unwish, q⟩
  | brk => obtain ⟨σ', H', I, q⟩ := h; exact ⟨σ', H', I.unwish, q⟩
  | cont => obtain ⟨σ', H', I, q⟩ := h; exact ⟨σ', H', I.unwish, q⟩
  | ret u => obtain ⟨v, σ', H', I, r, q⟩ := h; exact ⟨v, σ', H', I.unwish, r, q⟩
theorem PSs.nox {st : List Stmt} {t : TS} (h : PSs X.nox st t) : PSs X st t := fun pins s σ H D I hw =>
  wpAny_mono (h pins s σ H D (I.wish _) hw) (fun _ _ q => q.unwish) fun _ _ z => False.elim z
end
section
variable {X : Cx} {st : Stmt} {rest : List Stmt} {t u : TS} {e : Expr} {te : TE} {pos : Pos}
def tNext : TS := fun D σ H => D.nx σ H
def tSeq (t u : TS) : TS := fun D σ H => t { D with nx := u D } σ H
theorem pss_nil : PSs X [] tNext := fun _ _ σ H _ I h => wpAny_execs_nil ⟨σ, H, I, h⟩
theorem pss_cons (h1 : PS X st t) (h2 : PSs X rest u) : PSs X (st :: rest) (tSeq t u) := by
  intro pins s σ H D I h
  refine wpAny_execs_cons (thn (h1 pins s σ H { D with nx := u D } I h) fun f s1 q => ?_)
  cases f with
  | next =>
    obtain ⟨σ', H', I', q⟩ := q
    exact h2 pins s1 σ' H' D I' q
  | ret v => exact q
  | brk => exact q
  | cont => exact q
theorem pss_one (h1 : PS X st t) : PSs X [st] t := by
  intro pins s σ H D I h
  refine wpAny_execs_cons (thn (h1 pins s σ H D I h) fun f s1 q => ?_)
  cases f with
  | next => exact wpAny_execs_nil q
  | ret v => exact q
  | brk => exact q
  | cont => exact q
/-- in a def's body nothing is shown -/
theorem Inv.quiet {pins : List (Addr × Obj)} {σ : St} {H : Hp} {s : Shared} (I : Inv X pins σ H s) : interactive X.env = false := by simp [interactive, I.ok.kind]
/-- an expression whose value is dropped -/
def tDrop (te : TE) : TS := fun D σ H => te σ H fun _ H1 => D.nx σ H1
theorem ps_expr (he : PE X e te) (hs : swapsWith e none pos.line X.env = pure false := by rfl) : PS X (.Expr e pos) (tDrop te) := by
  intro pins s σ H D I h
  exact wpAny_Expr_any (thn (he pins s σ H _ I h) fun v s1 ⟨x, H1, I1, r1, q1⟩ => ⟨σ, H1, I1, q1⟩) I.quiet hs
def tRet (te : TE) : TS := fun D σ H => te σ H D.rt
theorem ps_ret (he : PE X e te) : PS X (.Return (some e) pos) (tRet te) := by
  intro pins s σ H D I h
  exact wpAny_Return_some (thn (he pins s σ H _ I h) fun v s1 ⟨x, H1, I1, r1, q1⟩ => ⟨x, σ, H1, I1, r1, q1⟩)
def tIfS (c : TT) (t u : TS) : TS := fun D σ H => c σ H fun b H1 => if b = true then t D σ H1 else u D σ H1
theorem ps_if {c : Expr} {a b : List Stmt} {tc : TT} (hc : PT X c tc) (ha : PSs X a t) (hb : PSs X b u) : PS X (.If c a b pos) (tIfS tc t u) := by
  intro pins s σ H D I h
  refine wpAny_If (thn (hc pins s σ H _ I h) fun d s1 ⟨H1, I1, q1⟩ => ?_)
  cases d with
  | true => exact ha pins s1 σ H1 D I1 q1
  | false => exact hb pins s1 σ H1 D I1 q1
/-- code that the proof never comes to -/
def tNever : TS := fun _ _ _ => False
theorem ps_never : PS X st tNever := fun _ _ _ _ _ _ h => h.elim
end
abbrev TG := V → St → Hp → (St → Hp → Prop) → Prop
def PG (X : Cx) (target : Expr) (t : TG) : Prop :=
  ∀ (pins : List (Addr × Obj)) (s : Shared) (σ : St) (H : Hp) (v : V) (u : Value) (Q : St → Hp → Prop), Inv X pins σ H s → RelV v u → t v σ H Q →
    wpAny (model X.prog X.w) X.A (assign target X.env u) (fun _ s' => ∃ σ' H', Inv X pins σ' H' s' ∧ Q σ' H') X.xe s
section
variable {X : Cx} {pos : Pos}
def gName (i : Nat) : TG := fun v σ H Q => Q (σ.set i (some v)) H
theorem pg_name {i : Nat} {x : Str} (hN : X.N.Nodup) (hi : X.N[i]? = some x) (hx : Loc X.env.scope x) (hf : X.fn x = true ∨ X.env.scope.names.lookup x = some .local := by first | exact .inl rfl | exact .inr rfl | assumption) : PG X (.Name x pos) (gName i) := by
  intro pins s σ H v u Q I r h
  exact wpAny_assign_Name (store_ok I hN hi hx r (fun s' I' => ⟨_, H, I', h⟩) hf)
/-- target = value -/
def tAsg (te : TE) (g : TG) : TS := fun D σ H => te σ H fun x H1 => g x σ H1 D.nx
/-- name = value -/
theorem ps_set {i : Nat} {x : Str} {e : Expr} {te : TE} {pos' : Pos} (hN : X.N.Nodup) (hi : X.N[i]? = some x) (hx : Loc X.env.scope x) (he : PE X e te) (hs : swapsWith e (some (.Name x pos')) pos.line X.env = pure false := by rfl) (hf : X.fn x = true ∨ X.env.scope.names.lookup x = some .local := by first | exact .inl rfl | exact .inr rfl | assumption) :
    PS X (.Assign [.Name x pos'] e pos) (tAsg te (gName i)) := by
  intro pins s σ H D I h
  refine wpAny_Assign_Name (thn (he pins s σ H _ I h) fun v s1 ⟨y, H1, I1, r1, q1⟩ => ?_) hs
  exact store_ok I1 hN hi hx r1 (fun s2 I2 => ⟨_, H1, I2, q1⟩) hf
end
section
variable {X : Cx} {pos : Pos}
/-- the invariant W with its measure -/
def tWhile (c : TT) (tb : TS) : TS := fun D σ H => ∃ W : Nat → St → Hp → Prop, (∃ m, W m σ H) ∧ ∀ m σ H, W m σ H →
  c σ H fun b H1 => if b = true then ∃ N : St → Hp → Prop, (∀ σ' H', N σ' H' → ∃ m', m' < m ∧ W m' σ' H') ∧ tb { D with nx := N, ct := N, bk := D.nx } σ H1 else D.nx σ H1
theorem ps_while {c : Expr} {body : List Stmt} {tc : TT} {tb : TS} (hp : PassesOwn (model X.prog X.w) X.A X.env X.xe) (hc : PT X c tc) (hb : PSs X body tb) : PS X (.While c body [] pos) (tWhile tc tb) := by
  intro pins s σ H D I h
  obtain ⟨W, ⟨m0, w0⟩, turn⟩ := h
  refine wpAny_While (codeAny_whileLoop (fun n s' => ∃ σ' H', Inv X pins σ' H' s' ∧ W n σ' H') ?_ m0 ⟨σ, H, I, w0⟩)
  rintro n s1 ⟨σ1, H1, I1, w1⟩
  refine wpAny_passesOwn hp (thn (hc pins s1 σ1 H1 _ I1 (turn n σ1 H1 w1)) fun b s2 ⟨H2, I2, q2⟩ => ?_)
  cases b with
  | true =>
    obtain ⟨N, hN, q2⟩ := q2
    rw [if_pos rfl]
    refine wpAny_passesOwn hp (thn (hb pins s2 σ1 H2 _ I2 q2) fun f s3 q3 => ?_)
    cases f with
    | next =>
      obtain ⟨σ3, H3, I3, n3⟩ := q3
      obtain ⟨m', hm, w3⟩ := hN σ3 H3 n3
      exact ⟨m', hm, σ3, H3, I3, w3⟩
    | cont =>
      obtain ⟨σ3, H3, I3, n3⟩ := q3
      obtain ⟨m', hm, w3⟩ := hN σ3 H3 n3
      exact ⟨m', hm, σ3, H3, I3, w3⟩
    | brk => exact q3
    | ret v => exact q3
  | false =>
    rw [if_neg Bool.false_ne_true]
    exact wpAny_execs_nil ⟨σ1, H2, I2, q2⟩
end
/-- at turn i: it yields x (the heap may grow), or it stops -/
structure It where
  go : Nat → Hp → Prop
  yld : Nat → Hp → V → Hp → Prop
  stop : Nat → Hp → Prop
/-- the iterator's own objects may turn: they are not the frame's, not pinned, younger than the entry (or a comprehension's own) -/
def FpOk (X : Cx) (pins : List (Addr × Obj)) (H : Hp) (b : Addr) : Prop :=
  H b = none ∧ b ≠ X.env.locals ∧ b ∉ X.fs ∧ (b ∈ X.ex ∨ X.s_0.heap.objs.size ≤ b) ∧ (∀ x c, X.env.cells.lookup x = some c → c ≠ b) ∧ ∀ p ∈ X.pn ++ pins, p.1 ≠ b
theorem Inv.fpOk {X : Cx} {pins : List (Addr × Obj)} {σ : St} {H H' : Hp} {s : Shared} {b : Addr} (I : Inv X pins σ H s) (hb : s.heap.objs.size ≤ b) (hn : H' b = none) : FpOk X pins H' b := by
  refine ⟨hn, Nat.ne_of_gt (Nat.lt_of_lt_of_le I.lt hb), I.nofs hb, .inr (Nat.le_trans I.sz hb), fun x c e z => ?_, fun p hp z => ?_⟩
  · obtain ⟨v, q⟩ := I.cell x c e
    exact absurd (Nat.lt_of_lt_of_le q.lt (by rw [z]; exact hb)) (Nat.lt_irrefl _)
  · exact absurd (Nat.lt_of_lt_of_le (Heap.lt_size (I.pin p hp).1) (by rw [z]; exact hb)) (Nat.lt_irrefl _)
structure Turn (P : Program) (w : World) (K : PySem.W.Frag) (tg : Expr) (J : It) (fp : List Addr) (it : Addr) (tn : Nat → Heap → Prop) : Prop where
  mem : it ∈ fp
  obj : ∀ i h, tn i h → ∀ b ∈ fp, ∃ o, h.get? b = some o ∧ ∀ v, o.data ≠ .cell v
  keep : ∀ i h h', tn i h → (∀ b ∈ fp, ∀ o, h.get? b = some o → h'.get? b = some o) → tn i h'
  item : ∀ (X : Cx), X.prog = P → X.w = w → X.K = K → X.calm = true → ∀ (i : Nat) (pins : List (Addr × Obj)) (s : Shared) (σ : St) (H : Hp) (E : Value → Shared → Prop), Inv X pins σ H s → (∀ b ∈ fp, FpOk X pins H b) → tn i s.heap → J.go i H →
    wpAny (model P w) X.A (pyNext (.ref it)) (fun r s1 => ∃ u, r = some u ∧
      wpAny (model P w) X.A (letOwnedTupleGo tg (.ref it) u) (fun _ s2 => ∃ x H', Inv X pins σ H' s2 ∧ RelV x u ∧ J.yld i H x H' ∧ tn (i + 1) s2.heap ∧ ∀ b ∈ fp, H' b = none) E s1) E s
  done : ∀ (X : Cx), X.prog = P → X.w = w → X.K = K → X.calm = true → ∀ (i : Nat) (pins : List (Addr × Obj)) (s : Shared) (σ : St) (H : Hp) (E : Value → Shared → Prop), Inv X pins σ H s → (∀ b ∈ fp, FpOk X pins H b) → tn i s.heap → J.stop i H →
    wpAny (model P w) X.A (pyNext (.ref it)) (fun r s1 => r = none ∧ Inv X pins σ H s1) E s
  self : ∀ (A : Around) (i : Nat) (s : Shared) (Q : Value → Shared → Prop) (E : Value → Shared → Prop), tn i s.heap → Q (.ref it) s → wpAny (model P w) A (pyIter (.ref it)) Q E s
abbrev TI := St → Hp → (It → Hp → Prop) → Prop
/-- an iterator has come -/
def PIE (X : Cx) (pins : List (Addr × Obj)) (σ : St) (tg : Expr) (R : It → Hp → Prop) (itv : Value) (s2 : Shared) : Prop :=
  ∃ (it : Addr) (fp : List Addr) (tn : Nat → Heap → Prop) (J : It) (H' : Hp), itv = .ref it ∧ Inv X pins σ H' s2 ∧ Turn X.prog X.w X.K tg J fp it tn ∧ tn 0 s2.heap ∧ (∀ b ∈ fp, FpOk X pins H' b) ∧ R J H'
def PI (X : Cx) (tg iter : Expr) (wi : TI) : Prop :=
  ∀ (pins : List (Addr × Obj)) (s : Shared) (σ : St) (H : Hp) (R : It → Hp → Prop), Inv X pins σ H s → wi σ H R →
    wpAny (model X.prog X.w) X.A (eval iter X.env) (fun v s1 => wpAny (model X.prog X.w) X.A (pyIter v) (PIE X pins σ tg R) X.xe s1) X.xe s
/-- the step ahead of the store is nothing for an iterator that keeps no tuple -/
theorem go_of {M : Model} {A : Around} {E : Value → Shared → Prop} {s : Shared} {tg : Expr} {it : Addr} {u : Value} {o : Obj} {n : String} {vs : Array Value} {Q : Unit → Shared → Prop} (ho : s.heap.get? it = some o) (hc : o.cls = .type n) (hd : o.data = .fields vs)
    (hn : ["enumerate", "zip", "dict_itemiterator", "dict_reverseitemiterator", "odict_iterator", "itertools.zip_longest", "itertools.pairwise"].contains n = false) (hQ : Q () s) : wpAny M A (letOwnedTupleGo tg (.ref it) u) Q E s := by
  unfold letOwnedTupleGo
  cases tg <;> first
    | exact wpAny_pure hQ
    | (cases u <;> first
        | exact wpAny_pure hQ
        | (refine wpAny_bind (wpAny_load ho ?_)
           rw [hc, hd]
           show wpAny M A (if (["enumerate", "zip", "dict_itemiterator", "dict_reverseitemiterator", "odict_iterator", "itertools.zip_longest", "itertools.pairwise"].contains n && vs[0]? == some (rawInt _)) = true then _ else _) Q E s
           rw [if_neg (by intro h; rw [hn, Bool.false_and] at h; cases h)]
           exact wpAny_pure hQ))
/-- the list at a, as it stands at each turn (a loop may append to it) -/
def Itl (K : PySem.W.Frag) (a : Addr) : It :=
  ⟨fun i H => ∃ xs x, SqL K H a xs ∧ xs[i]? = some x, fun i H x H' => H' = H ∧ ∀ xs, SqL K H a xs → xs[i]? = some x, fun i H => ∃ xs, SqL K H a xs ∧ xs.length ≤ i⟩
/-- lo, lo + 1, .. (n of them) -/
def Itr (lo : Int) (n : Nat) : It := ⟨fun i _ => i < n, fun i H x H' => H' = H ∧ x = .int (lo + i), fun i _ => n ≤ i⟩
theorem turn_list {P : Program} {w : World} {K : PySem.W.Frag} {tg : Expr} (a it : Addr) : Turn P w K tg (Itl K a) [it] it (fun i h => h.IsListIter it a i) where
  mem := by simp
  obj := fun i h st b hb => by
    have e : b = it := by simpa using hb
    subst e
    obtain ⟨o, e, c, d⟩ := st
    exact ⟨o, e, fun v z => by rw [d] at z; cases z⟩
  keep := fun i h h' st k => st.at fun o e => k it (by simp) o e
  item := by
    intro X hP hw hK hc i pins s σ H E I hf st hg
    subst hP hw hK
    obtain ⟨xs, x, hq, hx⟩ := hg
    obtain ⟨its, rv, p, hz⟩ := I.list hq
    obtain ⟨u, hu, ru⟩ := rv.get hx
    obtain ⟨f0, f1, f2, f3, f4, f5⟩ := hf it (by simp)
    refine wpAny_pyNext_list_item st p.isList (x := u) (by simpa using hu) fun h' st' sb => ?_
    have I1 : Inv X pins σ H { s with heap := h' } := I.turned (t' := s.toks) (fun b o hb e => (sb.2 b hb).trans e) f0 f1 f3 f4 f5
    obtain ⟨o, e, c, d⟩ := id st'
    exact ⟨u, rfl, go_of (s := { s with heap := h' }) e c d (by decide) ⟨x, H, I1, ru, ⟨rfl, fun ys hy => by rw [I.list_inj hy hq]; exact hx⟩, st', fun b hb => (hf b hb).1⟩⟩
  done := by
    intro X hP hw hK hc i pins s σ H E I hf st hg
    subst hP hw hK
    obtain ⟨xs, hq, hx⟩ := hg
    obtain ⟨its, rv, p, hz⟩ := I.list hq
    obtain ⟨f0, f1, f2, f3, f4, f5⟩ := hf it (by simp)
    have hl := rv.length
    exact wpAny_pyNext_list_end (I.ok.hd hc) st p.isList (by simp; omega) fun h' eb => ⟨rfl, I.turned (t' := s.toks) (fun b o hb e => eb b o hb e) f0 f1 f3 f4 f5⟩
  self := fun _ _ _ _ _ st h => wpAny_pyIter_listiter st h
theorem turn_range {P : Program} {w : World} {K : PySem.W.Frag} {tg : Expr} (it : Addr) (lo : Int) (n : Nat) : Turn P w K tg (Itr lo n) [it] it (fun i h => IsRangeIter h it (lo + (i : Nat) * 1) ((n : Int) - (i : Nat)) 1) where
  mem := by simp
  obj := fun i h st b hb => by
    have e : b = it := by simpa using hb
    subst e
    exact ⟨_, st, fun v z => by
      have z' : Data.fields _ = Data.cell v := z
      cases z'⟩
  keep := fun i h h' st k => k it (by simp) _ st
  item := by
    intro X hP hw hK hc i pins s σ H E I hf st hg
    subst hP hw hK
    obtain ⟨f0, f1, f2, f3, f4, f5⟩ := hf it (by simp)
    have W := Walks.range (prog := X.prog) (w := X.w) (I.ok.hd hc) it lo 1 n
    refine W.item i s _ _ hg st fun v h' tk hv st' kk => ?_
    obtain ⟨t, rfl⟩ := hv
    have I1 : Inv X pins σ H { s with heap := h', toks := tk } := I.turned (fun b o hb e => kk b o (by simpa using hb) e) f0 f1 f3 f4 f5
    refine ⟨_, rfl, go_of (s := { s with heap := h', toks := tk }) (n := "range_iterator") st' rfl rfl (by decide) ⟨.int (lo + i), H, I1, ⟨t, ?_⟩, ⟨rfl, rfl⟩, st', fun b hb => (hf b hb).1⟩⟩
    rw [Int.mul_one]
  done := by
    intro X hP hw hK hc i pins s σ H E I hf st hg
    subst hP hw hK
    obtain ⟨f0, f1, f2, f3, f4, f5⟩ := hf it (by simp)
    exact wpAny_pyNext_range_end (I.ok.hd hc) st (by have : n ≤ i := hg; omega) fun h' eb => ⟨rfl, I.turned (t' := s.toks) (fun b o hb e => eb b o hb e) f0 f1 f3 f4 f5⟩
  self := fun _ _ _ _ _ st h => wpAny_pyIter_rangeiter st h
end L2
namespace L2
open PySem PySem.Spec PyProof.Rows
section
variable {X : Cx} {tg : Expr}
def iList (K : PySem.W.Frag) (tl : TE) : TI := fun σ H R => tl σ H fun x H1 => ∃ a, x = .ref a ∧ (∃ xs, SqL K H1 a xs) ∧ R (Itl K a) H1
theorem pi_list {l : Expr} {tl : TE} (hl : PE X l tl) : PI X tg l (iList X.K tl) := by
  intro pins s σ H R I h
  refine thn (hl pins s σ H _ I h) fun v s1 ⟨x, H1, I1, r1, q1⟩ => ?_
  obtain ⟨a, e, ⟨xs, hq⟩, q⟩ := q1
  subst e
  cases r1
  obtain ⟨its, rv, p, hz⟩ := I1.list hq
  refine wpAny_pyIter_list p.isList ?_
  refine ⟨s1.heap.objs.size, [s1.heap.objs.size], _, _, H1, rfl, I1.kept (t' := s1.toks) fun b o e => Heap.get?_push_of_some _ e, turn_list a _, ⟨_, Heap.get?_push_size _ rfl, rfl, rfl⟩, fun b hb => ?_, q⟩
  have e : b = s1.heap.objs.size := by simpa using hb
  subst e
  exact I1.fpOk (Nat.le_refl _) (I1.hok.fresh (Nat.le_refl _))
/-- a range object just made, walked -/
theorem range_it {pins : List (Addr × Obj)} {σ : St} {H : Hp} {s : Shared} {R : It → Hp → Prop} {E : Value → Shared → Prop} {lo hi : Int} {t u v : Tok} {tk : Nat} (I : Inv X pins σ H s) (h1 : -(2 ^ 62) ≤ lo) (h2 : lo < 2 ^ 62) (h3 : -(2 ^ 62) ≤ hi) (h4 : hi < 2 ^ 62)
    (q : R (Itr lo (hi - lo).toNat) H) : wpAny (model X.prog X.w) X.A (pyIter (.ref s.heap.objs.size)) (PIE X pins σ tg R) E { s with heap := s.heap.push { cls := .type "range", data := .fields #[.int lo t, .int hi u, .int 1 v] }, toks := tk } := by
  refine wpAny_pyIter_range (IsRange.new ..) (small_one h1 h2 h3 h4) ?_
  have I1 : Inv X pins σ H { s with heap := s.heap.push { cls := .type "range", data := .fields #[.int lo t, .int hi u, .int 1 v] }, toks := tk } := I.kept fun b o e => Heap.get?_push_of_some _ e
  refine ⟨(s.heap.push { cls := .type "range", data := .fields #[.int lo t, .int hi u, .int 1 v] }).objs.size, [(s.heap.push { cls := .type "range", data := .fields #[.int lo t, .int hi u, .int 1 v] }).objs.size], _, _, H, rfl,
    I1.kept (t' := tk) fun b o e => Heap.get?_push_of_some _ e, turn_range _ lo (hi - lo).toNat, ?_, fun b hb => ?_, q⟩
  · have e1 : lo + ((0 : Nat) : Int) * 1 = lo := by simp
    have e2 : (((hi - lo).toNat : Nat) : Int) - ((0 : Nat) : Int) = Builtin.Range.rangeSize lo hi 1 := by rw [rangeSize_one]; split <;> omega
    show IsRangeIter _ _ (lo + ((0 : Nat) : Int) * 1) ((((hi - lo).toNat : Nat) : Int) - ((0 : Nat) : Int)) 1
    rw [e1, e2]
    exact Heap.get?_push_size _ rfl
  · have e : b = (s.heap.push { cls := .type "range", data := .fields #[.int lo t, .int hi u, .int 1 v] }).objs.size := by simpa using hb
    subst e
    exact I1.fpOk (Nat.le_refl _) (I1.hok.fresh (Nat.le_refl _))
def iRng1 (ta : TA) : TI := fun σ H R => ta σ H fun vs H1 => ∃ j : Int, vs = [.int j] ∧ -(2 ^ 62) ≤ j ∧ j < 2 ^ 62 ∧ R (Itr 0 j.toNat) H1
theorem pi_range1 {a : Expr} {ta : TA} {p pos : Pos} (hg : Gl X "range") (hm : X.mg "range" = none) (ha : PA X [a] ta) (hs : starEach [a] X.env = [(false, eval a X.env)] := by rfl) : PI X tg (.Call (.Name "range" p) [a] [] pos) (iRng1 ta) := by
  intro pins s σ H R I h
  refine Call_ (ld_blt I hg hm boot_range (PyProof.Rows.callWith_type1 (thn (ha pos pins s σ H _ I h) fun us s1 ⟨vs, H1, I1, r1, q1⟩ => ?_) hs rfl))
  obtain ⟨j, e, q1, q2, q⟩ := q1
  subst e
  cases r1 with
  | cons r rr =>
    cases rr
    obtain ⟨t, rfl⟩ := r
    exact call_range_1 (range_it I1 (by omega) (by omega) q1 q2 (by simpa using q))
/-- W: the invariant by the turn and a measure; N: what the body is to reach -/
def tFor (wi : TI) (g : TG) (tb : TS) : TS := fun D σ H => wi σ H fun J H1 => ∃ W : Nat → Nat → St → Hp → Prop, (∃ m, W 0 m σ H1) ∧ ∀ i m σ H, W i m σ H →
  (J.stop i H ∧ D.nx σ H) ∨ (J.go i H ∧ ∃ N : St → Hp → Prop, (∀ σ' H', N σ' H' → ∃ m', m' < m ∧ W (i + 1) m' σ' H') ∧ ∀ x H', J.yld i H x H' → g x σ H' fun σ2 H2 => tb { D with nx := N, ct := N, bk := D.nx } σ2 H2)
/-- the records at fp as they stand -/
def pinsAt (fp : List Addr) (h : Heap) : List (Addr × Obj) := fp.filterMap fun b => (h.get? b).map fun o => (b, o)
theorem mem_pinsAt {fp : List Addr} {h : Heap} {b : Addr} {o : Obj} (hb : b ∈ fp) (e : h.get? b = some o) : (b, o) ∈ pinsAt fp h := List.mem_filterMap.mpr ⟨b, hb, by rw [e]; rfl⟩
theorem of_pinsAt {fp : List Addr} {h : Heap} {p : Addr × Obj} (hp : p ∈ pinsAt fp h) : p.1 ∈ fp ∧ h.get? p.1 = some p.2 := by
  obtain ⟨b, hb, e⟩ := List.mem_filterMap.mp hp
  cases q : h.get? b with
  | none => rw [q] at e; cases e
  | some o =>
    rw [q] at e
    have e' : (b, o) = p := Option.some.inj e
    subst e'
    exact ⟨hb, q⟩
theorem Inv.pinned {pins : List (Addr × Obj)} {σ : St} {H : Hp} {s : Shared} {fp : List Addr} (I : Inv X pins σ H s) (hf : ∀ b ∈ fp, FpOk X pins H b) (ho : ∀ b ∈ fp, ∃ o, s.heap.get? b = some o ∧ ∀ v, o.data ≠ .cell v) : Inv X (pins ++ pinsAt fp s.heap) σ H s :=
  I.pins_of fun p hp => (List.mem_append.mp hp).elim (fun z => I.pin p (List.mem_append_right _ z)) fun z => by
    obtain ⟨hb, e⟩ := of_pinsAt z
    obtain ⟨f0, f1, f2, _⟩ := hf p.1 hb
    obtain ⟨o, e', d⟩ := ho p.1 hb
    rw [e] at e'; cases e'
    exact ⟨e, f0, f1, f2, d⟩
theorem Inv.unpinned {pins pl : List (Addr × Obj)} {σ : St} {H : Hp} {s : Shared} (I : Inv X (pins ++ pl) σ H s) : Inv X pins σ H s := I.pins_of fun p hp => I.pin p (List.mem_append_right _ (List.mem_append_left _ hp))
theorem ps_for {iter : Expr} {body : List Stmt} {wi : TI} {g : TG} {tb : TS} {pos : Pos} (hp : PassesOwn (model X.prog X.w) X.A X.env X.xe) (hc : X.calm = true) (hi : PI X tg iter wi) (hg : PG X tg g) (hb : PSs X body tb)
    (hs : ∀ x, foldedSetIterable iter X.env x = pure x := by intro _; rfl) : PS X (.For tg iter body [] pos) (tFor wi g tb) := by
  intro pins s σ H D I h
  refine wpAny_For (thn (hi pins s σ H _ I h) fun v s1 h1 => thn h1 fun itv s2 h2 => ?_) hs
  obtain ⟨it, fp, tn, J, H2, e, I2, T, st2, f2, W, ⟨m0, w0⟩, turn⟩ := h2
  subst e
  -- what stays true of the iterator's objects through the loop
  have stat : ∀ {H' : Hp}, (∀ b ∈ fp, H' b = none) → ∀ b ∈ fp, FpOk X pins H' b := fun hn b hb => ⟨hn b hb, (f2 b hb).2⟩
  refine codeAny_forLoop_any (fun n s' => ∃ i σ' H', Inv X pins σ' H' s' ∧ tn i s'.heap ∧ (∀ b ∈ fp, H' b = none) ∧ W i n σ' H') ?_ m0 ⟨0, σ, H2, I2, st2, fun b hb => (f2 b hb).1, w0⟩
  rintro n s3 ⟨i, σ3, H3, I3, st3, fr3, w3⟩
  rcases turn i n σ3 H3 w3 with ⟨stop, qn⟩ | ⟨go, N, hN, step⟩
  · refine wpAny_passesOwn hp (thn (T.done X rfl rfl rfl hc i pins s3 σ3 H3 X.xe I3 (stat fr3) st3 stop) fun r s4 ⟨hr, I4⟩ => ?_)
    subst hr
    exact wpAny_execs_nil ⟨σ3, H3, I4, qn⟩
  · refine wpAny_passesOwn hp (thn (T.item X rfl rfl rfl hc i pins s3 σ3 H3 X.xe I3 (stat fr3) st3 go) fun r s4 ⟨u, hr, h4⟩ => ?_)
    subst hr
    refine wpAny_passesOwn hp (thn h4 fun _ s5 ⟨x, H5, I5, r5, y5, st5, fr5⟩ => ?_)
    have I5' := I5.pinned (stat fr5) (T.obj _ _ st5)
    refine wpAny_passesOwn hp (thn (hg _ s5 σ3 H5 x u _ I5' r5 (step x H5 y5)) fun _ s6 ⟨σ6, H6, I6, q6⟩ => ?_)
    refine wpAny_passesOwn hp (thn (hb _ s6 σ6 H6 _ I6 q6) fun f s7 q7 => ?_)
    have again : ∀ {σ7 : St} {H7 : Hp}, Inv X (pins ++ pinsAt fp s5.heap) σ7 H7 s7 → N σ7 H7 → ∃ m, m < n ∧ ∃ i σ' H', Inv X pins σ' H' s7 ∧ tn i s7.heap ∧ (∀ b ∈ fp, H' b = none) ∧ W i m σ' H' := fun {σ7 H7} I7 n7 => by
      obtain ⟨m', hm, w7⟩ := hN σ7 H7 n7
      refine ⟨m', hm, i + 1, σ7, H7, I7.unpinned, T.keep _ _ _ st5 fun b hb o e => (I7.pin (b, o) (List.mem_append_right _ (List.mem_append_right _ (mem_pinsAt hb e)))).1, fun b hb => ?_, w7⟩
      obtain ⟨o, e, d⟩ := T.obj _ _ st5 b hb
      exact (I7.pin (b, o) (List.mem_append_right _ (List.mem_append_right _ (mem_pinsAt hb e)))).2.1
    cases f with
    | next => obtain ⟨σ7, H7, I7, n7⟩ := q7; exact again I7 n7
    | cont => obtain ⟨σ7, H7, I7, n7⟩ := q7; exact again I7 n7
    | brk => obtain ⟨σ7, H7, I7, q7⟩ := q7; exact ⟨σ7, H7, I7.unpinned, q7⟩
    | ret v => obtain ⟨x7, σ7, H7, I7, r7, q7⟩ := q7; exact ⟨x7, σ7, H7, I7.unpinned, r7, q7⟩
end
/-- over a list that the body leaves as it is -/
theorem for_list {K : PySem.W.Frag} {a : Addr} {xs : List V} {g : TG} {tb : TS} {D : Ends} {σ : St} {H : Hp} (Pv : Nat → St → Hp → Prop) (h0 : Pv 0 σ H) (hl : ∀ i σ H, i ≤ xs.length → Pv i σ H → SqL K H a xs)
    (hs : ∀ i x σ H, xs[i]? = some x → Pv i σ H → g x σ H fun σ2 H2 => tb { D with nx := Pv (i + 1), ct := Pv (i + 1), bk := D.nx } σ2 H2) (hd : ∀ σ H, Pv xs.length σ H → D.nx σ H) :
    ∃ W : Nat → Nat → St → Hp → Prop, (∃ m, W 0 m σ H) ∧ ∀ i m σ H, W i m σ H →
      ((Itl K a).stop i H ∧ D.nx σ H) ∨ ((Itl K a).go i H ∧ ∃ N : St → Hp → Prop, (∀ σ' H', N σ' H' → ∃ m', m' < m ∧ W (i + 1) m' σ' H') ∧ ∀ x H', (Itl K a).yld i H x H' → g x σ H' fun σ2 H2 => tb { D with nx := N, ct := N, bk := D.nx } σ2 H2) := by
  refine ⟨fun i m σ H => m = xs.length - i ∧ i ≤ xs.length ∧ Pv i σ H, ⟨xs.length, by simp, Nat.zero_le _, h0⟩, ?_⟩
  rintro i m σ H ⟨rfl, hi, p⟩
  have q := hl i σ H hi p
  by_cases hlt : i < xs.length
  · refine .inr ⟨⟨xs, xs[i], q, by simp [hlt]⟩, Pv (i + 1), fun σ' H' p' => ⟨xs.length - (i + 1), by omega, rfl, hlt, p'⟩, fun x H' y => ?_⟩
    obtain ⟨e, y⟩ := y
    subst e
    exact hs i x σ _ (y xs q) p
  · have e : i = xs.length := by omega
    subst e
    exact .inl ⟨⟨xs, q, Nat.le_refl _⟩, hd σ H p⟩
/-- while, by a word and a measure of the state -/
theorem while_by {c : TT} {tb : TS} {D : Ends} {σ : St} {H : Hp} (Pv : St → Hp → Prop) (μ : St → Hp → Nat) (h0 : Pv σ H)
    (hs : ∀ σ H, Pv σ H → c σ H fun b H1 => if b = true then tb { D with nx := fun σ' H' => Pv σ' H' ∧ μ σ' H' < μ σ H, ct := fun σ' H' => Pv σ' H' ∧ μ σ' H' < μ σ H, bk := D.nx } σ H1 else D.nx σ H1)
    (mono : ∀ σ H Q Q', (∀ b H1, Q b H1 → Q' b H1) → c σ H Q → c σ H Q') : tWhile c tb D σ H := by
  refine ⟨fun m σ H => m = μ σ H ∧ Pv σ H, ⟨_, rfl, h0⟩, ?_⟩
  rintro m σ H ⟨rfl, p⟩
  refine mono σ H _ _ (fun b H1 q => ?_) (hs σ H p)
  cases b with
  | true => exact ⟨_, fun σ' H' ⟨p', l⟩ => ⟨_, l, rfl, p'⟩, q⟩
  | false => exact q
end L2
namespace L2
open PySem PySem.Spec PyProof.Rows
abbrev R2 := V → V → Hp → VK → Prop
/-- a two-place operation on values: f is binaryOp op, inplaceOp op or compareOp op -/
def OpR (X : Cx) (f : Value → Value → Sem Value) (r : R2) : Prop :=
  ∀ (pins : List (Addr × Obj)) (s : Shared) (σ : St) (H : Hp) (x y : V) (v u : Value) (Q : VK), Inv X pins σ H s → RelV x v → RelV y u → r x y H Q →
    wpAny (model X.prog X.w) X.A (f v u) (EP X pins σ Q) X.xe s
/-- a call of a value that is known (a builtin, a type) with values -/
def CallR (X : Cx) (f : Value) (r : List V → Hp → VK → Prop) : Prop :=
  ∀ (pins : List (Addr × Obj)) (s : Shared) (σ : St) (H : Hp) (xs : List V) (us : List Value) (Q : VK), Inv X pins σ H s → Vals xs us → r xs H Q →
    wpAny (model X.prog X.w) X.A (call f us) (EP X pins σ Q) X.xe s
def tOp (r : R2) (ta tb : TE) : TE := fun σ H Q => ta σ H fun x H1 => tb σ H1 fun y H2 => r x y H2 Q
/-- ints in, under C, and a value out -/
def rI (C : Int → Int → Prop) (g : Int → Int → V) : R2 := fun x y H Q => ∃ i j, x = .int i ∧ y = .int j ∧ C i j ∧ Q (g i j) H
def rI0 (g : Int → Int → V) : R2 := fun x y H Q => ∃ i j, x = .int i ∧ y = .int j ∧ Q (g i j) H
section
variable {X : Cx} {a b c : Expr} {ta tb tc : TE} {pos : Pos}
theorem binT (ha : PE X a ta) (hb : PE X b tb) {pins : List (Addr × Obj)} {s : Shared} {σ : St} {H : Hp} {R : V → V → Hp → Prop} (I : Inv X pins σ H s)
    (h : ta σ H fun x H1 => tb σ H1 fun y H2 => R x y H2) {Q : Value → Shared → Prop} {f : Value → Value → Sem Value}
    (hf : ∀ v u s2 x y H2, Inv X pins σ H2 s2 → RelV x v → RelV y u → R x y H2 → wpAny (model X.prog X.w) X.A (f v u) Q X.xe s2) :
    wpAny (model X.prog X.w) X.A (eval a X.env) (fun v s₁ => wpAny (model X.prog X.w) X.A (eval b X.env) (fun u s₂ => wpAny (model X.prog X.w) X.A (f v u) Q X.xe s₂) X.xe s₁) X.xe s := by
  refine thn (ha pins s σ H _ I h) fun v s1 ⟨x, H1, I1, r1, q1⟩ => ?_
  refine thn (hb pins s1 σ H1 _ I1 q1) fun u s2 ⟨y, H2, I2, r2, q2⟩ => ?_
  exact hf v u s2 x y H2 I2 r1 r2 q2
theorem pe_op {op : Operator} {r : R2} (ho : OpR X (binaryOp op) r) (ha : PE X a ta) (hb : PE X b tb) : PE X (.BinOp a op b pos) (tOp r ta tb) := by
  intro pins s σ H Q I h
  exact wpAny_BinOp (binT ha hb I h fun v u s2 x y H2 I2 rx ry q => ho pins s2 σ H2 x y v u Q I2 rx ry q)
theorem opI {f : Value → Value → Sem Value} {C : Int → Int → Prop} {g : Int → Int → Int}
    (rule : ∀ (i j : Int) (t u : Tok) (s : Shared) (Q : Value → Shared → Prop) (E : Value → Shared → Prop), C i j → Q (.int (g i j) s.toks) { s with toks := s.toks + 1 } → wpAny (model X.prog X.w) X.A (f (.int i t) (.int j u)) Q E s) :
    OpR X f (rI C fun i j => .int (g i j)) := by
  intro pins s σ H x y v u Q I rx ry h
  obtain ⟨i, j, rfl, rfl, hc, q⟩ := h
  obtain ⟨t, rfl⟩ := rx
  obtain ⟨t', rfl⟩ := ry
  exact rule i j t t' s _ _ hc ⟨.int (g i j), H, I.tok _, ⟨_, rfl⟩, q⟩
theorem opI0 {f : Value → Value → Sem Value} {g : Int → Int → Int}
    (rule : ∀ (i j : Int) (t u : Tok) (s : Shared) (Q : Value → Shared → Prop) (E : Value → Shared → Prop), Q (.int (g i j) s.toks) { s with toks := s.toks + 1 } → wpAny (model X.prog X.w) X.A (f (.int i t) (.int j u)) Q E s) :
    OpR X f (rI0 fun i j => .int (g i j)) := by
  intro pins s σ H x y v u Q I rx ry h
  obtain ⟨i, j, rfl, rfl, q⟩ := h
  obtain ⟨t, rfl⟩ := rx
  obtain ⟨t', rfl⟩ := ry
  exact rule i j t t' s _ _ ⟨.int (g i j), H, I.tok _, ⟨_, rfl⟩, q⟩
theorem opB0 {f : Value → Value → Sem Value} {g : Int → Int → Bool}
    (rule : ∀ (i j : Int) (t u : Tok) (s : Shared) (Q : Value → Shared → Prop) (E : Value → Shared → Prop), Q (.bool (g i j)) s → wpAny (model X.prog X.w) X.A (f (.int i t) (.int j u)) Q E s) :
    OpR X f (rI0 fun i j => .bl (g i j)) := by
  intro pins s σ H x y v u Q I rx ry h
  obtain ⟨i, j, rfl, rfl, q⟩ := h
  obtain ⟨t, rfl⟩ := rx
  obtain ⟨t', rfl⟩ := ry
  exact rule i j t t' s _ _ ⟨.bl (g i j), H, I, rfl, q⟩
def CMul (i j : Int) : Prop := (-(2 ^ 64) < i ∧ i < 2 ^ 64) ∨ (-(2 ^ 64) < j ∧ j < 2 ^ 64)
theorem CMul.ok {i j : Int} (h : CMul i j) : IntMulOk i j := by
  rcases h with ⟨h1, h2⟩ | ⟨h1, h2⟩
  · exact .of_left (intBits_le_64 h1 h2)
  · exact .of_right (intBits_le_64 h1 h2)
theorem op_add : OpR X (binaryOp .Add) (rI0 fun i j => .int (i + j)) := opI0 fun _ _ _ _ _ _ _ q => add_int q
theorem op_sub : OpR X (binaryOp .Sub) (rI0 fun i j => .int (i - j)) := opI0 fun _ _ _ _ _ _ _ q => sub_int q
theorem op_mul : OpR X (binaryOp .Mult) (rI CMul fun i j => .int (i * j)) := opI fun _ _ _ _ _ _ _ hc q => mul_int q hc.ok
/-- % by a positive divisor of any size -/
theorem op_mod : OpR X (binaryOp .Mod) (rI (fun _ j => 0 < j) fun i j => .int (i % j)) := opI fun i j _ _ _ _ _ hc q => by
  have h1 : (0 : Int) < j := hc
  exact mod_int' (by omega) (by rw [Int.fmod_eq_emod_of_nonneg i (by omega)]; exact q)
end
/-- the scalars that == tells apart as data does -/
def scal : V → V → Bool
  | .non, .non => true | .non, .int _ => true | .int _, .non => true | .non, .bl _ => true | .bl _, .non => true | .non, .str _ => true | .str _, .non => true
  | .int _, .int _ => true | .bl _, .bl _ => true | .str _, .str _ => true | .byt _, .byt _ => true
  | .int _, .str _ => true | .str _, .int _ => true | .bl _, .str _ => true | .str _, .bl _ => true
  | _, _ => false
def rEq : R2 := fun x y H Q => scal x y = true ∧ Q (.bl (decide (x = y))) H
def rNe : R2 := fun x y H Q => scal x y = true ∧ Q (.bl (!decide (x = y))) H
theorem dec_int {i j : Int} : decide (V.int i = V.int j) = (i == j) := by
  rw [Bool.eq_iff_iff]
  simp
theorem dec_bl {i j : Bool} : decide (V.bl i = V.bl j) = (i == j) := by
  rw [Bool.eq_iff_iff]
  simp
theorem dec_str {i j : Str} : decide (V.str i = V.str j) = (i == j) := by
  rw [Bool.eq_iff_iff]
  simp
theorem dec_byt {i j : Array UInt8} : decide (V.byt i = V.byt j) = (i.toList == j.toList) := by
  rw [Bool.eq_iff_iff]
  cases i
  cases j
  simp
section
variable {X : Cx} {a b c : Expr} {ta tb tc : TE} {pos : Pos}
theorem fin_bl {pins : List (Addr × Obj)} {σ : St} {H : Hp} {s : Shared} {Q : VK} {k k' : Bool} (I : Inv X pins σ H s) (q : Q (.bl k) H) (e : k = k') : EP X pins σ Q (.bool k') s := by
  subst e
  exact ⟨.bl k, H, I, rfl, q⟩
theorem op_eq : OpR X (compareOp .Eq) rEq := by
  intro pins s σ H x y v u Q I rx ry h
  obtain ⟨hs, q⟩ := h
  cases x with
  | non =>
    cases rx
    cases y with
    | non => cases ry; exact PySem.EqNone.eq_none_none (fin_bl I q (by simp))
    | bl j => cases ry; exact PySem.EqNone.eq_none_bool (fin_bl I q (by simp))
    | int j => obtain ⟨t', rfl⟩ := ry; exact PySem.EqNone.eq_none_int (fin_bl I q (by simp))
    | str j => obtain ⟨t', rfl⟩ := ry; exact PySem.EqNone.eq_none_str (fin_bl I q (by simp))
    | _ => exact absurd (show false = true from hs) Bool.false_ne_true
  | bl i =>
    cases rx
    cases y with
    | non => cases ry; exact PySem.EqNone.eq_bool_none (fin_bl I q (by simp))
    | bl j => cases ry; exact eq_bool (fin_bl I q dec_bl)
    | str j => obtain ⟨t', rfl⟩ := ry; exact PySem.EqMixed.eq_bool_str (fin_bl I q (by simp))
    | _ => exact absurd (show false = true from hs) Bool.false_ne_true
  | int i =>
    obtain ⟨t, rfl⟩ := rx
    cases y with
    | non => cases ry; exact PySem.EqNone.eq_int_none (fin_bl I q (by simp))
    | int j => obtain ⟨t', rfl⟩ := ry; exact eq_int (fin_bl I q dec_int)
    | str j => obtain ⟨t', rfl⟩ := ry; exact PySem.EqMixed.eq_int_str (fin_bl I q (by simp))
    | _ => exact absurd (show false = true from hs) Bool.false_ne_true
  | str i =>
    obtain ⟨t, rfl⟩ := rx
    cases y with
    | non => cases ry; exact PySem.EqNone.eq_str_none (fin_bl I q (by simp))
    | bl j => cases ry; exact PySem.EqMixed.eq_str_bool (fin_bl I q (by simp))
    | int j => obtain ⟨t', rfl⟩ := ry; exact PySem.EqMixed.eq_str_int (fin_bl I q (by simp))
    | str j => obtain ⟨t', rfl⟩ := ry; exact eq_str (fin_bl I q dec_str)
    | _ => exact absurd (show false = true from hs) Bool.false_ne_true
  | byt i =>
    obtain ⟨t, rfl⟩ := rx
    cases y with
    | byt j => obtain ⟨t', rfl⟩ := ry; exact PySem.W.eq_bytes (fin_bl I q dec_byt)
    | _ => exact absurd (show false = true from hs) Bool.false_ne_true
  | _ => cases y <;> exact absurd (show false = true from hs) Bool.false_ne_true
theorem op_ne : OpR X (compareOp .NotEq) rNe := by
  intro pins s σ H x y v u Q I rx ry h
  obtain ⟨hs, q⟩ := h
  cases x with
  | non =>
    cases rx
    cases y with
    | non => cases ry; exact PySem.EqNone.ne_none_none (fin_bl I q (by simp))
    | bl j => cases ry; exact PySem.EqNone.ne_none_bool (fin_bl I q (by simp))
    | int j => obtain ⟨t', rfl⟩ := ry; exact PySem.EqNone.ne_none_int (fin_bl I q (by simp))
    | str j => obtain ⟨t', rfl⟩ := ry; exact PySem.EqNone.ne_none_str (fin_bl I q (by simp))
    | _ => exact absurd (show false = true from hs) Bool.false_ne_true
  | bl i =>
    cases rx
    cases y with
    | non => cases ry; exact PySem.EqNone.ne_bool_none (fin_bl I q (by simp))
    | bl j => cases ry; exact ne_bool (fin_bl I q (congrArg not dec_bl))
    | str j => obtain ⟨t', rfl⟩ := ry; exact PySem.EqMixed.ne_bool_str (fin_bl I q (by simp))
    | _ => exact absurd (show false = true from hs) Bool.false_ne_true
  | int i =>
    obtain ⟨t, rfl⟩ := rx
    cases y with
    | non => cases ry; exact PySem.EqNone.ne_int_none (fin_bl I q (by simp))
    | int j => obtain ⟨t', rfl⟩ := ry; exact ne_int (fin_bl I q (congrArg not dec_int))
    | str j => obtain ⟨t', rfl⟩ := ry; exact PySem.EqMixed.ne_int_str (fin_bl I q (by simp))
    | _ => exact absurd (show false = true from hs) Bool.false_ne_true
  | str i =>
    obtain ⟨t, rfl⟩ := rx
    cases y with
    | non => cases ry; exact PySem.EqNone.ne_str_none (fin_bl I q (by simp))
    | bl j => cases ry; exact PySem.EqMixed.ne_str_bool (fin_bl I q (by simp))
    | int j => obtain ⟨t', rfl⟩ := ry; exact PySem.EqMixed.ne_str_int (fin_bl I q (by simp))
    | str j => obtain ⟨t', rfl⟩ := ry; exact ne_str (fin_bl I q (congrArg not dec_str))
    | _ => exact absurd (show false = true from hs) Bool.false_ne_true
  | byt i =>
    obtain ⟨t, rfl⟩ := rx
    cases y with
    | byt j => obtain ⟨t', rfl⟩ := ry; exact PySem.W.ne_bytes (fin_bl I q (congrArg not dec_byt))
    | _ => exact absurd (show false = true from hs) Bool.false_ne_true
  | _ => cases y <;> exact absurd (show false = true from hs) Bool.false_ne_true
theorem op_lt : OpR X (compareOp .Lt) (rI0 fun i j => .bl (decide (i < j))) := opB0 fun _ _ _ _ _ _ _ q => lt_int q
theorem op_le : OpR X (compareOp .LtE) (rI0 fun i j => .bl (decide (i ≤ j))) := opB0 fun _ _ _ _ _ _ _ q => le_int q
theorem op_gt : OpR X (compareOp .Gt) (rI0 fun i j => .bl (decide (j < i))) := opB0 fun _ _ _ _ _ _ _ q => gt_int q
theorem op_ge : OpR X (compareOp .GtE) (rI0 fun i j => .bl (decide (j ≤ i))) := opB0 fun _ _ _ _ _ _ _ q => ge_int q
theorem nomark (b : Expr) {op : CmpOp} (h : op ≠ .In := by decide) (h2 : op ≠ .NotIn := by decide) : behindInMarks op b = false := by
  have e1 : (op == CmpOp.In) = false := by cases op <;> first | rfl | exact absurd rfl h
  have e2 : (op == CmpOp.NotIn) = false := by cases op <;> first | rfl | exact absurd rfl h2
  cases b <;> simp [behindInMarks, e1, e2]
/-- a comparison as a value; hm: nomark b, or (for in, not in) by with_unfolding_all rfl -/
theorem pe_cmpR {op : CmpOp} {r : R2} (ho : OpR X (compareOp op) r) (ha : PE X a ta) (hb : PE X b tb) (hm : behindInMarks op b = false) : PE X (.Compare a [op] [b] pos) (tOp r ta tb) := by
  intro pins s σ H Q I h
  exact wpAny_Compare1 (binT ha hb I h fun v u s2 x y H2 I2 rx ry q => ho pins s2 σ H2 x y v u Q I2 rx ry q) hm
/-- a reading of a value as a test -/
def tTest (t : TE) : TT := fun σ H Q => t σ H fun x H' => ∃ k, x = .bl k ∧ Q k H'
theorem pt_cmpR {op : CmpOp} {r : R2} (ho : OpR X (compareOp op) r) (ha : PE X a ta) (hb : PE X b tb) (hm : behindInMarks op b = false) : PT X (.Compare a [op] [b] pos) (tTest (tOp r ta tb)) := by
  intro pins s σ H Q I h
  refine wpAny_isTrue_Compare1 (thn (ha pins s σ H _ I h) fun v s1 ⟨x, H1, I1, r1, q1⟩ => thn (hb pins s1 σ H1 _ I1 q1) fun u s2 ⟨y, H2, I2, r2, q2⟩ =>
    thn (ho pins s2 σ H2 x y v u _ I2 r1 r2 q2) fun c s3 ⟨z, H3, I3, r3, k, e, q3⟩ => ?_) hm
  subst e
  cases r3
  exact wpAny_truthy_bool ⟨H3, I3, q3⟩
/-- a op1 b op2 c -/
def tChain (r r' : R2) (ta tb tc : TE) : TE := fun σ H Q => ta σ H fun x H1 => tb σ H1 fun y H2 => r x y H2 fun z H3 => ∃ k, z = .bl k ∧
  (if k = true then tc σ H3 fun w' H4 => r' y w' H4 Q else Q (.bl false) H3)
theorem pe_chain {op op' : CmpOp} {r r' : R2} (ho : OpR X (compareOp op) r) (ho' : OpR X (compareOp op') r') (ha : PE X a ta) (hb : PE X b tb) (hc : PE X c tc)
    (hm : lastMarks [op, op'] [b, c] = false := by with_unfolding_all rfl) : PE X (.Compare a [op, op'] [b, c] pos) (tChain r r' ta tb tc) := by
  intro pins s σ H Q I h
  refine Compare_chain (thn (ha pins s σ H _ I h) fun v s1 ⟨x, H1, I1, r1, q1⟩ => chain_link (thn (hb pins s1 σ H1 _ I1 q1) fun u s2 ⟨y, H2, I2, r2, q2⟩ =>
    thn (ho pins s2 σ H2 x y v u _ I2 r1 r2 q2) fun d s3 ⟨z, H3, I3, r3, k, e, q3⟩ => ?_)) hm
  subst e
  cases r3
  refine wpAny_truthy_bool ?_
  cases k with
  | false => exact ite_ff ⟨.bl false, H3, I3, rfl, q3⟩
  | true => exact ite_tt (chain_last (thn (hc pins s3 σ H3 _ I3 q3) fun w' s4 ⟨z', H4, I4, r4, q4⟩ => ho' pins s4 σ H4 y z' u w' Q I4 r2 r4 q4))
theorem pt_chain {op op' : CmpOp} {r r' : R2} (ho : OpR X (compareOp op) r) (ho' : OpR X (compareOp op') r') (ha : PE X a ta) (hb : PE X b tb) (hc : PE X c tc)
    (hm : lastMarks [op, op'] [b, c] = false := by with_unfolding_all rfl) : PT X (.Compare a [op, op'] [b, c] pos) (tTest (tChain r r' ta tb tc)) := by
  intro pins s σ H Q I h
  refine isTrue_chain (thn (ha pins s σ H _ I h) fun v s1 ⟨x, H1, I1, r1, q1⟩ => test_link (thn (hb pins s1 σ H1 _ I1 q1) fun u s2 ⟨y, H2, I2, r2, q2⟩ =>
    thn (ho pins s2 σ H2 x y v u _ I2 r1 r2 q2) fun d s3 ⟨z, H3, I3, r3, k, e, q3⟩ => ?_)) hm
  subst e
  cases r3
  refine wpAny_truthy_bool ?_
  cases k with
  | false =>
    obtain ⟨k', e', q'⟩ := q3
    cases e'
    exact ite_ff ⟨H3, I3, q'⟩
  | true =>
    refine ite_tt (test_last (thn (hc pins s3 σ H3 _ I3 q3) fun w' s4 ⟨z', H4, I4, r4, q4⟩ => thn (ho' pins s4 σ H4 y z' u w' _ I4 r2 r4 q4) fun d' s5 ⟨z2, H5, I5, r5, k2, e2, q5⟩ => ?_))
    subst e2
    cases r5
    exact wpAny_truthy_bool ⟨H5, I5, q5⟩
theorem line63 : (sizeLine : Nat) < 2 ^ 63 := by rw [sizeLine_eq]; decide
theorem vals1 {x : V} {us : List Value} (r : Vals [x] us) : ∃ u, us = [u] ∧ RelV x u := by
  cases r with
  | cons r1 r2 => cases r2; exact ⟨_, rfl, r1⟩
end
end L2
namespace L2
open PySem PySem.Spec PyProof.Rows
structure ObjM (h : Heap) (x dx C : Addr) (mA : Str → Option Value) : Prop where
  obj : h.get? x = some (PySem.W.instObj C dx)
  ns : h.Ns1 dx mA
  ne : dx ≠ x
theorem lookIn_ns {h : Heap} {dx : Addr} {mA : Str → Option Value} (n : h.Ns1 dx mA) : ∃ od, h.get? dx = some od ∧ ∀ name, PySem.W.lookIn name od = some (mA name) := by
  obtain ⟨o, es, ep, ho, hd, hk, _, hm⟩ := n
  refine ⟨o, ho, fun name => ?_⟩
  have e := hm name
  unfold nsFind findBy at e
  rw [← Array.find?_toList] at e
  unfold PySem.W.lookIn
  rw [hd]
  dsimp only
  split
  · rename_i y q
    rw [q] at e
    exact congrArg some e
  · rename_i q
    rw [q] at e
    have a : es.toList.any (·.refKey) = false := by
      rw [List.any_eq_false]
      intro y hy
      obtain ⟨z, t, hkey⟩ := hk y (Array.mem_toList_iff.mp hy)
      simp [DictEntry.refKey, hkey]
    have a' : ¬ es.toList.any (·.refKey) = true := by rw [a]; exact Bool.false_ne_true
    rw [if_neg a']
    exact congrArg some e
theorem ObjM.look {h : Heap} {x dx C : Addr} {mA : Str → Option Value} (I : ObjM h x dx C mA) : ∃ od, PySem.W.InstAt h x (PySem.W.instObj C dx) C (some od) ∧ ∀ name, PySem.W.lookIn name od = some (mA name) :=
  let ⟨od, ho, hl⟩ := lookIn_ns I.ns
  ⟨od, ⟨I.obj, rfl, rfl, ho⟩, hl⟩
section
variable {prog : Program} {w : World} {A : Around} {E : Value → Shared → Prop} {s : Shared} {K : PySem.W.Frag} {x dx C f : Addr} {mA : Str → Option Value} {name : Str} {v : Value}
theorem get_map {expr : Bool} {Q : Value → Shared → Prop} (X : K.In s.heap) (I : ObjM s.heap x dx C mA) (hg : PySem.W.plainGet K C name = true) (hh : PySem.W.hasDictIn K C = true)
    (ha : PySem.W.findIn K (.ref C) name = some none) (hv : mA name = some v) (hv' : PySem.W.handedIn v = true) (h : Q v { s with toks := s.toks + 1 }) :
    wpAny (model prog w) A (getAttr (.ref x) name expr) Q E s := by
  obtain ⟨od, J, hl⟩ := I.look
  exact PySem.W.get_value X J (PySem.W.plainGet_of hg).1 (PySem.W.findObj_own hh ha rfl (by rw [hl, hv])) hv' h
theorem get_meth {pl : Sem Bool} {Q : Value × List Value → Shared → Prop} (X : K.In s.heap) (I : ObjM s.heap x dx C mA) (hg : PySem.W.plainGet K C name = true)
    (hf : PySem.W.findIn K (.ref C) name = some (some (.ref f))) (ht : PySem.W.isFn K (.ref f) = true) (hv : mA name = none) (h : Q (.ref f, [.ref x]) s) :
    wpAny (model prog w) A (getMethod (.ref x) name pl) Q E s := by
  obtain ⟨od, J, hl⟩ := I.look
  exact PySem.W.method_fn X J (PySem.W.plainGet_of hg).1 (PySem.W.plainGet_of hg).2 hf (beq_iff_eq.mp ht) (by show (PySem.W.lookIn name od).map (·.isSome) = some false; rw [hl, hv]; rfl) h
theorem set_map {ns : List Str} {Q : Unit → Shared → Prop} (X : K.In s.heap) (I : ObjM s.heap x dx C mA)
    (hs : PySem.W.findIn K (.ref C) "__setattr__" = some (some (.builtin "object.__setattr__"))) (hp : PySem.W.plainOver K C = true) (ht : PySem.W.takerIn K C name = some none) (hh : PySem.W.hasDictIn K C = true)
    (hw : PySem.Within mA ns) (hsz : ns.length ≤ sizeLine)
    (h : ∀ h', ObjM h' x dx C (fun y => if y = name then some v else mA y) → Heap.SameBut dx s.heap h' → Q () { s with heap := h', toks := s.toks + 2 }) :
    wpAny (model prog w) A (setAttr (.ref x) name v) Q E s := by
  obtain ⟨od, J, hl⟩ := I.look
  refine PySem.W.set_plain X J hs (PySem.W.osa_open (s := { s with toks := s.toks + 1 }) (r := none) X J hp ht fun b => ?_)
  obtain ⟨cd, hc, hd'⟩ := PySem.W.any_some hh
  have hx : s.heap.get? x = some ⟨.ref C, some dx, .plain, #[]⟩ := I.obj
  refine wpAny_bind (wpAny_pure (wpAny_bind (wpAny_bind (wpAny_loadPart hx (wpAny_bind (PySem.W.Looks.here (s := { s with toks := s.toks + 1 }) (PySem.W.looks_clsIn X hc) ?_))))))
  rw [hd']
  refine wpAny_pure (a := some dx) (wpAny_bind (wpAny_pure (wpAny_bind ?_)))
  refine wpAny_nsSet1 (s := { s with toks := s.toks + 1 }) I.ns fun h' hn2 hs2 => ?_
  obtain ⟨oD, esD, epD, hoD, hdD, hcD⟩ := hn2.count (PySem.Within.cons name v hw)
  refine wpAny_bind (wpAny_lookBehind hoD (by rw [hdD]; exact pastItsLine_dict (Nat.le_trans hcD (by rw [List.length_cons]; omega))) ?_)
  exact wpAny_pure (h _ ⟨(hs2.2 _ (Ne.symm I.ne)).trans I.obj, hn2, I.ne⟩ hs2)
/-- C(..): the dict at the heap's end, the instance behind it; then its __init__ -/
theorem make_map {R : Result → Shared → Prop} {vs : List Value} {kw : List (Str × Value)} (X : K.In s.heap) (hm : PySem.W.makesIn K C = true)
    (hi : PySem.W.findIn K (.ref C) "__init__" = some (some (.ref f))) (hf : PySem.W.typeIn K (.ref f) = some (.type "function"))
    (h : codeAny (model prog w) (A.under (.builtin "type.__call__" ⟨.ref C :: vs, kw⟩)) (.call (.ref f) ⟨.ref (s.heap.objs.size + 1) :: vs, kw⟩) (PySem.W.InitBack (s.heap.objs.size + 1) R)
      { s with heap := (s.heap.push PySem.W.emptyDict).push (PySem.W.instObj C s.heap.objs.size) }) :
    codeAny (model prog w) A (.call (.ref C) ⟨vs, kw⟩) R s := by
  obtain ⟨hh, g, d, t, os⟩ := s
  exact PySem.W.make_core (PySem.W.makes_of X hm) (PySem.W.looks_findIn X hi) (fun self => PySem.W.bind_fn X self hf) (.inl rfl) h
end
def putF (f : Str) (v : V) : List (Str × V) → List (Str × V)
  | [] => [(f, v)]
  | (g, x) :: r => if g = f then (g, v) :: r else (g, x) :: putF f v r
theorem lookup_putF (f g : Str) (v : V) : ∀ fs : List (Str × V), (putF f v fs).lookup g = if g = f then some v else fs.lookup g
  | [] => by
    show List.lookup g [(f, v)] = _
    by_cases h : g = f
    · have hb : (g == f) = true := beq_iff_eq.mpr h
      simp only [List.lookup, hb, if_pos h]
    · have hb : (g == f) = false := beq_eq_false_iff_ne.mpr h
      simp only [List.lookup, hb, if_neg h]
  | (k, x) :: r => by
    have ih := lookup_putF f g v r
    rw [show putF f v ((k, x) :: r) = (if k = f then (k, v) :: r else (k, x) :: putF f v r) from rfl]
    by_cases hk : k = f
    · rw [if_pos hk]
      by_cases h : g = k
      · have hb : (g == k) = true := beq_iff_eq.mpr h
        simp only [List.lookup, hb, if_pos (h.trans hk)]
      · have hb : (g == k) = false := beq_eq_false_iff_ne.mpr h
        simp only [List.lookup, hb, if_neg (fun e : g = f => h (e.trans hk.symm))]
    · rw [if_neg hk]
      by_cases h : g = k
      · have hb : (g == k) = true := beq_iff_eq.mpr h
        simp only [List.lookup, hb, if_neg (fun e : g = f => hk (h.symm.trans e))]
      · have hb : (g == k) = false := beq_eq_false_iff_ne.mpr h
        simp only [List.lookup, hb]
        exact ih
theorem keys_putF (f : Str) (v : V) : ∀ fs : List (Str × V), f ∈ (putF f v fs).map (·.1) ∧ ∀ g, g ∈ fs.map (·.1) → g ∈ (putF f v fs).map (·.1)
  | [] => ⟨by simp [putF], fun g h => by simp at h⟩
  | (k, x) :: r => by
    obtain ⟨i1, i2⟩ := keys_putF f v r
    rw [show putF f v ((k, x) :: r) = (if k = f then (k, v) :: r else (k, x) :: putF f v r) from rfl]
    by_cases hk : k = f
    · rw [if_pos hk]
      subst hk
      exact ⟨by simp, fun g h => by simpa using h⟩
    · rw [if_neg hk]
      refine ⟨?_, fun g h => ?_⟩
      · rw [List.map_cons]
        exact List.mem_cons_of_mem _ i1
      · rw [List.map_cons] at h ⊢
        rcases List.mem_cons.mp h with e | e
        · exact List.mem_cons.mpr (.inl e)
        · exact List.mem_cons_of_mem _ (i2 g e)
theorem length_putF (f : Str) (v : V) : ∀ fs : List (Str × V), (putF f v fs).length ≤ fs.length + 1
  | [] => by simp [putF]
  | (k, x) :: r => by
    have ih := length_putF f v r
    rw [show putF f v ((k, x) :: r) = (if k = f then (k, v) :: r else (k, x) :: putF f v r) from rfl]
    by_cases hk : k = f
    · rw [if_pos hk, List.length_cons, List.length_cons]; omega
    · rw [if_neg hk, List.length_cons, List.length_cons]; omega
theorem RelO.some_of {v : V} {o : Option Value} (r : RelO (some v) o) : ∃ u, o = some u ∧ RelV v u := by
  cases o with
  | none => exact (show False from r).elim
  | some u => exact ⟨u, rfl, r⟩
theorem RelO.none_of {o : Option Value} (r : RelO none o) : o = none := by
  cases o with
  | none => rfl
  | some u => exact (show False from r).elim
theorem handed_of {v : V} {u : Value} (r : RelV v u) : PySem.W.handedIn u = true := by
  cases v with
  | non => cases (show u = Value.none from r); rfl
  | bl b => cases (show u = Value.bool b from r); rfl
  | int i => obtain ⟨t, e⟩ := (show ∃ t, u = Value.int i t from r); cases e; rfl
  | str x => obtain ⟨t, e⟩ := (show ∃ t, u = Value.str x t from r); cases e; rfl
  | byt b => obtain ⟨t, e⟩ := (show ∃ t, u = Value.bytes b t from r); cases e; rfl
  | flt b => obtain ⟨t, e⟩ := (show ∃ t, u = Value.float b t from r); cases e; rfl
  | ref a => cases (show u = Value.ref a from r); rfl
  | ty n => cases (show u = Value.type n from r); rfl
section
variable {P : Program} {w : World} {H H' : Hp} {h h' : Heap} {a C dx : Addr} {fs fs' : List (Str × V)}
theorem ins_get (hok : HOk P w H h) (e : H a = some (.ins C dx fs)) : ∃ mA, ObjM h a dx C mA ∧ (∀ f, RelO (fs.lookup f) (mA f)) ∧ PySem.Within mA (fs.map (·.1)) ∧ fs.length ≤ 1000 ∧ H dx = some (.own a) := by
  obtain ⟨d, z, ne, ob, mA, n, r, q⟩ := (show ObjOk P w H h a (.ins C dx fs) from hok a _ e)
  exact ⟨mA, ⟨ob, n, ne⟩, r, q, z, d⟩
end
structure Cls (K : PySem.W.Frag) (C : Addr) : Prop where
  pg : PySem.W.plainGet K C Str.empty = true
  hd : PySem.W.hasDictIn K C = true
  po : PySem.W.plainOver K C = true
  sa : PySem.W.findIn K (.ref C) "__setattr__" = some (some (.builtin "object.__setattr__"))
theorem Cls.get {K : PySem.W.Frag} {C : Addr} (c : Cls K C) (f : Str) : PySem.W.plainGet K C f = true := c.pg
/-- no class of it has the name -/
def NoAttr (K : PySem.W.Frag) (C : Addr) (f : Str) : Prop := PySem.W.findIn K (.ref C) f = some none
theorem NoAttr.taker {K : PySem.W.Frag} {C : Addr} {f : Str} (n : NoAttr K C f) : PySem.W.takerIn K C f = some none := by
  unfold PySem.W.takerIn
  rw [show PySem.W.findIn K (.ref C) f = some none from n]
  rfl
/-- a method: a plain def of the class or of one above it -/
structure Meth (K : PySem.W.Frag) (C : Addr) (m : Str) (f : Addr) : Prop where
  at_ : PySem.W.findIn K (.ref C) m = some (some (.ref f))
  fn : PySem.W.isFn K (.ref f) = true
  kp : PySem.W.keepIn K (.ref f) = true
section
variable {X : Cx} {pins : List (Addr × Obj)} {σ : St} {H : Hp} {s : Shared} {a C dx : Addr} {fs : List (Str × V)} {f : Str} {v : V} {A : Around} {E : Value → Shared → Prop}
theorem getattr_ok {b : Bool} {Q : Value → Shared → Prop} (I : Inv X pins σ H s) (e : H a = some (.ins C dx fs)) (c : Cls X.K C) (n : NoAttr X.K C f) (l : fs.lookup f = some v)
    (h : ∀ u s', Inv X pins σ H s' → RelV v u → Q u s') : wpAny (model X.prog X.w) A (getAttr (.ref a) f b) Q E s := by
  obtain ⟨mA, O, r, _, _, _⟩ := ins_get I.hok e
  obtain ⟨u, hu, ru⟩ := RelO.some_of (v := v) (o := mA f) (by rw [← l]; exact r f)
  exact get_map I.kIn O (c.get f) c.hd n hu (handed_of ru) (h u _ (I.tok _) ru)
theorem getmeth_ok {m : Str} {g : Addr} {pl : Sem Bool} {Q : Value × List Value → Shared → Prop} (I : Inv X pins σ H s) (e : H a = some (.ins C dx fs)) (c : Cls X.K C) (k : Meth X.K C m g) (l : fs.lookup m = none)
    (h : Q (.ref g, [.ref a]) s) : wpAny (model X.prog X.w) A (getMethod (.ref a) m pl) Q E s := by
  obtain ⟨mA, O, r, _, _, _⟩ := ins_get I.hok e
  have hn : mA m = none := RelO.none_of (by rw [← l]; exact r m)
  exact get_meth I.kIn O (c.get m) k.at_ k.fn hn h
theorem setattr_ok {y : V} {u : Value} {Q : Unit → Shared → Prop} (I : Inv X pins σ H s) (e : H a = some (.ins C dx fs)) (c : Cls X.K C) (n : NoAttr X.K C f) (hl : fs.length < 1000) (ry : RelV y u)
    (h : ∀ s', Inv X pins σ (upd H a (.ins C dx (putF f y fs))) s' → Q () s') : wpAny (model X.prog X.w) A (setAttr (.ref a) f u) Q E s := by
  obtain ⟨mA, O, r, wi, _, ho⟩ := ins_get I.hok e
  have hz : (fs.map (·.1)).length ≤ sizeLine := by rw [List.length_map, sizeLine_eq]; omega
  refine set_map I.kIn O c.sa c.po n.taker c.hd wi hz fun h' O' sb => h _ ?_
  have hd : ∃ o, h'.get? dx = some o := let ⟨o, _, _, e', _⟩ := O'.ns; ⟨o, e'⟩
  refine I.write (x := a) (e := dx) (by rw [e]; exact True.intro) (.inr ho) (fun b q hb z => (sb.2 b hb).trans z) hd ?_
  refine ⟨by rw [upd_ne O.ne]; exact ho, ?_, O.ne, O'.obj, _, O'.ns, fun g => ?_, fun g hg => ?_⟩
  · have := length_putF f y fs; omega
  · show RelO ((putF f y fs).lookup g) (if g = f then some u else mA g)
    rw [lookup_putF]
    by_cases q : g = f
    · rw [if_pos q, if_pos q]; exact ry
    · rw [if_neg q, if_neg q]; exact r g
  · by_cases q : g = f
    · rw [q]; exact (keys_putF f y fs).1
    · refine (keys_putF f y fs).2 g (wi g fun z => hg ?_)
      show (if g = f then some u else mA g) = none
      rw [if_neg q]; exact z
/-- a new instance, tracked, without attributes -/
theorem Inv.made (I : Inv X pins σ H s) : Inv X pins σ (upd (upd H s.heap.objs.size (.own (s.heap.objs.size + 1))) (s.heap.objs.size + 1) (.ins C s.heap.objs.size []))
    { s with heap := (s.heap.push PySem.W.emptyDict).push (PySem.W.instObj C s.heap.objs.size) } := by
  have e1 : (s.heap.push PySem.W.emptyDict).get? s.heap.objs.size = some PySem.W.emptyDict := Heap.get?_push_size s.heap rfl
  have e2 : ((s.heap.push PySem.W.emptyDict).push (PySem.W.instObj C s.heap.objs.size)).get? (s.heap.objs.size + 1) = some (PySem.W.instObj C s.heap.objs.size) := by
    have := Heap.get?_push_size (s.heap.push PySem.W.emptyDict) (o := PySem.W.instObj C s.heap.objs.size) rfl
    rwa [Heap.size_push] at this
  have e3 : (s.heap.push PySem.W.emptyDict).Ns s.heap.objs.size (fun _ => none) := ⟨PySem.W.emptyDict, #[], _, e1, rfl, (fun e he => absurd he (by simp)), fun _ => rfl⟩
  have I1 := I.laid (a := s.heap.objs.size) (o := .own (s.heap.objs.size + 1)) (h' := s.heap.push PySem.W.emptyDict) (t' := s.toks) (fun b u q => Heap.get?_push_of_some _ q) (Nat.le_refl _) ⟨_, e1⟩
  refine I1.laid (a := s.heap.objs.size + 1) (o := .ins C s.heap.objs.size []) (t' := s.toks) (fun b u q => Heap.get?_push_of_some _ q) (Nat.le_of_eq (Heap.size_push _ _)) ?_
  have ne : s.heap.objs.size ≠ s.heap.objs.size + 1 := Nat.ne_of_lt (Nat.lt_succ_self _)
  refine ⟨by rw [upd_ne ne, upd_same], Nat.zero_le _, ne, e2, fun _ => none, (Heap.Ns1.of_empty e3).at fun o q => Heap.get?_push_of_some _ q, fun _ => True.intro, fun y hy => absurd rfl hy⟩
/-- e.f where nothing but the object is asked: through attributeBase (super) and the last hold -/
theorem attr_of {prog : Program} {w : World} {env : Env} {e : Expr} {f : Str} {pos : Pos} {s : Shared} {Q : Value → Shared → Prop} (hb : attributeBase e f env (eval e env) = eval e env)
    (h : wpAny (model prog w) A (eval e env) (fun o s₁ => wpAny (model prog w) A (getAttr o f true) Q E s₁) E s) : wpAny (model prog w) A (eval (.Attribute e f pos) env) Q E s :=
  Attribute_any_ h (by rw [arm_eval_Attribute, hb])
end
/-- e.f, an attribute of the instance -/
def tFld (K : PySem.W.Frag) (ta : TE) (f : Str) : TE := fun σ H Q => ta σ H fun x H1 => ∃ a C dx fs v, x = .ref a ∧ H1 a = some (.ins C dx fs) ∧ Cls K C ∧ NoAttr K C f ∧ fs.lookup f = some v ∧ Q v H1
/-- e.f = value -/
def sFld (K : PySem.W.Frag) (ta tv : TE) (f : Str) : TS := fun D σ H => tv σ H fun y H1 => ta σ H1 fun x H2 => ∃ a C dx fs, x = .ref a ∧ H2 a = some (.ins C dx fs) ∧ Cls K C ∧ NoAttr K C f ∧ fs.length < 1000 ∧
  D.nx σ (upd H2 a (.ins C dx (putF f y fs)))
section
variable {X : Cx} {o e value : Expr} {f : Str} {pos pos' tpos : Pos} {ta tv : TE}
theorem pe_fld (he : PE X e ta) (hb : attributeBase e f X.env (eval e X.env) = eval e X.env) : PE X (.Attribute e f pos) (tFld X.K ta f) := by
  intro pins s σ H Q I h
  refine attr_of hb (thn (he pins s σ H _ I h) fun u s1 ⟨x, H1, I1, rx, a, C, dx, fs, v, ex, ea, c, n, l, q⟩ => ?_)
  subst ex
  obtain rfl : u = Value.ref a := rx
  exact getattr_ok I1 ea c n l fun u' s2 I2 ru => ⟨v, H1, I2, ru, q⟩
theorem ps_fld (ha : PE X o ta) (hv : PE X value tv) (hs : swapsWith value (some (.Attribute o f pos')) pos.line X.env = pure false) : PS X (.Assign [.Attribute o f pos'] value pos) (sFld X.K ta tv f) := by
  intro pins s σ H D I h
  refine plainObj_wpAny_Assign_Attribute (thn (hv pins s σ H _ I h) fun u s1 ⟨y, H1, I1, ry, q⟩ => thn (ha pins s1 σ H1 _ I1 q) fun ov s2 ⟨x, H2, I2, rx, a, C, dx, fs, ex, ea, c, n, l, q2⟩ => ?_) hs
  subst ex
  obtain rfl : ov = Value.ref a := rx
  exact setattr_ok I2 ea c n l ry fun s3 I3 => ⟨σ, _, I3, q2⟩
/-- what is between an instance and its method: the tree of a method call -/
theorem methcall_of {pl : Sem Bool} {m : Str} {apos : Pos} {args : List Expr} {pins : List (Addr × Obj)} {s : Shared} {σ : St} {H : Hp} {Q : Value → Shared → Prop} {te : TE} (he : PE X e te) (I : Inv X pins σ H s)
    (h : te σ H fun x H1 => ∃ a C dx fs g, x = .ref a ∧ H1 a = some (.ins C dx fs) ∧ Cls X.K C ∧ Meth X.K C m g ∧ fs.lookup m = none ∧
      ∀ s1, Inv X pins σ H1 s1 → wpAny (model X.prog X.w) X.A (callWith pos (.ref g) [.ref a] (backTo pos (starEach args X.env)) (backToKw pos (keywordEach [] X.env))) Q X.xe s1)
    (ht : eval (.Call (.Attribute e m apos) args [] pos) X.env = (do
      let ov ← eval e X.env
      standAt apos.atName
      let (f, first) ← holding [ov] (getMethod ov m pl)
      callWith pos f first (backTo pos (starEach args X.env)) (backToKw pos (keywordEach [] X.env)))) :
    wpAny (model X.prog X.w) X.A (eval (.Call (.Attribute e m apos) args [] pos) X.env) Q X.xe s := by
  refine PySem.W.methodCall_KW (pl := pl) (thn (he pins s σ H _ I h) fun u s1 ⟨x, H1, I1, rx, a, C, dx, fs, g, ex, ea, c, k, l, q⟩ => ?_) ht
  subst ex
  obtain rfl : u = Value.ref a := rx
  exact getmeth_ok I1 ea c k l (q s1 I1)
end
end L2
namespace L2
open PySem PySem.Spec PyProof.Rows
structure Room (k : Nat) (A : Around) : Prop where
  hd : A.handled = none
  dp : A.depth + 3 * k + 5 < recursionLimit
  un : A.units + 16 * k + 200 < cLine
theorem Room.mono {j k : Nat} {A : Around} (r : Room k A) (h : j ≤ k) : Room j A := ⟨r.hd, by have := r.dp; omega, by have := r.un; omega⟩
theorem Room.deeper {k : Nat} {A : Around} (r : Room (k + 1) A) (env : Env) : Room k (A.deeper env) :=
  ⟨r.hd, by have := r.dp; show A.depth + 1 + 3 * k + 5 < _; omega, by have := r.un; show A.units + 3 + 16 * k + 200 < _; omega⟩
theorem make_depth {A : Around} {C : Addr} {us : List Value} {kw : List (Str × Value)} : (A.under (.builtin "type.__call__" ⟨.ref C :: us, kw⟩)).depth = A.depth + 1 := by
  first | rfl | simp [Around.under, Code.weight, Code.isCreation, Code.isGuard, Code.isCaller, Code.frames, Code.isFrame, guardIds]
theorem make_units {A : Around} {C : Addr} {us : List Value} {kw : List (Str × Value)} : (A.under (.builtin "type.__call__" ⟨.ref C :: us, kw⟩)).units = A.units + 1 := by
  first | rfl | simp [Around.under, Code.cUnits, Code.frames, Code.isFrame]
theorem Room.make {k : Nat} {A : Around} (r : Room (k + 1) A) (C : Addr) (us : List Value) (kw : List (Str × Value)) : Room k (A.under (.builtin "type.__call__" ⟨.ref C :: us, kw⟩)) :=
  ⟨r.hd, by have := r.dp; rw [make_depth]; omega, by have := r.un; rw [make_units]; omega⟩
theorem Room.depth {k : Nat} {A : Around} (r : Room k A) : A.depth < recursionLimit := by have := r.dp; omega
theorem Room.units {k : Nat} {A : Around} (r : Room k A) : A.units + 64 < cLine := by have := r.un; omega
def tNil : TA := fun _ H Q => Q [] H
def tCons (ta : TE) (tr : TA) : TA := fun σ H Q => ta σ H fun x H1 => tr σ H1 fun xs H2 => Q (x :: xs) H2
section
variable {X : Cx} {e : Expr} {es : List Expr} {te : TE} {t : TA} {pos : Pos}
theorem pa_nil : PA X [] tNil := fun _ _ _ _ H Q I h => Calls.spliced_nil ⟨[], H, I, .nil, h⟩
theorem pa_cons (ha : PE X e te) (hr : PA X es t) (hs : starEach (e :: es) X.env = (false, eval e X.env) :: starEach es X.env := by rfl) : PA X (e :: es) (tCons te t) := by
  intro pos pins s σ H Q I h
  rw [hs]
  show wpAny _ _ (spliced ((false, eval e X.env) :: backTo pos (starEach es X.env))) _ _ s
  refine Calls.spliced_cons (thn (ha pins s σ H _ I h) fun u s1 ⟨x, H1, I1, r1, q1⟩ => ?_)
  exact thn (hr pos pins s1 σ H1 _ I1 q1) fun us s2 ⟨xs, H2, I2, r2, q2⟩ => ⟨x :: xs, H2, I2, .cons r1 r2, q2⟩
/-- a tuple, a list of written items -/
def tTup (t : TA) : TE := fun σ H Q => t σ H fun xs H1 => xs.length ≤ sizeLine ∧ ∀ p, H1 p = none → Q (.ref p) (upd H1 p (.tup xs))
def tLst (t : TA) : TE := fun σ H Q => t σ H fun xs H1 => xs.length ≤ sizeLine ∧ ∀ p, H1 p = none → Q (.ref p) (upd H1 p (.lst xs))
theorem pe_tup {x1} (h : PA X es t) : PE X (.Tuple es x1 pos) (tTup t) := by
  intro pins s σ H Q I hq
  refine wpAny_Tuple_spliced (thn (h pos pins s σ H _ I hq) fun us s1 ⟨xs, H1, I1, r, z, q⟩ => ⟨by rw [← r.length]; exact z, ?_⟩)
  have hf : H1 s1.heap.objs.size = none := I1.hok.fresh (Nat.le_refl _)
  refine ⟨.ref s1.heap.objs.size, upd H1 s1.heap.objs.size (.tup xs), I1.laid (t' := s1.toks) (fun b u e => Heap.get?_push_of_some _ e) (Nat.le_refl _) ?_, rfl, q _ hf⟩
  exact ⟨z, us, r, ⟨_, Heap.get?_push_size _ rfl, rfl, _, rfl⟩⟩
theorem pe_lst (h : PA X es t) : PE X (.List es pos) (tLst t) := by
  intro pins s σ H Q I hq
  refine wpAny_List_spliced (thn (h pos pins s σ H _ I hq) fun us s1 ⟨xs, H1, I1, r, z, q⟩ => ⟨by rw [← r.length]; exact z, ?_⟩)
  have hf : H1 s1.heap.objs.size = none := I1.hok.fresh (Nat.le_refl _)
  refine ⟨.ref s1.heap.objs.size, upd H1 s1.heap.objs.size (.lst xs), I1.laid (t' := s1.toks) (fun b u e => Heap.get?_push_of_some _ e) (Nat.le_refl _) ?_, rfl, q _ hf⟩
  exact ⟨z, us, 0, r, Heap.get?_push_size _ rfl⟩
end
/-- a def's promise: the bound arguments in the parameters' order, the heap, the wanted end, the wanted exception -/
abbrev Sp := List V → Hp → VK → XK → Prop
/-- how an exception lies behind a call (file 08 gives it): the callers' frames, abstract heap and state ahead of the call, the wish, the exception, the state -/
abbrev CXT := List Env → Hp → Shared → XK → Value → Shared → Prop
/-- the state at a call -/
structure Env0 (P : Program) (w : World) (K : PySem.W.Frag) (mg : Str → Option Value) (base : Heap) (A : Around) (outer : List Env) (s : Shared) (H : Hp) : Prop where
  frames : A.frames = some outer
  mod : Mod K mg base
  bs : ∀ b o, base.get? b = some o → s.heap.get? b = some o ∧ H b = none
  bsz : base.objs.size ≤ s.heap.objs.size
  funs : s.heap.FunFrames base outer
  frf : ∀ b ∈ frs outer, H b = none
  hok : HOk P w H s.heap
  bare : AllBare s.gens
/-- a call's end -/
def CE (outer : List Env) (P : Program) (w : World) (H : Hp) (s : Shared) (Q : VK) (u : Value) (s' : Shared) : Prop :=
  ∃ v H', s'.os = s.os ∧ AllBare s'.gens ∧ Un (frs outer) [] H H' s.heap s'.heap ∧ HOk P w H' s'.heap ∧ RelV v u ∧ Q v H'
def CR (CX : CXT) (outer : List Env) (P : Program) (w : World) (H : Hp) (s : Shared) (Q : VK) (E : XK) (r : Result) (s' : Shared) : Prop :=
  match r with
  | .ok (.ret u) => CE outer P w H s Q u s'
  | .ok _ => False
  | .error e => CX outer H s E e s'
structure FnOk (P : Program) (w : World) (K : PySem.W.Frag) (mg : Str → Option Value) (base : Heap) (CX : CXT) (k : Nat) (f : Addr) (fd : FuncData) (ps : List Str) (sp : Sp) : Prop where
  len : ∀ vs H Q E, sp vs H Q E → vs.length = ps.length
  run : ∀ (A : Around) (outer : List Env) (s : Shared) (H : Hp) (args : Args) (us : List Value) (vs : List V) (Q : VK) (E : XK), Room k A → Env0 P w K mg base A outer s H → BindsTo s fd args (ps.zip us) → Vals vs us → sp vs H Q E →
    codeAny (model P w) A (.call (.ref f) args) (CR CX outer P w H s Q E) s
theorem Env0.make {P : Program} {w : World} {K : PySem.W.Frag} {mg : Str → Option Value} {base : Heap} {A : Around} {outer : List Env} {s : Shared} {H : Hp} (e : Env0 P w K mg base A outer s H) (C : Addr) (us : List Value) (kw : List (Str × Value)) :
    Env0 P w K mg base (A.under (.builtin "type.__call__" ⟨.ref C :: us, kw⟩)) outer s H := ⟨by first | exact e.frames | (simpa [Around.under, Code.envs, Code.isFrame, pushEnvs] using e.frames), e.mod, e.bs, e.bsz, e.funs, e.frf, e.hok, e.bare⟩
section
variable {X : Cx} {pins : List (Addr × Obj)} {σ : St} {H : Hp} {s s' : Shared}
/-- from a body: what a callee wants -/
theorem Inv.env0 (I : Inv X pins σ H s) : Env0 X.prog X.w X.K X.mg X.base X.A X.stack s H :=
  ⟨I.ok.frames, I.ok.mod, I.bs, Nat.le_trans I.ok.bsz I.sz, I.stack, I.stkFree, I.hok, I.bare⟩
/-- behind a call -/
theorem Inv.after {Q : VK} {u : Value} (I : Inv X pins σ H s) (h : CE X.stack X.prog X.w H s Q u s') : EP X pins σ Q u s' := by
  obtain ⟨v, H', os, bare, un, hok, r, q⟩ := h
  obtain ⟨hh, g, d, t, os'⟩ := s'
  obtain rfl : os' = s.os := os
  exact ⟨v, H', I.call (h' := hh) (g' := g) (d' := d) (t' := t) (ch := []) un hok bare (fun b z => absurd z (by simp)), r, q⟩
end
/-- f(..): the written arguments, then the defaults dvs; E: what is wanted of an exception -/
def tCall (sp : Sp) (dvs : List V) (E : XK) (t : TA) : TE := fun σ H Q => t σ H fun vs H1 => sp (vs ++ dvs) H1 Q E
/-- o.m(..) of an instance of the class at C -/
def tMeth (C : Addr) (m : Str) (sp : Sp) (dvs : List V) (E : XK) (ta : TE) (t : TA) : TE := fun σ H Q => ta σ H fun x H1 => ∃ a dx fs, x = .ref a ∧ H1 a = some (.ins C dx fs) ∧ fs.lookup m = none ∧
  t σ H1 fun vs H2 => sp (x :: (vs ++ dvs)) H2 Q E
/-- C(..): a new instance and its dict, then __init__ -/
def tMake (C : Addr) (sp : Sp) (dvs : List V) (E : XK) (t : TA) : TE := fun σ H Q => t σ H fun vs H1 => ∀ x dx, H1 x = none → H1 dx = none → dx ≠ x →
  sp (.ref x :: (vs ++ dvs)) (upd (upd H1 dx (.own x)) x (.ins C dx [])) (fun v H2 => v = .non ∧ Q (.ref x) H2) E
/-- how the parameters are bound: us the positional arguments, kw the keywords' values by name, ds the defaults that fill up -/
def Binds (K : PySem.W.Frag) (fd : FuncData) (ps : List Str) (ds : List Value) : Prop :=
  ∀ (s : Shared) (us : List Value), K.In s.heap → (us ++ ds).length = ps.length → BindsTo s fd ⟨us, []⟩ (ps.zip (us ++ ds))
/-- every parameter is given -/
theorem Binds.all {K : PySem.W.Frag} {fd : FuncData} {ps : List Str} (h : ∀ us : List Value, us.length = ps.length → bindArgs fd ⟨us, []⟩ = pure (ps.zip us)) : Binds K fd ps [] := fun s us _ hl => by
  rw [List.append_nil] at hl ⊢
  exact .of_eq (h us hl)
/-- an exception of a callee reaches what this body wants of exceptions -/
def Passes (CX : CXT) (X : Cx) (E : XK) : Prop := ∀ (pins : List (Addr × Obj)) (σ : St) (H : Hp) (s : Shared) (e : Value) (s' : Shared), Inv X pins σ H s → CX X.stack H s E e s' → X.xe e s'
section
variable {X : Cx} {CX : CXT} {k : Nat} {f C : Addr} {fd : FuncData} {ps : List Str} {sp : Sp} {dvs : List V} {ds : List Value} {E : XK} {x m : Str} {p pos apos : Pos} {e o : Expr} {es : List Expr} {ta : TE} {t : TA}
/-- the callee runs -/
theorem run_fn {pins : List (Addr × Obj)} {σ : St} {H : Hp} {s : Shared} {Q : VK} {us : List Value} {vs : List V} (F : FnOk X.prog X.w X.K X.mg X.base CX k f fd ps sp) (hr : Room k X.A) (hb : Binds X.K fd ps ds) (hd : Vals dvs ds) (hx : Passes CX X E)
    (I : Inv X pins σ H s) (r : Vals vs us) (h : sp (vs ++ dvs) H Q E) : wpAny (model X.prog X.w) X.A (call (.ref f) us) (EP X pins σ Q) X.xe s := by
  have r2 : Vals (vs ++ dvs) (us ++ ds) := r.append hd
  have hl : (us ++ ds).length = ps.length := by rw [← r2.length]; exact F.len _ _ _ _ h
  refine wpAny_call (codeAny_mono (F.run X.A X.stack s H ⟨us, []⟩ (us ++ ds) (vs ++ dvs) Q E hr I.env0 (hb s us I.kIn hl) r2 h) fun r s' hq => ?_)
  cases r with
  | error e => exact hx pins σ H s e s' I hq
  | ok fl =>
    cases fl with
    | ret u => exact I.after hq
    | next => exact False.elim hq
    | brk => exact False.elim hq
    | cont => exact False.elim hq
theorem pe_call (F : FnOk X.prog X.w X.K X.mg X.base CX k f fd ps sp) (hr : Room k X.A) (hg : Gl X x) (hm : X.mg x = some (.ref f)) (hk : PySem.W.keepIn X.K (.ref f) = true) (hb : Binds X.K fd ps ds) (hd : Vals dvs ds) (hx : Passes CX X E)
    (ha : PA X (e :: es) t) (hdb : (x == ("__debug__" : Str)) = false := by decide) (he : starEach (e :: es) X.env = (false, eval e X.env) :: starEach es X.env := by rfl) (hpl : (backTo pos (starEach es X.env)).any (·.1) = false := by rfl) :
    PE X (.Call (.Name x p) (e :: es) [] pos) (tCall sp dvs E t) := by
  intro pins s σ H Q I h
  refine wpAny_Call_Name_kw (ld_glob I hg hm ?_ hdb)
  refine PySem.W.callWith_K (h₀ := X.base) I.ok.mod.kin hk (thn (ha pos pins s σ H _ I h) fun us s1 ⟨vs, H1, I1, r, q⟩ => ⟨I1.kIn, ?_⟩) he hpl
  exact run_fn F hr hb hd hx I1 r q
/-- o.m(e, ..) -/
theorem pe_meth {pl : Sem Bool} (he : PE X o ta) (c : Cls X.K C) (hm : Meth X.K C m f) (F : FnOk X.prog X.w X.K X.mg X.base CX k f fd ps sp) (hr : Room k X.A) (hb : Binds X.K fd ps ds) (hd : Vals dvs ds) (hx : Passes CX X E) (ha : PA X (e :: es) t)
    (hst : starEach (e :: es) X.env = (false, eval e X.env) :: starEach es X.env := by rfl) (hpl : (backTo pos (starEach es X.env)).any (·.1) = false := by rfl)
    (ht : eval (.Call (.Attribute o m apos) (e :: es) [] pos) X.env = (do
      let ov ← eval o X.env
      standAt apos.atName
      let (f, first) ← holding [ov] (getMethod ov m pl)
      callWith pos f first (backTo pos (starEach (e :: es) X.env)) (backToKw pos (keywordEach [] X.env))) := by rfl) :
    PE X (.Call (.Attribute o m apos) (e :: es) [] pos) (tMeth C m sp dvs E ta t) := by
  intro pins s σ H Q I h
  refine PySem.W.methodCall_KW (pl := pl) (thn (he pins s σ H _ I h) fun u s1 ⟨x, H1, I1, rx, a, dx, fs, ex, ea, l, q⟩ => ?_) ht
  subst ex
  obtain rfl : u = Value.ref a := rx
  refine getmeth_ok I1 ea c hm l ?_
  refine PySem.W.callWith_K (first := [.ref a]) (h₀ := X.base) I.ok.mod.kin hm.kp (thn (ha pos pins s1 σ H1 _ I1 q) fun us s2 ⟨vs, H2, I2, r, q2⟩ => ⟨I2.kIn, ?_⟩) hst hpl
  exact run_fn (us := .ref a :: us) (vs := .ref a :: vs) F hr hb hd hx I2 (.cons rfl r) q2
/-- o.m() -/
theorem pe_meth0 {pl : Sem Bool} (he : PE X o ta) (c : Cls X.K C) (hm : Meth X.K C m f) (F : FnOk X.prog X.w X.K X.mg X.base CX k f fd ps sp) (hr : Room k X.A) (hb : Binds X.K fd ps ds) (hd : Vals dvs ds) (hx : Passes CX X E)
    (ht : eval (.Call (.Attribute o m apos) [] [] pos) X.env = (do
      let ov ← eval o X.env
      standAt apos.atName
      let (f, first) ← holding [ov] (getMethod ov m pl)
      callWith pos f first (backTo pos (starEach [] X.env)) (backToKw pos (keywordEach [] X.env))) := by rfl) :
    PE X (.Call (.Attribute o m apos) [] [] pos) (tMeth C m sp dvs E ta tNil) := by
  intro pins s σ H Q I h
  refine PySem.W.methodCall_KW (pl := pl) (thn (he pins s σ H _ I h) fun u s1 ⟨x, H1, I1, rx, a, dx, fs, ex, ea, l, q⟩ => ?_) ht
  subst ex
  obtain rfl : u = Value.ref a := rx
  refine getmeth_ok I1 ea c hm l ?_
  exact PySem.W.callWith_K0 (first := [.ref a]) I1.kIn hm.kp (run_fn (us := [.ref a]) (vs := [.ref a]) F hr hb hd hx I1 (.cons rfl .nil) q)
/-- what a class must have to be made -/
structure Mk (K : PySem.W.Frag) (C f : Addr) : Prop where
  makes : PySem.W.makesIn K C = true
  init : PySem.W.findIn K (.ref C) "__init__" = some (some (.ref f))
  fn : PySem.W.isFn K (.ref f) = true
  kp : PySem.W.keepIn K (.ref C) = true
theorem run_make {pins : List (Addr × Obj)} {σ : St} {H : Hp} {s : Shared} {Q : VK} {us : List Value} {vs : List V} (M : Mk X.K C f) (F : FnOk X.prog X.w X.K X.mg X.base CX k f fd ps sp) (hr : Room (k + 1) X.A) (hb : Binds X.K fd ps ds) (hd : Vals dvs ds)
    (hx : Passes CX X E) (I : Inv X pins σ H s) (r : Vals vs us)
    (h : ∀ x dx, H x = none → H dx = none → dx ≠ x → sp (.ref x :: (vs ++ dvs)) (upd (upd H dx (.own x)) x (.ins C dx [])) (fun v H2 => v = .non ∧ Q (.ref x) H2) E) :
    wpAny (model X.prog X.w) X.A (call (.ref C) us) (EP X pins σ Q) X.xe s := by
  have hq := h (s.heap.objs.size + 1) s.heap.objs.size (I.hok.fresh (Nat.le_succ _)) (I.hok.fresh (Nat.le_refl _)) (Nat.ne_of_lt (Nat.lt_succ_self _))
  have I2 := Inv.made (C := C) I
  have r2 : Vals (V.ref (s.heap.objs.size + 1) :: (vs ++ dvs)) (Value.ref (s.heap.objs.size + 1) :: (us ++ ds)) := .cons rfl (r.append hd)
  have hl : (Value.ref (s.heap.objs.size + 1) :: us ++ ds).length = ps.length := by
    have e := r2.length
    rw [F.len _ _ _ _ hq] at e
    exact e.symm
  refine wpAny_call (make_map (f := f) I.kIn M.makes M.init (beq_iff_eq.mp M.fn) (codeAny_mono (F.run _ X.stack _ _ ⟨Value.ref (s.heap.objs.size + 1) :: us, []⟩ (Value.ref (s.heap.objs.size + 1) :: (us ++ ds)) _ _ E (hr.make C us [])
    (I2.env0.make C us []) (hb _ (Value.ref (s.heap.objs.size + 1) :: us) I2.kIn hl) r2 hq) fun r s' hq' => ?_))
  cases r with
  | error e => exact hx pins σ _ _ e s' I2 hq'
  | ok fl =>
    cases fl with
    | ret u =>
      obtain ⟨v, H', I3, rv, ev, q3⟩ := I2.after hq'
      subst ev
      exact ⟨rv, ⟨V.ref (s.heap.objs.size + 1), H', I3, rfl, q3⟩⟩
    | next => exact False.elim hq'
    | brk => exact False.elim hq'
    | cont => exact False.elim hq'
theorem pe_make (M : Mk X.K C f) (F : FnOk X.prog X.w X.K X.mg X.base CX k f fd ps sp) (hr : Room (k + 1) X.A) (hg : Gl X x) (hm : X.mg x = some (.ref C)) (hb : Binds X.K fd ps ds) (hd : Vals dvs ds) (hx : Passes CX X E)
    (ha : PA X (e :: es) t) (hdb : (x == ("__debug__" : Str)) = false := by decide) (he : starEach (e :: es) X.env = (false, eval e X.env) :: starEach es X.env := by rfl) (hpl : (backTo pos (starEach es X.env)).any (·.1) = false := by rfl) :
    PE X (.Call (.Name x p) (e :: es) [] pos) (tMake C sp dvs E t) := by
  intro pins s σ H Q I h
  refine wpAny_Call_Name_kw (ld_glob I hg hm ?_ hdb)
  refine PySem.W.callWith_K (h₀ := X.base) I.ok.mod.kin M.kp (thn (ha pos pins s σ H _ I h) fun us s1 ⟨vs, H1, I1, r, q⟩ => ⟨I1.kIn, ?_⟩) he hpl
  exact run_make M F hr hb hd hx I1 r q
theorem pe_make0 (M : Mk X.K C f) (F : FnOk X.prog X.w X.K X.mg X.base CX k f fd ps sp) (hr : Room (k + 1) X.A) (hg : Gl X x) (hm : X.mg x = some (.ref C)) (hb : Binds X.K fd ps ds) (hd : Vals dvs ds) (hx : Passes CX X E)
    (hdb : (x == ("__debug__" : Str)) = false := by decide) : PE X (.Call (.Name x p) [] [] pos) (tMake C sp dvs E tNil) := by
  intro pins s σ H Q I h
  refine wpAny_Call_Name_kw (ld_glob I hg hm ?_ hdb)
  exact PySem.W.callWith_K0 I.kIn M.kp (run_make (us := []) M F hr hb hd hx I .nil h)
end
/-- the values of the keywords, from the left -/
def PK (X : Cx) (kws : List Keyword) (t : TA) : Prop :=
  ∀ (pos : Pos) (pins : List (Addr × Obj)) (s : Shared) (σ : St) (H : Hp) (Q : List V → Hp → Prop), Inv X pins σ H s → t σ H Q → wpAny (model X.prog X.w) X.A (evalAll ((backToKw pos (keywordEach kws X.env)).map (·.2))) (AP X pins σ Q) X.xe s
section
variable {X : Cx} {CX : CXT} {k : Nat} {f C : Addr} {fd : FuncData} {ps ks : List Str} {sp : Sp} {E : XK} {x m : Str} {p pos apos kpos : Pos} {e o : Expr} {es : List Expr} {kws : List Keyword} {te ta : TE} {t tk : TA} {nm : Option Str}
theorem pk_nil : PK X [] tNil := fun _ _ _ _ H Q I h => wpAny_evalAll_nil ⟨[], H, I, .nil, h⟩
theorem pk_cons (ha : PE X e te) (hr : PK X kws t) : PK X (⟨nm, e, kpos⟩ :: kws) (tCons te t) := by
  intro pos pins s σ H Q I h
  show wpAny _ _ (evalAll ((do let v ← eval e X.env; standAt pos; pure v) :: (backToKw pos (keywordEach kws X.env)).map (·.2))) _ _ s
  refine wpAny_evalAll_cons (wpAny_bind (thn (ha pins s σ H _ I h) fun u s1 ⟨x, H1, I1, r1, q1⟩ => wpAny_bind (wpAny_standAt (wpAny_pure ?_))))
  exact thn (hr pos pins s1 σ H1 _ I1 q1) fun us s2 ⟨xs, H2, I2, r2, q2⟩ => ⟨x :: xs, H2, I2, .cons r1 r2, q2⟩
variable {g : List Value → List Value → List Value} {gV : List V → List V → List V}
end
/-- names: the parameters first -/
structure FnScope (N P : List Str) (sc : Scope) : Prop where
  kind : sc.kind = .function
  co : sc.isCoroutine = false
  gen : sc.isGenerator = false
  nd : N.Nodup
  pre : N.take P.length = P
  par : ∀ x ∈ P, sc.names.lookup x = some .local ∨ sc.names.lookup x = some .cell
  nofree : ∀ y ∈ sc.names, y.2 ≠ .free
theorem bindL_out {kindOf : Str → Option NameKind} {x : Str} : ∀ {binds : List (Str × Value)} {m : Str → Option Value}, (∀ v, (x, v) ∉ binds) → bindL kindOf binds m x = m x
  | [], _, _ => rfl
  | (n, v) :: r, m, h => by
    unfold bindL
    rw [bindL_out fun w hw => h w (List.mem_cons_of_mem _ hw)]
    split
    · have : x ≠ n := by rintro rfl; exact h v List.mem_cons_self
      simp [this]
    · rfl
theorem bindC_out {kindOf : Str → Option NameKind} {x : Str} : ∀ {binds : List (Str × Value)} {m : Str → Option Value}, (∀ v, (x, v) ∉ binds) → bindC kindOf binds m x = m x
  | [], _, _ => rfl
  | (n, v) :: r, m, h => by
    unfold bindC
    rw [bindC_out fun w hw => h w (List.mem_cons_of_mem _ hw)]
    split
    · rfl
    · have : x ≠ n := by rintro rfl; exact h v List.mem_cons_self
      simp [this]
theorem bindL_get {kindOf : Str → Option NameKind} {x : Str} {v : Value} : ∀ {P : List Str} {vs : List Value} {i : Nat} {m : Str → Option Value}, P.Nodup → P[i]? = some x → vs[i]? = some v → kindOf x = some .local →
    bindL kindOf (P.zip vs) m x = some v
  | [], _, _, _, _, h, _, _ => by simp at h
  | _ :: _, [], _, _, _, _, h, _ => by simp at h
  | p :: P, w :: vs, 0, m, nd, h1, h2, hk => by
    simp at h1 h2; subst h1; subst h2
    show bindL kindOf ((p, w) :: P.zip vs) m p = _
    unfold bindL
    rw [bindL_out fun v hv => (List.nodup_cons.mp nd).1 (List.of_mem_zip hv).1, if_pos hk]
    simp
  | p :: P, w :: vs, i + 1, m, nd, h1, h2, hk => by
    show bindL kindOf ((p, w) :: P.zip vs) m x = _
    unfold bindL
    exact bindL_get (i := i) (List.nodup_cons.mp nd).2 (by simpa using h1) (by simpa using h2) hk
theorem bindC_get {kindOf : Str → Option NameKind} {x : Str} {v : Value} : ∀ {P : List Str} {vs : List Value} {i : Nat} {m : Str → Option Value}, P.Nodup → P[i]? = some x → vs[i]? = some v → kindOf x ≠ some .local →
    bindC kindOf (P.zip vs) m x = some v
  | [], _, _, _, _, h, _, _ => by simp at h
  | _ :: _, [], _, _, _, _, h, _ => by simp at h
  | p :: P, w :: vs, 0, m, nd, h1, h2, hk => by
    simp at h1 h2; subst h1; subst h2
    show bindC kindOf ((p, w) :: P.zip vs) m p = _
    unfold bindC
    rw [bindC_out fun v hv => (List.nodup_cons.mp nd).1 (List.of_mem_zip hv).1, if_neg hk]
    simp
  | p :: P, w :: vs, i + 1, m, nd, h1, h2, hk => by
    show bindC kindOf ((p, w) :: P.zip vs) m x = _
    unfold bindC
    exact bindC_get (i := i) (List.nodup_cons.mp nd).2 (by simpa using h1) (by simpa using h2) hk
/-- the names' values at the entry -/
def start (N : List Str) (vs : List V) : St := vs.map some ++ List.replicate (N.length - vs.length) none
/-- the context of a def's body, at its entry; an exception leaves the frame, then lies as CX says -/
def cxOf (CX : CXT) (P : Program) (w : World) (K : PySem.W.Frag) (mg : Str → Option Value) (base : Heap) (N : List Str) (qual : Str) (scope : Scope) (f : Addr) (cd : Value) (A : Around) (outer : List Env) (s : Shared) (H : Hp) (E : XK) : Cx where
  prog := P
  w := w
  K := K
  mg := mg
  base := base
  A := A.deeper (envOfC qual scope s.heap.objs.size f cd)
  N := N
  s_0 := s
  H_0 := H
  env := envOfC qual scope s.heap.objs.size f cd
  outer := outer
  stack := envOfC qual scope s.heap.objs.size f cd :: outer
  ex := []
  calm := true
  fn := fun _ => true
  pn := []
  xe := fun e s' => wpAny (model P w) (A.deeper (envOfC qual scope s.heap.objs.size f cd)) (leaving (envOfC qual scope s.heap.objs.size f cd) e) (fun _ s'' => CX outer H s E e s'') (fun e' s'' => CX outer H s E e' s'') s'
theorem cell_has {sc : Scope} {n : Nat} {x : Str} (h : sc.names.lookup x = some .cell) : ∃ c, (cellsFrom n sc.names []).lookup x = some c := by
  have q := PySem.W.cellsFrom_some sc.names n [] (.inl h)
  exact Option.isSome_iff_exists.mp q
theorem inv_start {CX : CXT} {P : Program} {w : World} {K : PySem.W.Frag} {mg : Str → Option Value} {base : Heap} {N ps : List Str} {qual : Str} {scope : Scope} {f : Addr} {cd : Value} {A : Around} {outer : List Env} {s s1 : Shared} {H : Hp} {E : XK} {us : List Value} {vs : List V}
    (S : FnScope N ps scope) (hd : A.handled = none) (e0 : Env0 P w K mg base A outer s H) (hl : vs.length = ps.length) (r : Vals vs us)
    (x : InCallC s s.heap.objs.size (bindL (envOfC qual scope s.heap.objs.size f cd).kindOf (ps.zip us) fun _ => none) (cellsFrom (s.heap.objs.size + 1) scope.names []) (bindC (envOfC qual scope s.heap.objs.size f cd).kindOf (ps.zip us) fun _ => none) s1) :
    Inv (cxOf CX P w K mg base N qual scope f cd A outer s H E) [] (start N vs) H s1 := by
  have hpl : ps.length ≤ N.length := by have := congrArg List.length S.pre; rw [List.length_take] at this; omega
  obtain ⟨h1, tk, rfl, hk⟩ := x.done
  have noA : ∀ b : Addr, b ∉ (cxOf CX P w K mg base N qual scope f cd A outer s H E).ex := fun b z => absurd (show b ∈ ([] : List Addr) from z) (by simp)
  refine ⟨⟨e0.mod, S.kind, rfl, rfl, Nat.le_refl _, fun y z c h1 h2 => ?_, fun y hy => ?_, fun y c _ h => ?_, fun _ => hd, Around.frames_deeper e0.frames, .inr ⟨rfl, rfl⟩, fun b z => absurd z (noA b), e0.bs, e0.bsz, fun b _ _ => noA b, fun b z => absurd z (noA b), e0.funs, e0.frf⟩,
    rfl, e0.bare, Un.kept hk, ⟨_, x.toInCall.ns, fun i y v h1 h2 h3 => ?_⟩, fun y c h => ⟨_, x.cell y c h⟩, e0.hok.fresh (Nat.le_refl _), fun y c h => ?_, fun p hp => absurd (show p ∈ ([] : List (Addr × Obj)) from hp) (by simp), e0.hok.kept hk, ?_⟩
  · exact name_of_addr x.apart (PySem.mem_of_lookup h1) (PySem.mem_of_lookup h2)
  · have hy : scope.names.lookup y = some .cell ∨ scope.names.lookup y = some .free := hy
    rcases hy with hy | hy
    · exact cell_has hy
    · exact absurd rfl (S.nofree _ (PySem.mem_of_lookup hy))
  · exact Nat.le_of_lt (x.above y c (PySem.mem_of_lookup h))
  · have hi : i < vs.length := by
      unfold start at h2
      by_cases hi : i < vs.length
      · exact hi
      · rw [List.getElem?_append_right (by simpa using hi)] at h2
        rw [List.getElem?_replicate] at h2
        split at h2 <;> cases h2
    have ha : vs[i]? = some v := by
      unfold start at h2
      rw [List.getElem?_append_left (by simpa using hi), List.getElem?_map] at h2
      cases e : vs[i]? with
      | none => rw [e] at h2; cases h2
      | some a => rw [e] at h2; cases h2; rfl
    obtain ⟨u, hu, rv⟩ := r.get ha
    have hp : ps[i]? = some y := by
      rw [← S.pre, List.getElem?_take_of_lt (by omega)]; exact h1
    have ndP : ps.Nodup := by rw [← S.pre]; exact S.nd.sublist (List.take_sublist _ _)
    refine ⟨u, rv, ?_⟩
    rcases S.par y (List.mem_of_getElem? hp) with k | k
    · exact .inl ⟨k, bindL_get ndP hp hu k⟩
    · obtain ⟨c, e⟩ := cell_has (n := s.heap.objs.size + 1) k
      refine .inr ⟨.inl k, c, e, ?_⟩
      have q := x.cell y c e
      rw [bindC_get ndP hp hu (by show scope.names.lookup y ≠ _; rw [k]; decide)] at q
      exact q
  · exact e0.hok.fresh (Nat.le_of_lt (x.above y c (PySem.mem_of_lookup h)))
  · unfold start
    show _ = N.length
    rw [List.length_append, List.length_map, List.length_replicate]
    omega
/-- THE RULE: a def (or a method) of the text, by its body. The body's reading t is chosen for each entry; it is run at the parameters' values -/
theorem fn_of {CX : CXT} {P : Program} {w : World} {K : PySem.W.Frag} {mg : Str → Option Value} {base : Heap} {k : Nat} {f : Addr} {name qual : Str} {params : Arguments} {body : List Stmt} {scope : Scope} {dV kV doc pm cdv ct oc : Value} {an od : Option Addr}
    {osl : Array (Option Value)} {N ps : List Str} {sp : Sp} (lk : K.lookup f = some ⟨oc, od, .func (PySem.W.fnOf name qual params body scope dV kV doc pm an cdv ct), osl⟩) (hcd : PySem.W.codeIn K cdv qual = true) (S : FnScope N ps scope)
    (len : ∀ vs H Q E, sp vs H Q E → vs.length = ps.length)
    (hbody : ∀ (A : Around) (outer : List Env) (s : Shared) (H : Hp) (vs : List V) (Q : VK) (E : XK), Room k (A.deeper (envOfC qual scope s.heap.objs.size f cdv)) → sp vs H Q E →
      ∃ t, PSs (cxOf CX P w K mg base N qual scope f cdv A outer s H E) body t ∧ t { nx := fun _ H' => Q .non H', rt := Q } (start N vs) H) :
    FnOk P w K mg base CX (k + 1) f (PySem.W.fnOf name qual params body scope dV kV doc pm an cdv ct) ps sp := by
  refine ⟨len, fun A outer s H args us vs Q E hr e0 hb r hsp => ?_⟩
  have hl := len _ _ _ _ hsp
  have KX : K.In s.heap := e0.mod.kin.keeps fun b o e => (e0.bs b o e).1
  have lim : s.heap.NoLimit := e0.mod.nolimit.keeps fun b o e => (e0.bs b o e).1
  have hkind : ∀ y ∈ ps.zip us, scope.names.lookup y.1 = some .local ∨ (scope.names.lookup y.1 = some .cell ∧ ((cellsFrom (s.heap.objs.size + 1) scope.names []).lookup y.1).isSome = true) := fun ⟨n, v⟩ hy => by
    rcases S.par n (List.of_mem_zip hy).1 with q | q
    · exact .inl q
    · exact .inr ⟨q, PySem.W.cellsFrom_some _ _ _ (.inl q)⟩
  refine codeAny_call_function hr.depth (KX _ _ lk) rfl S.co S.gen rfl (PySem.W.codeRec_of KX hcd) (hb _ _ _ _ ?_)
  refine wpAny_newFunctionEnv_cells S.kind hkind fun env he s1 x => ?_
  subst he
  refine ⟨lim.keeps x.toInCall.keep, codeAny_func ?_⟩
  obtain ⟨t, ht, hq⟩ := hbody A outer s H vs Q E (hr.deeper _) hsp
  have I : Inv (cxOf CX P w K mg base N qual scope f cdv A outer s H E) [] (start N vs) H s1 := inv_start S hr.hd e0 hl r x
  refine wpAny_mono (ht [] s1 (start N vs) H _ I hq) (fun fl s' hs => ?_) fun e s' hs => hs
  have fin : ∀ {σ' : St} {H' : Hp} {v : V} {u : Value}, Inv (cxOf CX P w K mg base N qual scope f cdv A outer s H E) [] σ' H' s' → RelV v u → Q v H' → CE outer P w H s Q u s' :=
    fun {σ' H' v u} J rv q => ⟨v, H', J.os, J.bare, J.base, J.hok, rv, q⟩
  cases fl with
  | ret u =>
    obtain ⟨v, σ', H', J, rv, q⟩ := hs
    exact fin J rv q
  | next =>
    obtain ⟨σ', H', J, q⟩ := hs
    exact fin (v := V.non) (u := Value.none) J rfl q
  | brk =>
    obtain ⟨_, _, _, q⟩ := hs
    exact False.elim q
  | cont =>
    obtain ⟨_, _, _, q⟩ := hs
    exact False.elim q
end L2
namespace L2
open PySem PySem.Spec PyProof.Rows
section
variable {X : Cx} {x : Str} {p pos : Pos} {e : Expr} {es : List Expr} {t : TA} {id T : String} {r : List V → Hp → VK → Prop}
def tCB (r : List V → Hp → VK → Prop) (t : TA) : TE := fun σ H Q => t σ H fun vs H1 => r vs H1 Q
/-- f(e, ..), f a built-in function -/
theorem pe_callB (hc : CallR X (.builtin id) r) (hg : Gl X x) (hm : X.mg x = none) (hv : bootBuiltins x = some (.builtin id)) (ha : PA X (e :: es) t) (hn : x ≠ "__name__" := by decide) (hdb : (x == ("__debug__" : Str)) = false := by decide)
    (he : starEach (e :: es) X.env = (false, eval e X.env) :: starEach es X.env := by rfl) (hpl : (backTo pos (starEach es X.env)).any (·.1) = false := by rfl) : PE X (.Call (.Name x p) (e :: es) [] pos) (tCB r t) := by
  intro pins s σ H Q I h
  refine wpAny_Call_Name_kw (ld_blt I hg hm hv ?_ hn hdb)
  exact PyProof.Rows.callWith_builtin1 (thn (ha pos pins s σ H _ I h) fun us s1 ⟨vs, H1, I1, r1, q1⟩ => hc pins s1 σ H1 vs us Q I1 r1 q1) he hpl
/-- T(e, ..), T a built-in type -/
theorem pe_callTy (hc : CallR X (.type T) r) (hg : Gl X x) (hm : X.mg x = none) (hv : bootBuiltins x = some (.type T)) (ha : PA X (e :: es) t) (hn : x ≠ "__name__" := by decide) (hdb : (x == ("__debug__" : Str)) = false := by decide)
    (he : starEach (e :: es) X.env = (false, eval e X.env) :: starEach es X.env := by rfl) (hpl : (backTo pos (starEach es X.env)).any (·.1) = false := by rfl) : PE X (.Call (.Name x p) (e :: es) [] pos) (tCB r t) := by
  intro pins s σ H Q I h
  refine wpAny_Call_Name_kw (ld_blt I hg hm hv ?_ hn hdb)
  exact PyProof.Rows.callWith_type1 (thn (ha pos pins s σ H _ I h) fun us s1 ⟨vs, H1, I1, r1, q1⟩ => hc pins s1 σ H1 vs us Q I1 r1 q1) he hpl
end
end L2
namespace HT
open PySem PyProof.Rows
section
variable {prog : Program} {w : World} {A : Around} {E : Value → Shared → Prop} {s : Shared}
/-- a slice's bound as a place among n (d where it is left out) -/
def sIx (n d : Nat) : Option Int → Nat
  | none => d
  | some v => if v < 0 then (v + (n : Int)).toNat else min v.toNat n
theorem sIx_none (n d : Nat) : sIx n d none = d := rfl
theorem sIx_nat (n d k : Nat) : sIx n d (some (k : Int)) = min k n := by
  show (if (k : Int) < 0 then ((k : Int) + (n : Int)).toNat else min (k : Int).toNat n) = min k n
  rw [if_neg (by omega), Int.toNat_natCast]
end
end HT
namespace L2
open PySem PySem.Spec PyProof.Rows
abbrev TO := St → Hp → (Option Int → Hp → Prop) → Prop
/-- a slice's part (left out, or an int) -/
def PO (X : Cx) (e : Option Expr) (t : TO) : Prop :=
  ∀ (pins : List (Addr × Obj)) (s : Shared) (σ : St) (H : Hp) (Q : Option Int → Hp → Prop), Inv X pins σ H s → t σ H Q →
    wpAny (model X.prog X.w) X.A (evalPart e X.env) (fun u s' => ∃ o H', Inv X pins σ H' s' ∧ IsPart u o ∧ Q o H') X.xe s
def tNoPart : TO := fun _ H Q => Q none H
def tPart (t : TE) : TO := fun σ H Q => t σ H fun x H1 => ∃ i, x = .int i ∧ Q (some i) H1
section
variable {X : Cx} {e : Expr} {te : TE} {lo hi : Option Expr} {tl th : TO} {pos p2 : Pos}
theorem po_none : PO X none tNoPart := by
  intro pins s σ H Q I h
  rw [evalPart_none]
  exact wpAny_pure ⟨none, H, I, .none, h⟩
theorem po_some (h : PE X e te) : PO X (some e) (tPart te) := by
  intro pins s σ H Q I hw
  rw [evalPart_some]
  refine thn (h pins s σ H _ I hw) fun u s1 ⟨x, H1, I1, r1, q1⟩ => ?_
  obtain ⟨i, rfl, q⟩ := q1
  obtain ⟨t, rfl⟩ := r1
  exact ⟨some i, H1, I1, .int i t, q⟩
/-- what a slice of a value is, by values: the slice object stands at sl -/
def SlR (X : Cx) (r : V → Option Int → Option Int → Hp → VK → Prop) : Prop :=
  ∀ (pins : List (Addr × Obj)) (s : Shared) (σ : St) (H : Hp) (x : V) (v vl vu : Value) (lo hi : Option Int) (sl : Addr) (Q : VK), Inv X pins σ H s → RelV x v → s.heap.IsSliceOf sl vl vu .none → IsPart vl lo → IsPart vu hi → r x lo hi H Q →
    ∃ T id, typeLookup (.type T) "__getitem__" = pure (some (.builtin id)) ∧ s.TypeIs v T ∧ wpAny (model X.prog X.w) X.A (getItem v (.ref sl)) (EP X pins σ Q) X.xe s
def tSl (r : V → Option Int → Option Int → Hp → VK → Prop) (te : TE) (tl th : TO) : TE := fun σ H Q => te σ H fun x H1 => tl σ H1 fun l H2 => th σ H2 fun u H3 => r x l u H3 Q
/-- a[lo:hi], any a -/
theorem pe_slice {r : V → Option Int → Option Int → Hp → VK → Prop} (hr : SlR X r) (he : PE X e te) (hl : PO X lo tl) (hu : PO X hi th) : PE X (.Subscript e (.Slice lo hi none p2) pos) (tSl r te tl th) := by
  intro pins s σ H Q I h
  refine Subscript_ (thn (he pins s σ H _ I h) fun v s1 ⟨x, H1, I1, r1, q1⟩ => ?_)
  refine wpAny_Slice (thn (hl pins s1 σ H1 _ I1 q1) fun vl s2 ⟨l, H2, I2, pl, q2⟩ => thn (hu pins s2 σ H2 _ I2 q2) fun vu s3 ⟨u, H3, I3, pu, q3⟩ => ?_)
  rw [evalPart_none]
  refine wpAny_pure ?_
  have I4 : Inv X pins σ H3 { s3 with heap := s3.heap.push { cls := .type "slice", data := .fields #[vl, vu, .none] } } := I3.kept (t' := s3.toks) fun b ob q => Heap.get?_push_of_some _ q
  obtain ⟨T, id, hT, ht, hg⟩ := hr pins { s3 with heap := s3.heap.push { cls := .type "slice", data := .fields #[vl, vu, .none] } } σ H3 x v vl vu l u s3.heap.objs.size Q I4 r1 (Heap.IsSliceOf.new ..) pl pu q3
  show wpAny (model X.prog X.w) X.A (subscriptTail e (.Slice lo hi none p2) v (.ref s3.heap.objs.size)) (EP X pins σ Q) X.xe { s3 with heap := s3.heap.push { cls := .type "slice", data := .fields #[vl, vu, .none] } }
  exact tail_any (ops := [.ref s3.heap.objs.size, v]) ht hT hg (by with_unfolding_all rfl)
/-- the items of xs[lo:hi] -/
def cutV (xs : List V) (lo hi : Option Int) : List V := (xs.drop (HT.sIx xs.length 0 lo)).take (HT.sIx xs.length xs.length hi - HT.sIx xs.length 0 lo)
theorem cutV_length (xs : List V) (lo hi : Option Int) : (cutV xs lo hi).length ≤ xs.length := by
  unfold cutV
  rw [List.length_take, List.length_drop]
  omega
end
end L2
namespace L2
open PySem PySem.Spec PyProof.Rows
/-- the place that an index of any sign means -/
def ixN (n : Nat) (i : Int) : Option Nat := if 0 ≤ i then (if i < n then some i.toNat else none) else if -(n : Int) ≤ i then some (i + n).toNat else none
def atI {α : Type} (xs : List α) (i : Int) : Option α := (ixN xs.length i).bind fun j => xs[j]?
theorem ixN_seq {n : Nat} {i : Int} {j : Nat} (h : ixN n i = some j) : seqIndex? i n = some j ∧ j < n ∧ -(n : Int) ≤ i ∧ i < n := by
  unfold ixN at h
  by_cases h0 : 0 ≤ i
  · rw [if_pos h0] at h
    by_cases h1 : i < n
    · rw [if_pos h1] at h
      have e : i.toNat = j := Option.some.inj h
      exact ⟨by rw [seqIndex_of h0 h1, e], by omega, by omega, h1⟩
    · rw [if_neg h1] at h; cases h
  · rw [if_neg h0] at h
    by_cases h1 : -(n : Int) ≤ i
    · rw [if_pos h1] at h
      have e : (i + n).toNat = j := Option.some.inj h
      exact ⟨by rw [seqIndex_neg (by omega) h1, e], by omega, h1, by omega⟩
    · rw [if_neg h1] at h; cases h
theorem atI_get {α : Type} {xs : List α} {i : Int} {v : α} (h : atI xs i = some v) : ∃ j, seqIndex? i xs.length = some j ∧ xs[j]? = some v ∧ j < xs.length ∧ -(xs.length : Int) ≤ i ∧ i < xs.length := by
  unfold atI at h
  cases e : ixN xs.length i with
  | none => rw [e] at h; cases h
  | some j =>
    rw [e] at h
    obtain ⟨h1, h2, h3, h4⟩ := ixN_seq e
    exact ⟨j, h1, h, h2, h3, h4⟩
theorem atI_nat {α : Type} {xs : List α} {j : Nat} {v : α} (h : xs[j]? = some v) : atI xs (j : Int) = some v := by
  have hj : j < xs.length := (List.getElem?_eq_some_iff.mp h).1
  have e : ixN xs.length (j : Int) = some j := by
    unfold ixN
    rw [if_pos (by omega), if_pos (by omega)]; simp
  unfold atI; rw [e]; exact h
/-- what stands as an index of a plain subscript -/
def PlainIx (b : Expr) : Prop := ∀ o i, subscripted b false o i = operate [o, i] (getItem o i)
/-- a subscript by values -/
def IxR (X : Cx) (r : R2) : Prop :=
  ∀ (value slice : Expr) (pins : List (Addr × Obj)) (s : Shared) (σ : St) (H : Hp) (x y : V) (v u : Value) (Q : VK), Inv X pins σ H s → RelV x v → RelV y u → r x y H Q →
    subscripted slice false v u = operate [v, u] (getItem v u) → wpAny (model X.prog X.w) X.A (subscriptTail value slice v u) (EP X pins σ Q) X.xe s
/-- a call of a builtin's method by values: the receiver, the arguments -/
def MtR (X : Cx) (id : String) (r : V → List V → Hp → VK → Prop) : Prop :=
  ∀ (pins : List (Addr × Obj)) (s : Shared) (σ : St) (H : Hp) (x : V) (xs : List V) (v : Value) (us : List Value) (Q : VK), Inv X pins σ H s → RelV x v → Vals xs us → r x xs H Q →
    wpAny (model X.prog X.w) X.A (call (.builtin id) (v :: us)) (EP X pins σ Q) X.xe s
section
variable {X : Cx} {a b : Expr} {ta tb : TE} {pos : Pos}
/-- a[b] -/
theorem pe_ix {r : R2} (hr : IxR X r) (ha : PE X a ta) (hb : PE X b tb) (hs : PlainIx b) : PE X (.Subscript a b pos) (tOp r ta tb) := by
  intro pins s σ H Q I h
  exact Subscript_ (binT ha hb I h fun v u s2 x y H2 I2 rx ry q => hr a b pins s2 σ H2 x y v u Q I2 rx ry q (hs _ _))
def rIxL (K : PySem.W.Frag) : R2 := fun x y H Q => ∃ p xs i v, x = .ref p ∧ y = .int i ∧ SqL K H p xs ∧ atI xs i = some v ∧ Q v H
def rIxT (K : PySem.W.Frag) : R2 := fun x y H Q => ∃ p xs i v, x = .ref p ∧ y = .int i ∧ SqT K H p xs ∧ atI xs i = some v ∧ Q v H
theorem ix_list : IxR X (rIxL X.K) := by
  intro value slice pins s σ H x y v u Q I rx ry h hs
  obtain ⟨p, xs, i, z, rfl, rfl, hq, he, q⟩ := h
  cases rx
  obtain ⟨t, rfl⟩ := ry
  obtain ⟨its, r, pl, hz⟩ := I.list hq
  obtain ⟨j, h1, h2, h3, h4, h5⟩ := atI_get he
  obtain ⟨w, ew, rw'⟩ := r.get h2
  have hl := r.length
  have hn := line63
  have fin : EP X pins σ Q w s := ⟨z, H, I, rw', q⟩
  by_cases h0 : 0 ≤ i
  · have hj : i.toNat = j := by
      rw [seqIndex_of h0 h5] at h1
      exact Option.some.inj h1
    exact item_listR pl.isList h0 (by omega) (by rw [hj]; simpa using ew) fin hs
  · have hj : (i + (its.toArray.size : Int)).toNat = j := by
      rw [seqIndex_neg (by omega) h4] at h1
      rw [List.size_toArray, ← hl]
      exact Option.some.inj h1
    exact subscriptTail_builtinR (x := w) pl.isList.typeIs slot_list_getitem.lookup
      (wpAny_getItem_list_neg (Q := fun r s' => r = w ∧ EP X pins σ Q r s') pl.isList (by omega) (by rw [List.size_toArray] <;> omega) (by omega) (by rw [hj]; simpa using ew) ⟨rfl, fin⟩) hs
theorem ix_tup : IxR X (rIxT X.K) := by
  intro value slice pins s σ H x y v u Q I rx ry h hs
  obtain ⟨p, xs, i, z, rfl, rfl, hq, he, q⟩ := h
  cases rx
  obtain ⟨t, rfl⟩ := ry
  obtain ⟨its, r, pl, hz⟩ := I.tuple hq
  obtain ⟨j, h1, h2, h3, h4, h5⟩ := atI_get he
  obtain ⟨w, ew, rw'⟩ := r.get h2
  have hl := r.length
  have hn := line63
  have fin : EP X pins σ Q w s := ⟨z, H, I, rw', q⟩
  exact subscriptTail_builtinR (x := w) pl.typeIs slot_tuple_getitem.lookup
    (getItem_tuple (j := j) (Q := fun r s' => r = w ∧ EP X pins σ Q r s') pl (by omega) (by omega) (by rw [List.size_toArray, ← hl]; exact h1) (by simpa using ew) ⟨rfl, fin⟩) hs
theorem slice_bounds (lo hi : Option Int) (n : Nat) : (sliceBounds lo hi none n).1 = ((HT.sIx n 0 lo : Nat) : Int) ∧ (sliceBounds lo hi none n).2.1 = ((HT.sIx n n hi : Nat) : Int) ∧ (sliceBounds lo hi none n).2.2 = 1 := by
  refine ⟨?_, ?_, rfl⟩
  · cases lo with
    | none => simp [sliceBounds, HT.sIx]
    | some i =>
      simp only [sliceBounds, HT.sIx, Option.getD_none, show (1 : Int) > 0 by decide, if_true]
      by_cases h : i < 0
      · simp only [h, if_true] <;> omega
      · simp only [h, if_false] <;> omega
  · cases hi with
    | none => simp [sliceBounds, HT.sIx]
    | some i =>
      simp only [sliceBounds, HT.sIx, Option.getD_none, show (1 : Int) > 0 by decide, if_true]
      by_cases h : i < 0
      · simp only [h, if_true] <;> omega
      · simp only [h, if_false] <;> omega
theorem slicePick_cut (its : List Value) (lo hi : Option Int) : slicePick its.toArray lo hi none = ((its.drop (HT.sIx its.length 0 lo)).take (HT.sIx its.length its.length hi - HT.sIx its.length 0 lo)).toArray := by
  obtain ⟨h1, h2, h3⟩ := slice_bounds lo hi its.toArray.size
  unfold slicePick
  rw [h1, h2, h3]
  simp only [sliceRange_one, pick_run, List.size_toArray] <;> rfl
/-- xs[lo:hi] of a list: a new list -/
def rSlL (K : PySem.W.Frag) : V → Option Int → Option Int → Hp → VK → Prop := fun x lo hi H Q => ∃ a xs, x = .ref a ∧ SqL K H a xs ∧ ∀ p, H p = none → Q (.ref p) (upd H p (.lst (cutV xs lo hi)))
theorem sl_list : SlR X (rSlL X.K) := by
  intro pins s σ H x v vl vu lo hi sl Q I rx hs pl pu h
  obtain ⟨a, xs, rfl, hx, q⟩ := h
  cases rx
  obtain ⟨its, r, ht, hz⟩ := I.list hx
  have hlen := r.length
  refine ⟨"list", _, slot_list_getitem.lookup, ht.isList.typeIs, ?_⟩
  refine wpAny_getItem_list_slice ht.isList hs pl pu .none (by simp) ?_ (by rw [List.size_toArray] <;> omega)
  rw [slicePick_cut, ← hlen]
  refine ⟨.ref s.heap.objs.size, _, I.laid (t' := s.toks) (o := .lst (cutV xs lo hi)) (fun b ob q => Heap.get?_push_of_some _ q) (Nat.le_refl _) ?_, rfl, q _ (I.hok.fresh (Nat.le_refl _))⟩
  exact ⟨Nat.le_trans (cutV_length xs lo hi) hz, _, 0, (r.drop (HT.sIx xs.length 0 lo)).take (HT.sIx xs.length xs.length hi - HT.sIx xs.length 0 lo), Heap.get?_push_size _ rfl⟩
def flatV : V → Bool
  | .non => true
  | .bl _ => true
  | .int _ => true
  | .str _ => true
  | _ => false
/-- == of flat values -/
def eqV : V → V → Bool
  | .non, .non => true
  | .bl a, .bl b => a == b
  | .bl a, .int b => (if a then 1 else 0) == b
  | .int a, .bl b => a == (if b then 1 else 0)
  | .int a, .int b => a == b
  | .str a, .str b => a == b
  | _, _ => false
theorem eqAt_V {A : Around} {s : Shared} {y x : V} {u v : Value} (ry : RelV y u) (rx : RelV x v) (fy : flatV y = true) (fx : flatV x = true) : SeqAt.EqAt A s u v (eqV y x) := by
  cases y with
  | non =>
    cases ry
    cases x with
    | non => cases rx; exact SeqAt.EqAt.same _
    | bl b => cases rx; exact SeqAt.EqAt.none_bool b
    | int b => obtain ⟨t, rfl⟩ := rx; exact SeqAt.EqAt.none_int b t
    | str b => obtain ⟨t, rfl⟩ := rx; exact SeqAt.EqAt.none_str b t
    | _ => exact absurd (show false = true from fx) Bool.false_ne_true
  | bl a =>
    cases ry
    cases x with
    | non => cases rx; exact SeqAt.EqAt.bool_none a
    | bl b => cases rx; exact SeqAt.EqAt.bool_bool a b
    | int b => obtain ⟨t, rfl⟩ := rx; exact SeqAt.EqAt.bool_int a b t
    | str b => obtain ⟨t, rfl⟩ := rx; exact SeqAt.EqAt.bool_str a b t
    | _ => exact absurd (show false = true from fx) Bool.false_ne_true
  | int a =>
    obtain ⟨t', rfl⟩ := ry
    cases x with
    | non => cases rx; exact SeqAt.EqAt.int_none a t'
    | bl b => cases rx; exact SeqAt.EqAt.int_bool a t' b
    | int b => obtain ⟨t, rfl⟩ := rx; exact SeqAt.EqAt.int_int a t' b t
    | str b => obtain ⟨t, rfl⟩ := rx; exact SeqAt.EqAt.int_str a t' b t
    | _ => exact absurd (show false = true from fx) Bool.false_ne_true
  | str a =>
    obtain ⟨t', rfl⟩ := ry
    cases x with
    | non => cases rx; exact SeqAt.EqAt.str_none a t'
    | bl b => cases rx; exact SeqAt.EqAt.str_bool a t' b
    | int b => obtain ⟨t, rfl⟩ := rx; exact SeqAt.EqAt.str_int a t' b t
    | str b => obtain ⟨t, rfl⟩ := rx; exact SeqAt.EqAt.str_str a t' b t
    | _ => exact absurd (show false = true from fx) Bool.false_ne_true
  | _ => exact absurd (show false = true from fy) Bool.false_ne_true
/-- the items' answers, read off the values (a value's own answer does not lean on its token) -/
def eqU (x : V) (u : Value) : Bool := match u with
  | .none => eqV .non x
  | .bool b => eqV (.bl b) x
  | .int i _ => eqV (.int i) x
  | .str z _ => eqV (.str z) x
  | _ => false
theorem eqU_of {x y : V} {u : Value} (r : RelV y u) (f : flatV y = true) : eqU x u = eqV y x := by
  cases y with
  | non => cases r; rfl
  | bl b => cases r; rfl
  | int i => obtain ⟨t, rfl⟩ := r; rfl
  | str z => obtain ⟨t, rfl⟩ := r; rfl
  | _ => exact absurd (show false = true from f) Bool.false_ne_true
theorem any_eqU {x : V} : ∀ {xs : List V} {us : List Value}, Vals xs us → xs.all flatV = true → us.any (eqU x) = xs.any fun y => eqV y x
  | _, _, .nil, _ => rfl
  | y :: xs, u :: us, .cons r t, f => by
    rw [List.all_cons, Bool.and_eq_true] at f
    rw [List.any_cons, List.any_cons, eqU_of r f.1, any_eqU t f.2]
theorem mem_eqAt {A : Around} {s : Shared} {x : V} {v : Value} (rx : RelV x v) (fx : flatV x = true) : ∀ {xs : List V} {us : List Value}, Vals xs us → xs.all flatV = true → ∀ u ∈ us, SeqAt.EqAt A s u v (eqU x u)
  | _, _, .nil, _ => fun u hu => by cases hu
  | y :: xs, u :: us, .cons r t, f => fun u' hu => by
    rw [List.all_cons, Bool.and_eq_true] at f
    rcases List.mem_cons.mp hu with rfl | hu
    · rw [eqU_of r f.1]; exact eqAt_V r rx f.1 fx
    · exact mem_eqAt rx fx t f.2 u' hu
def inV (x : V) (xs : List V) : Bool := xs.any fun y => eqV y x
/-- x in a list or tuple of flat items -/
def rIn (K : PySem.W.Frag) (neg : Bool) : R2 := fun x y H Q => ∃ p xs, y = .ref p ∧ (SqL K H p xs ∨ SqT K H p xs) ∧ flatV x = true ∧ xs.all flatV = true ∧ Q (.bl (if neg then !inV x xs else inV x xs)) H
theorem op_in_seq : OpR X (compareOp .In) (rIn X.K false) := by
  intro pins s σ H x y v u Q I rx ry h
  obtain ⟨p, xs, rfl, hq, fx, fs, q⟩ := h
  cases ry
  rcases hq with hq | hq
  · obtain ⟨its, r, pl, hz⟩ := I.list hq
    refine SeqAt.in_listAt (eqU x) pl.isList (fun w hw => mem_eqAt rx fx r fs w (by simpa using hw)) ⟨.bl _, H, I, rfl, ?_⟩
    rw [show its.toArray.any (eqU x) = its.any (eqU x) by simp, any_eqU r fs]
    exact q
  · obtain ⟨its, r, pl, hz⟩ := I.tuple hq
    refine SeqAt.in_tupleAt (eqU x) pl (fun w hw => mem_eqAt rx fx r fs w (by simpa using hw)) ⟨.bl _, H, I, rfl, ?_⟩
    rw [show its.toArray.any (eqU x) = its.any (eqU x) by simp, any_eqU r fs]
    exact q
theorem op_notIn_seq : OpR X (compareOp .NotIn) (rIn X.K true) := by
  intro pins s σ H x y v u Q I rx ry h
  obtain ⟨p, xs, rfl, hq, fx, fs, q⟩ := h
  cases ry
  rcases hq with hq | hq
  · obtain ⟨its, r, pl, hz⟩ := I.list hq
    refine SeqAt.notIn_listAt (eqU x) pl.isList (fun w hw => mem_eqAt rx fx r fs w (by simpa using hw)) ⟨.bl _, H, I, rfl, ?_⟩
    rw [show its.toArray.any (eqU x) = its.any (eqU x) by simp, any_eqU r fs]
    exact q
  · obtain ⟨its, r, pl, hz⟩ := I.tuple hq
    refine SeqAt.notIn_tupleAt (eqU x) pl (fun w hw => mem_eqAt rx fx r fs w (by simpa using hw)) ⟨.bl _, H, I, rfl, ?_⟩
    rw [show its.toArray.any (eqU x) = its.any (eqU x) by simp, any_eqU r fs]
    exact q
theorem call_len_seq : CallR X (.builtin "len") (fun xs H Q => ∃ p ys, xs = [.ref p] ∧ (SqL X.K H p ys ∨ SqT X.K H p ys) ∧ Q (.int ys.length) H) := by
  intro pins s σ H xs us Q I r h
  obtain ⟨p, ys, rfl, hq, q⟩ := h
  obtain ⟨u, rfl, rx⟩ := vals1 r
  cases rx
  have hn := line63
  rcases hq with hq | hq
  · obtain ⟨its, r', pl, hz⟩ := I.list hq
    have hlen := r'.length
    exact Calls.call_len_list pl.isList (by simp only [List.size_toArray] <;> omega) ⟨.int ys.length, H, I.tok _, ⟨s.toks + 1, by rw [List.size_toArray, hlen]⟩, q⟩
  · obtain ⟨its, r', pl, hz⟩ := I.tuple hq
    have hlen := r'.length
    exact len_tuple pl (by simp only [List.size_toArray] <;> omega) ⟨.int ys.length, H, I.tok _, ⟨s.toks + 1, by rw [List.size_toArray, hlen]⟩, q⟩
theorem call_list_of : CallR X (.type "list") (fun xs H Q => ∃ p ys, xs = [.ref p] ∧ (SqL X.K H p ys ∨ SqT X.K H p ys) ∧ ∀ l, H l = none → Q (.ref l) (upd H l (.lst ys))) := by
  intro pins s σ H xs us Q I r h
  obtain ⟨p, ys, rfl, hq, q⟩ := h
  obtain ⟨u, rfl, rx⟩ := vals1 r
  cases rx
  have fin : ∀ (its : List Value), Vals ys its → ys.length ≤ sizeLine → ∀ (h' : Heap) (c' : Nat), (∀ b o', s.heap.get? b = some o' → h'.get? b = some o') →
      h'.get? s.heap.objs.size = some { cls := .type "list", dict := none, data := .seq its.toArray c', slots := #[] } → EP X pins σ Q (.ref s.heap.objs.size) { s with heap := h' } := fun its r' hz h' c' kp e =>
    ⟨.ref s.heap.objs.size, _, I.laid (t' := s.toks) kp (Nat.le_refl _) (show ObjOk X.prog X.w _ h' _ (.lst ys) from ⟨hz, its, c', r', e⟩), rfl, q _ (I.hok.fresh (Nat.le_refl _))⟩
  rcases hq with hq | hq
  · obtain ⟨its, r', pl, hz⟩ := I.list hq
    have hlen := r'.length
    obtain ⟨o, ho, hc, n, hd⟩ := pl.isList
    exact call_list_seq p (.inl rfl) ho hc hd (fun h' c' kp e => fin its r' hz h' c' kp e) (by simp only [List.size_toArray] <;> omega)
  · obtain ⟨its, r', pl, hz⟩ := I.tuple hq
    have hlen := r'.length
    obtain ⟨o, ho, hc, n, hd⟩ := pl
    exact call_list_seq p (.inr rfl) ho hc hd (fun h' c' kp e => fin its r' hz h' c' kp e) (by simp only [List.size_toArray] <;> omega)
/-- the value is of that builtin type -/
def tyV (K : PySem.W.Frag) (T : String) (x : V) (H : Hp) : Prop := match x with
  | .str _ => T = "str"
  | .int _ => T = "int"
  | .ref p => (T = "list" ∧ ∃ xs, SqL K H p xs) ∨ (T = "tuple" ∧ ∃ o, K.lookup p = some o ∧ o.cls = .type "tuple" ∧ o.dict = none) ∨
      (T = "dict" ∧ ((∃ kvs, H p = some (.dK kvs)) ∨ ∃ kvs, H p = some (.dT kvs))) ∨ (T = "set" ∧ ∃ S n, H p = some (.set S n))
  | _ => False
theorem tyV_is {pins : List (Addr × Obj)} {σ : St} {H : Hp} {s : Shared} {T : String} {x : V} {v : Value} (I : Inv X pins σ H s) (r : RelV x v) (ty : tyV X.K T x H) :
    s.TypeIs v T ∧ ∀ a, v = .ref a → ∃ ob, s.heap.get? a = some ob ∧ ob.dict = none := by
  cases x with
  | str z =>
    obtain ⟨t, rfl⟩ := r
    cases (show T = "str" from ty)
    exact ⟨typeIs_str s z t, fun _ e => nomatch e⟩
  | int i =>
    obtain ⟨t, rfl⟩ := r
    cases (show T = "int" from ty)
    exact ⟨typeIs_int s i t, fun _ e => nomatch e⟩
  | ref p =>
    cases r
    rcases ty with ⟨rfl, xs, hq⟩ | ⟨rfl, o, hk, hc, hd⟩ | ⟨rfl, hk⟩ | ⟨rfl, S, n, hk⟩
    · obtain ⟨its, _, pl, _⟩ := I.list hq
      refine ⟨pl.isList.typeIs, fun a e => ?_⟩
      cases e
      obtain ⟨o, n, e, c, hd, _⟩ := pl
      exact ⟨o, e, hd⟩
    · refine ⟨⟨o, I.kIn p o hk, hc⟩, fun a e => ?_⟩
      cases e
      exact ⟨o, I.kIn _ o hk, hd⟩
    · have z : ∃ o, s.heap.get? p = some o ∧ o.ExactDict := by
        rcases hk with ⟨kvs, hk⟩ | ⟨kvs, hk⟩
        · obtain ⟨_, _, _, _, o, _, _, e, ex, _⟩ := I.hok p _ hk
          exact ⟨o, e, ex⟩
        · obtain ⟨_, _, _, _, o, _, _, e, ex, _⟩ := I.hok p _ hk
          exact ⟨o, e, ex⟩
      obtain ⟨o, e, ex⟩ := z
      refine ⟨⟨o, e, ex.1⟩, fun a e2 => ?_⟩
      cases e2
      exact ⟨o, e, ex.2.1⟩
    · obtain ⟨o, _, _, _, e, ex, _⟩ := I.hok p _ hk
      refine ⟨⟨o, e, ex.1⟩, fun a e2 => ?_⟩
      cases e2
      exact ⟨o, e, ex.2.1⟩
  | _ => exact False.elim ty
def tBM (K : PySem.W.Frag) (T : String) (r : V → List V → Hp → VK → Prop) (to : TE) (t : TA) : TE := fun σ H Q => to σ H fun x H1 => tyV K T x H1 ∧ t σ H1 fun xs H2 => r x xs H2 Q
variable {o e : Expr} {es : List Expr} {to : TE} {t : TA} {name : Str} {apos cpos : Pos} {T id : String} {r : V → List V → Hp → VK → Prop}
theorem pe_bm (pa : PlainAttrs T) (slot : Slot T name id) (hty : typeOf (.builtin id) = pure (.type "method_descriptor")) (hm : MtR X id r) (ho : PE X o to) (ha : PA X (e :: es) t)
    (hbase : attributeBase o name X.env (eval o X.env) = eval o X.env := by rfl)
    (hfew : ((backTo cpos (starEach (e :: es) X.env)).all (fun x => !x.1) && (backToKw cpos (keywordEach [] X.env)).all (fun x => x.1.isSome)
      && decide ((e :: es).length + ([] : List Keyword).length + (if ([] : List Keyword).isEmpty then 0 else 1) < 30)) = true := by rfl)
    (hline : (apos.endLine == cpos.line) = true := by rfl) (hs : starEach (e :: es) X.env = (false, eval e X.env) :: starEach es X.env := by rfl) (hplain : (backTo cpos (starEach es X.env)).any (·.1) = false := by rfl) :
    PE X (.Call (.Attribute o name apos) (e :: es) [] cpos) (tBM X.K T r to t) := by
  intro pins s σ H Q I h
  refine wpAny_Call_method_late hbase hfew hline rfl (thn (ho pins s σ H _ I h) fun v s1 ⟨x, H1, I1, r1, ty, q1⟩ => ?_)
  obtain ⟨h1, h2⟩ := tyV_is I1 r1 ty
  refine ⟨T, id, pa, slot, hty, h1, h2, ?_⟩
  have hA := ha cpos pins s1 σ H1 _ I1 q1
  rw [hs] at hA ⊢
  refine Calls.callWith_builtin (by show (false || (backTo cpos (starEach es X.env)).any (·.1)) = false; rw [hplain] <;> rfl) (Calls.evalArgs_plain ?_)
  exact thn hA fun us s2 ⟨vs, H2, I2, r2, q2⟩ => hm pins s2 σ H2 x vs v us Q I2 r1 r2 q2
/- xs.append(e), list.index on a module's tuple .. are MtR facts of 06m -/
end
end L2
namespace L2
open PySem PySem.Spec PyProof.Rows
def MtM (X : Cx) (id : String) (r : V → List V → Hp → VK → Prop) : Prop :=
  ∀ (pins : List (Addr × Obj)) (s : Shared) (σ : St) (H : Hp) (x : V) (xs : List V) (v : Value) (us : List Value) (Q : VK), Inv X pins σ H s → RelV x v → Vals xs us → r x xs H Q →
    wpAny (model X.prog X.w) X.A (call (.builtin id) (v :: us)) (EP X pins σ Q) X.xe s
theorem Vals.one : ∀ {x : V} {us : List Value}, Vals [x] us → ∃ u, us = [u] ∧ RelV x u
  | _, _, .cons r .nil => ⟨_, rfl, r⟩
theorem Vals.eraseIdx : ∀ {xs : List V} {us : List Value} (i : Nat), Vals xs us → Vals (xs.eraseIdx i) (us.eraseIdx i)
  | _, _, _, .nil => .nil
  | _, _, 0, .cons _ t => t
  | _, _, i + 1, .cons r t => .cons r (Vals.eraseIdx i t)
theorem len_erase {α : Type} : ∀ (l : List α) (i : Nat), (l.eraseIdx i).length ≤ l.length
  | [], _ => Nat.le_refl _
  | _ :: _, 0 => Nat.le_succ _
  | _ :: r, i + 1 => Nat.succ_le_succ (len_erase r i)
section
variable {X : Cx} {pins : List (Addr × Obj)} {σ : St} {H : Hp} {s : Shared} {l b : Addr} {xs ys zs : List V}
theorem Inv.lset {its its' : List Value} {n : Nat} {f : Array Value → Array Value} {t' : Nat} (I : Inv X pins σ H s) (hH : H l = some (.lst xs))
    (e : s.heap.get? l = some { cls := .type "list", data := .seq its.toArray n }) (hf : f its.toArray = its'.toArray) (hv : Vals ys its') (hz : ys.length ≤ sizeLine) :
    Inv X pins σ (upd H l (.lst ys)) { s with heap := s.heap.update l (Obj.mapSeq f), toks := t' } := by
  have q := PySem.IsL.update e f
  rw [hf] at q
  refine I.write (x := l) (e := l) (by rw [hH]; exact trivial) (.inl rfl) (fun b' u hb hu => (Heap.get?_update_other s.heap (Obj.mapSeq f) (Ne.symm hb)).trans hu) ⟨_, q⟩ ?_
  exact ⟨hz, its', _, hv, q⟩
theorem Inv.lnew {its : List Value} {t' : Nat} (I : Inv X pins σ H s) (hv : Vals ys its) (hz : ys.length ≤ sizeLine) :
    Inv X pins σ (upd H s.heap.objs.size (.lst ys)) { s with heap := s.heap.push { cls := .type "list", data := .seq its.toArray }, toks := t' } :=
  I.laid (fun _ _ q => Heap.get?_push_of_some _ q) (Nat.le_refl _) ⟨hz, its, 0, hv, Heap.get?_push_size _ rfl⟩
theorem Inv.fresh (I : Inv X pins σ H s) : H s.heap.objs.size = none := I.hok.fresh (Nat.le_refl _)
theorem Inv.lstM (I : Inv X pins σ H s) (hH : H l = some (.lst xs)) : xs.length ≤ sizeLine ∧ ∃ (its : List Value) (n : Nat), Vals xs its ∧ xs.length = its.length ∧ s.heap.get? l = some { cls := .type "list", data := .seq its.toArray n } := by
  obtain ⟨z, its, n, r, e⟩ := I.hok l _ hH
  exact ⟨z, its, n, r, r.length, e⟩
theorem notLongL {n : Nat} (h : n ≤ sizeLine) : Builtin.List.listTooLong n = false := by
  unfold Builtin.List.listTooLong
  exact decide_eq_false (by omega)
end
section
variable {X : Cx}
def rAppend : V → List V → Hp → VK → Prop := fun x vs H Q => ∃ l xs y, x = .ref l ∧ vs = [y] ∧ H l = some (.lst xs) ∧ xs.length < sizeLine ∧ Q .non (upd H l (.lst (xs ++ [y])))
theorem mt_append : MtM X "list.append" rAppend := by
  intro pins s σ H x vs v us Q I rx rv h
  obtain ⟨l, xs, y, rfl, rfl, hH, hz, q⟩ := h
  cases rx
  obtain ⟨u, rfl, ru⟩ := rv.one
  obtain ⟨z, its, n, r, hl, e⟩ := I.lstM hH
  refine call_meets F.slot_list_append ⟨_, e, rfl⟩ F.entry_list_append (F.args_list_append_2 _ _) (PySem.list_append l its.toArray n u (by rw [List.size_toArray]; omega)) ⟨e, ?_⟩
  refine ⟨.non, _, I.lset (its' := its ++ [u]) hH e (by simp) (r.append (.cons ru .nil)) ?_, rfl, q⟩
  rw [List.length_append, List.length_singleton]
  omega
def rExtend : V → List V → Hp → VK → Prop := fun x vs H Q => ∃ l b xs zs, x = .ref l ∧ vs = [.ref b] ∧ H l = some (.lst xs) ∧ H b = some (.lst zs) ∧ xs.length + zs.length ≤ sizeLine ∧ Q .non (upd H l (.lst (xs ++ zs)))
theorem mt_extend : MtM X "list.extend" rExtend := by
  intro pins s σ H x vs v us Q I rx rv h
  obtain ⟨l, b, xs, zs, rfl, rfl, hH, hB, hz, q⟩ := h
  cases rx
  obtain ⟨u, rfl, ru⟩ := rv.one
  cases ru
  obtain ⟨z, its, n, r, hl, e⟩ := I.lstM hH
  obtain ⟨z2, its2, n2, r2, hl2, e2⟩ := I.lstM hB
  have hsz : its.toArray.size + its2.toArray.size ≤ sizeLine := by rw [List.size_toArray, List.size_toArray]; omega
  have hlong : ¬ (!its.toArray.isEmpty && Builtin.List.listTooLong (its.toArray.size + its2.toArray.size)) = true := by
    rw [notLongL hsz, Bool.and_false]
    exact Bool.false_ne_true
  refine call_meets F.slot_list_extend ⟨_, e, rfl⟩ F.entry_list_extend (F.args_list_extend_2 _ _)
    (AutoSeq1.list_extend_list_list_0 l its.toArray n b its2.toArray n2 hlong (by rw [List.size_toArray]; omega) (by omega)) ⟨e, e2, ?_⟩
  refine ⟨.non, _, I.lset (its' := its ++ its2) hH e (by simp) (r.append r2) ?_, rfl, q⟩
  rw [List.length_append]
  omega
def rCat : R2 := fun x y H Q => ∃ l b xs zs, x = .ref l ∧ y = .ref b ∧ H l = some (.lst xs) ∧ H b = some (.lst zs) ∧ xs.length + zs.length ≤ sizeLine ∧ ∀ p, H p = none → Q (.ref p) (upd H p (.lst (xs ++ zs)))
theorem op_cat : OpR X (binaryOp .Add) rCat := by
  intro pins s σ H x y v u Q I rx ry h
  obtain ⟨l, b, xs, zs, rfl, rfl, hH, hB, hz, q⟩ := h
  cases rx
  cases ry
  obtain ⟨z, its, n, r, hl, e⟩ := I.lstM hH
  obtain ⟨z2, its2, n2, r2, hl2, e2⟩ := I.lstM hB
  refine PySem.P.add_list e e2 ?_ (by rw [List.size_toArray, List.size_toArray]; omega)
  have ea : its.toArray ++ its2.toArray = (its ++ its2).toArray := by simp
  rw [ea]
  exact ⟨.ref _, _, I.lnew (t' := s.toks) (r.append r2) (by rw [List.length_append]; omega), rfl, q _ I.fresh⟩
end
end L2
namespace L2
open PySem PySem.Spec PyProof.Rows
theorem Vals.ints : ∀ {ns : List Int} {us : List Value}, Vals (ns.map V.int) us → IntsAre us ns
  | [], us, h => by
    rw [List.map_nil] at h
    cases h
    exact IntsAre.nil
  | n :: ns, us, h => by
    rw [List.map_cons] at h
    cases h with
    | cons r t =>
      obtain ⟨k, rfl⟩ := r
      exact IntsAre.cons n k (Vals.ints t)
theorem Vals.bls : ∀ {bs : List Bool} {us : List Value}, Vals (bs.map V.bl) us → us = bs.map Value.bool
  | [], us, h => by
    rw [List.map_nil] at h
    cases h
    rfl
  | b :: bs, us, h => by
    rw [List.map_cons] at h
    cases h with
    | cons r t =>
      cases r
      rw [Vals.bls t, List.map_cons]
theorem Vals.ref1 {a : Addr} {us : List Value} (r : Vals [V.ref a] us) : us = [Value.ref a] := by
  cases r with
  | cons r t =>
    cases t
    cases r
    rfl
section
variable {prog : Program} {w : World} {A : Around} {E : Value → Shared → Prop} {s : Shared} {l : Addr} {its : List Value} {ns : List Int} {Q : Value → Shared → Prop}
theorem max_raw (hh : A.handled = none) (hl : s.heap.IsList l its.toArray) (hi : IntsAre its ns) (hne : 0 < ns.length)
    (h : ∀ h' tk M t', (∀ b o, s.heap.get? b = some o → h'.get? b = some o) → M ∈ ns → (∀ a, a ∈ ns → a ≤ M) → Q (.int M t') { s with heap := h', toks := tk }) : wpAny (model prog w) A (call (.builtin "max") [.ref l]) Q E s := by
  obtain ⟨xs, e⟩ := hi.allInts.items
  have hn : numsOf (intItems xs).toList = ns := by rw [← e]; exact hi.numsOf
  rw [nums_intItems] at hn
  subst hn
  rw [e] at hl
  have hsz : 0 < xs.size := by simpa using hne
  refine PySem.max_intList hh hl hsz fun v h' tk hv hk => ?_
  obtain ⟨t, rfl⟩ := intItems_at hv
  obtain ⟨h1, h2⟩ := argBest_gt (numAt xs) (xs.size - 1)
  refine h h' tk _ t hk ?_ fun a ha => ?_
  · rw [numAt_eq]; exact PySem.getD_mem (by rw [List.length_map, Array.length_toList]; omega)
  · obtain ⟨j, hj, rfl⟩ := mem_getD ha
    rw [List.length_map, Array.length_toList] at hj
    rw [← numAt_eq]; exact h2 j (by omega)
theorem min_raw (hh : A.handled = none) (hl : s.heap.IsList l its.toArray) (hi : IntsAre its ns) (hne : 0 < ns.length)
    (h : ∀ h' tk M t', (∀ b o, s.heap.get? b = some o → h'.get? b = some o) → M ∈ ns → (∀ a, a ∈ ns → M ≤ a) → Q (.int M t') { s with heap := h', toks := tk }) : wpAny (model prog w) A (call (.builtin "min") [.ref l]) Q E s := by
  obtain ⟨xs, e⟩ := hi.allInts.items
  have hn : numsOf (intItems xs).toList = ns := by rw [← e]; exact hi.numsOf
  rw [nums_intItems] at hn
  subst hn
  rw [e] at hl
  have hsz : 0 < xs.size := by simpa using hne
  refine PySem.min_intList hh hl hsz fun v h' tk hv hk => ?_
  obtain ⟨t, rfl⟩ := intItems_at hv
  obtain ⟨h1, h2⟩ := argBest_lt (numAt xs) (xs.size - 1)
  refine h h' tk _ t hk ?_ fun a ha => ?_
  · rw [numAt_eq]; exact PySem.getD_mem (by rw [List.length_map, Array.length_toList]; omega)
  · obtain ⟨j, hj, rfl⟩ := mem_getD ha
    rw [List.length_map, Array.length_toList] at hj
    rw [← numAt_eq]; exact h2 j (by omega)
end
section
variable {X : Cx}
def rMin (K : PySem.W.Frag) : List V → Hp → VK → Prop := fun vs H Q => ∃ (a : Addr) (ns : List Int), vs = [V.ref a] ∧ SqL K H a (ns.map V.int) ∧ 0 < ns.length ∧ ∀ m, m ∈ ns → (∀ y, y ∈ ns → m ≤ y) → Q (.int m) H
theorem cr_min (hc : X.calm = true) : CallR X (.builtin "min") (rMin X.K) := by
  intro pins s σ H vs us Q I r h
  obtain ⟨a, ns, rfl, hs, hne, q⟩ := h
  obtain ⟨its, rv, hl, _⟩ := I.list hs
  rw [Vals.ref1 r]
  exact min_raw (I.ok.hd hc) hl.isList rv.ints hne fun h' tk m t' hk h1 h2 => ⟨.int _, H, I.kept hk, ⟨_, rfl⟩, q m h1 h2⟩
end
section
variable {X : Cx}
def rIndex (K : PySem.W.Frag) : V → List V → Hp → VK → Prop := fun x xs H Q => ∃ (a : Addr) (ys : List V) (y : V) (j : Nat) (z : V), x = V.ref a ∧ xs = [y] ∧ SqL K H a ys ∧ flatV y = true ∧ ys.all flatV = true ∧ ys[j]? = some z ∧ eqV z y = true ∧
  (∀ (m : Nat) (z' : V), m < j → ys[m]? = some z' → eqV z' y = false) ∧ Q (.int (j : Nat)) H
theorem flat_at {ys : List V} (f : ys.all flatV = true) {j : Nat} {z : V} (h : ys[j]? = some z) : flatV z = true := List.all_eq_true.mp f z (List.mem_of_getElem? h)
theorem mt_index : MtR X "list.index" (rIndex X.K) := by
  intro pins s σ H x xs v us Q I rx rxs h
  obtain ⟨a, ys, y, j, z, rfl, rfl, hs, fy, fys, hz, hzj, hno, q⟩ := h
  cases rx
  cases rxs with
  | cons ry rt =>
    rename_i uy ut
    cases rt
    obtain ⟨its, rv, ⟨⟨cls, dd, data, sl⟩, n, ho, hc, hdn, hd⟩, hlen⟩ := I.list hs
    simp only at hc hd
    subst hc hd
    obtain ⟨u, hu, ru⟩ := rv.get hz
    obtain ⟨hjl, hje⟩ := List.getElem?_eq_some_iff.mp hu
    have hvl := rv.length
    have hj : j < its.toArray.size := by simpa using hjl
    have hsl := sizeLine_eq
    refine call_meets PySem.F.slot_list_index ⟨_, ho, rfl⟩ PySem.F.entry_list_index (PySem.F.args_list_index_2 _ _)
      (SeqAt.list_indexAt a its.toArray n dd sl uy (eqU y) j hj (by omega) ?_ ?_) ⟨ho, fun u' hu' => mem_eqAt ry fy rv fys u' (by simpa using hu'), ?_⟩
    · have e1 : its.toArray[j] = u := by simpa using hje
      rw [e1, eqU_of ru (flat_at fys hz)]
      exact hzj
    · intro m hm hmj
      have hml : m < its.length := by simpa using hm
      have hmy : m < ys.length := by omega
      have hy' : ys[m]? = some ys[m] := List.getElem?_eq_getElem hmy
      obtain ⟨u2, hu2, ru2⟩ := rv.get hy'
      obtain ⟨_, hme⟩ := List.getElem?_eq_some_iff.mp hu2
      have e1 : its.toArray[m] = u2 := by simpa using hme
      rw [e1, eqU_of ru2 (flat_at fys hy')]
      exact hno m _ hmj hy'
    · exact ⟨.int (j : Nat), H, I.tok _, ⟨_, rfl⟩, q⟩
end
theorem iter_any {prog : Program} {w : World} {A : Around} {E : Value → Shared → Prop} {s : Shared} {l : Addr} {items : Array Value} {Q : Value → Shared → Prop} (hl : s.heap.IsList l items)
    (h : ∀ s₂ : Shared, s₂ = { s with heap := s.heap.push { cls := .type "list_iterator", data := .fields #[.ref l, .int 0 0] } } →
      (s₂.heap.IsListIter s.heap.objs.size l 0 ∧ s₂.heap.IsList l items) → l ≠ s.heap.objs.size → Q (.ref s.heap.objs.size) s₂) : wpAny (model prog w) A (pyIter (.ref l)) Q E s := by
  have hlt : l < s.heap.objs.size := by obtain ⟨_, e, _⟩ := hl; exact Heap.lt_size e
  exact wpAny_pyIter_list hl (h _ rfl ⟨⟨_, Heap.get?_push_size _ rfl, rfl, rfl⟩, hl.push _⟩ (Nat.ne_of_lt hlt))
theorem truth_bools {prog : Program} {w : World} {A : Around} {bs : List Bool} {its : List Value} (e : its = bs.map Value.bool) :
    TruthOf prog w A (fun i v => its.toArray[i]? = some v) (fun i => bs.getD i false) := fun i v s Q E hv hq => by
  have hv' : its[i]? = some v := by simpa using hv
  rw [e, List.getElem?_map] at hv'
  obtain ⟨b, hb, rfl⟩ := Option.map_eq_some_iff.mp hv'
  have hg : bs.getD i false = b := by rw [List.getD_eq_getElem?_getD, hb] <;> rfl
  have hq' : Q (bs.getD i false) s := hq
  rw [hg] at hq'
  exact wpAny_truthy_bool hq'
theorem any_range : ∀ bs : List Bool, (List.range bs.length).any (fun i => bs.getD i false) = bs.any id
  | [] => rfl
  | b :: bs => by
    rw [List.length_cons, List.range_succ_eq_map, List.any_cons, List.any_map, List.any_cons, ← any_range bs]
    all_goals rfl
theorem all_range : ∀ bs : List Bool, (List.range bs.length).all (fun i => bs.getD i false) = bs.all id
  | [] => rfl
  | b :: bs => by
    rw [List.length_cons, List.range_succ_eq_map, List.all_cons, List.all_map, List.all_cons, ← all_range bs]
    all_goals rfl
section
variable {X : Cx}
def rAny (K : PySem.W.Frag) : List V → Hp → VK → Prop := fun vs H Q => ∃ (a : Addr) (bs : List Bool), vs = [V.ref a] ∧ SqL K H a (bs.map V.bl) ∧ Q (.bl (bs.any id)) H
def rAll (K : PySem.W.Frag) : List V → Hp → VK → Prop := fun vs H Q => ∃ (a : Addr) (bs : List Bool), vs = [V.ref a] ∧ SqL K H a (bs.map V.bl) ∧ Q (.bl (bs.all id)) H
theorem cr_any (hc : X.calm = true) : CallR X (.builtin "any") (rAny X.K) := by
  intro pins s σ H vs us Q I r h
  obtain ⟨a, bs, rfl, hs, q⟩ := h
  obtain ⟨its, rv, hl, _⟩ := I.list hs
  rw [Vals.ref1 r]
  have hb := rv.bls
  refine call_any_walk (iter_any hl.isList fun s₂ e2 st hne => ?_)
  subst e2
  refine ⟨_, _, _, _, _, _, _, rfl, Walks.list (A := X.A.in1) (I.ok.hd hc) _ a hne its.toArray, st, truth_bools hb, fun h' tk hk => ?_⟩
  refine ⟨.bl _, H, I.kept fun b o eo => hk b o (fun hmem => ?_) (Heap.get?_push_of_some _ eo), ?_, q⟩
  · rcases List.mem_cons.mp hmem with e1 | hmem
    · exact absurd (e1 ▸ Heap.lt_size eo) (Nat.lt_irrefl _)
    · cases hmem
  · show Value.bool _ = Value.bool _
    rw [← any_range, hb, List.size_toArray, List.length_map]
theorem cr_all (hc : X.calm = true) : CallR X (.builtin "all") (rAll X.K) := by
  intro pins s σ H vs us Q I r h
  obtain ⟨a, bs, rfl, hs, q⟩ := h
  obtain ⟨its, rv, hl, _⟩ := I.list hs
  rw [Vals.ref1 r]
  have hb := rv.bls
  refine call_all_walk (iter_any hl.isList fun s₂ e2 st hne => ?_)
  subst e2
  refine ⟨_, _, _, _, _, _, _, rfl, Walks.list (A := X.A.in1) (I.ok.hd hc) _ a hne its.toArray, st, truth_bools hb, fun h' tk hk => ?_⟩
  refine ⟨.bl _, H, I.kept fun b o eo => hk b o (fun hmem => ?_) (Heap.get?_push_of_some _ eo), ?_, q⟩
  · rcases List.mem_cons.mp hmem with e1 | hmem
    · exact absurd (e1 ▸ Heap.lt_size eo) (Nat.lt_irrefl _)
    · cases hmem
  · show Value.bool _ = Value.bool _
    rw [← all_range, hb, List.size_toArray, List.length_map]
end
mutual
inductive Dp (K : PySem.W.Frag) (H : Hp) : V → PyData → Prop
  | non : Dp K H .non .none
  | bl (b : Bool) : Dp K H (.bl b) (.bool b)
  | int (i : Int) : Dp K H (.int i) (.int i)
  | str (x : Str) : Dp K H (.str x) (.str x)
  | lst {a : Addr} {xs : List V} {ds : List PyData} : SqL K H a xs → DpAll K H xs ds → Dp K H (.ref a) (.list ds)
  | tup {a : Addr} {xs : List V} {ds : List PyData} : SqT K H a xs → DpAll K H xs ds → Dp K H (.ref a) (.tuple ds)
inductive DpAll (K : PySem.W.Frag) (H : Hp) : List V → List PyData → Prop
  | nil : DpAll K H [] []
  | cons {v : V} {vs : List V} {d : PyData} {ds : List PyData} : Dp K H v d → DpAll K H vs ds → DpAll K H (v :: vs) (d :: ds)
end
section
variable {X : Cx} {pins : List (Addr × Obj)} {σ : St} {H : Hp} {s : Shared}
mutual
theorem Dp.reads (I : Inv X pins σ H s) : ∀ (d : PyData) (v : V) (u : Value), Dp X.K H v d → RelV v u → ∃ as, Reads s.heap u d as
  | .none, _, _, h, r => by
    cases h
    cases r
    exact ⟨_, Reads.none⟩
  | .bool b, _, _, h, r => by
    cases h
    cases r
    exact ⟨_, Reads.bool b⟩
  | .int i, _, _, h, r => by
    cases h
    obtain ⟨t, rfl⟩ := r
    exact ⟨_, Reads.int i t⟩
  | .str x, _, _, h, r => by
    cases h
    obtain ⟨t, rfl⟩ := r
    exact ⟨_, Reads.str x t⟩
  | .list ds, _, _, h, r => by
    cases h with
    | lst hs ha =>
      cases r
      obtain ⟨its, rv, ⟨o, n, ho, hc, _, hd⟩, _⟩ := I.list hs
      obtain ⟨as, hr⟩ := Dp.readsAll I ds _ its ha rv
      exact ⟨_, Reads.list ho hc hd hr⟩
  | .tuple ds, _, _, h, r => by
    cases h with
    | tup hs ha =>
      cases r
      obtain ⟨its, rv, ⟨o, ho, hc, n, hd⟩, _⟩ := I.tuple hs
      obtain ⟨as, hr⟩ := Dp.readsAll I ds _ its ha rv
      exact ⟨_, Reads.tuple ho hc hd hr⟩
  | .dict _, _, _, h, _ => by cases h
theorem Dp.readsAll (I : Inv X pins σ H s) : ∀ (ds : List PyData) (vs : List V) (us : List Value), DpAll X.K H vs ds → Vals vs us → ∃ as, ReadsAll s.heap us ds as
  | [], _, _, h, r => by
    cases h
    cases r
    exact ⟨_, ReadsAll.nil⟩
  | d :: ds, _, _, h, r => by
    cases h with
    | cons h1 h2 =>
      cases r with
      | cons r1 r2 =>
        obtain ⟨as, q1⟩ := Dp.reads I d _ _ h1 r1
        obtain ⟨bs, q2⟩ := Dp.readsAll I ds _ _ h2 r2
        exact ⟨_, ReadsAll.cons q1 q2⟩
end
end
end L2
namespace L2
open PySem PySem.Spec PyProof.Rows
abbrev CellAt (h : Heap) (c : Addr) (v : Option Value) : Prop := h.IsCell c v
def relS (scope sc : Scope) : Scope :=
  { scope with names := scope.names.map fun (n, k) => if (k == .free && sc.kind == .function && sc.names.lookup n == some .cell) then (n, .cell) else (n, k) }
def cloFrom (cells : List (Str × Addr)) : List (Str × NameKind) → List (Str × Addr) → List (Str × Addr)
  | [], acc => acc
  | (n, k) :: r, acc => if k == .free then cloFrom cells r ((n, (cells.lookup n).getD 0) :: acc) else cloFrom cells r acc
theorem closure_loop (env : Env) (f : Str × NameKind → List (Str × Addr) → Sem (ForInStep (List (Str × Addr))))
    (hf : ∀ n k c, f (n, k) c = if k == .free then (do let a ← cellOf env n; pure (.yield ((n, a) :: c))) else pure (.yield c)) :
    ∀ (names : List (Str × NameKind)) (acc : List (Str × Addr)), (∀ y ∈ names, y.2 = .free → ∃ c, env.cells.lookup y.1 = some c) → forIn names acc f = pure (cloFrom env.cells names acc)
  | [], acc, _ => by rw [List.forIn_nil]; rfl
  | (n, k) :: r, acc, h => by
    rw [List.forIn_cons, hf]
    have ih := fun acc => closure_loop env f hf r acc fun y hy => h y (List.mem_cons_of_mem _ hy)
    unfold cloFrom
    by_cases hk : (k == NameKind.free) = true
    · rw [if_pos hk, if_pos hk]
      obtain ⟨c, hc⟩ := h (n, k) List.mem_cons_self (by simpa using hk)
      have e : cellOf env n = pure c := by unfold cellOf; rw [hc]
      rw [e]
      have e2 : (env.cells.lookup n).getD 0 = c := by rw [hc]; rfl
      rw [e2]
      exact ih _
    · rw [if_neg hk, if_neg hk]
      exact ih _
theorem closure_ok {scope : Scope} {env : Env} (h : ∀ y ∈ scope.names, y.2 = .free → ∃ c, env.cells.lookup y.1 = some c) : closureFor scope env = pure (cloFrom env.cells scope.names []) := by
  simp only [closureFor]
  rw [closure_loop env _ (fun n k c => rfl) scope.names [] h]
  rfl
theorem mem_lookup {α : Type} : ∀ {l : List (Str × α)} {n : Str} {c : α}, (n, c) ∈ l → ∃ c', l.lookup n = some c'
  | (k, v) :: r, n, c, h => by
    rw [List.lookup_cons]
    cases hb : n == k with
    | true => exact ⟨_, rfl⟩
    | false =>
      rcases List.mem_cons.mp h with e | h
      · cases e; simp at hb
      · exact mem_lookup h
theorem cloFrom_mem {cells : List (Str × Addr)} : ∀ {names : List (Str × NameKind)} {acc : List (Str × Addr)} {n : Str} {c : Addr}, (n, c) ∈ cloFrom cells names acc → (n, c) ∈ acc ∨ ((n, .free) ∈ names ∧ c = (cells.lookup n).getD 0)
  | [], _, _, _, h => .inl h
  | (m, k) :: r, acc, n, c, h => by
    unfold cloFrom at h
    split at h
    · rename_i hk
      have hk : k = .free := by simpa using hk
      rcases cloFrom_mem h with h | ⟨h1, h2⟩
      · rcases List.mem_cons.mp h with e | h
        · cases e; exact .inr ⟨hk ▸ List.mem_cons_self, rfl⟩
        · exact .inl h
      · exact .inr ⟨List.mem_cons_of_mem _ h1, h2⟩
    · rcases cloFrom_mem h with h | ⟨h1, h2⟩
      · exact .inl h
      · exact .inr ⟨List.mem_cons_of_mem _ h1, h2⟩
theorem cloFrom_acc {cells : List (Str × Addr)} : ∀ {names : List (Str × NameKind)} {acc : List (Str × Addr)} {p : Str × Addr}, p ∈ acc → p ∈ cloFrom cells names acc
  | [], _, _, h => h
  | (m, k) :: r, acc, p, h => by
    unfold cloFrom
    split
    · exact cloFrom_acc (List.mem_cons_of_mem _ h)
    · exact cloFrom_acc h
theorem cloFrom_has {cells : List (Str × Addr)} : ∀ {names : List (Str × NameKind)} {acc : List (Str × Addr)} {n : Str}, (n, .free) ∈ names → (n, (cells.lookup n).getD 0) ∈ cloFrom cells names acc
  | (m, k) :: r, acc, n, h => by
    unfold cloFrom
    rcases List.mem_cons.mp h with e | h
    · cases e
      exact cloFrom_acc List.mem_cons_self
    · split
      · exact cloFrom_has h
      · exact cloFrom_has h
theorem cells_mem : ∀ {names : List (Str × NameKind)} {h : Heap} {acc : List (Str × Addr)} {x : Str} {c : Addr}, (x, c) ∈ cellsFrom h.objs.size names acc →
    (x, c) ∈ acc ∨ ((x, .cell) ∈ names ∧ h.objs.size ≤ c ∧ CellAt (pushCells h names) c none)
  | [], _, _, _, _, h => .inl h
  | (n, k) :: r, h, acc, x, c, hm => by
    unfold cellsFrom at hm
    unfold pushCells
    split at hm
    · rename_i hk
      rw [if_pos hk]
      have hk : k = .cell := by simpa using hk
      rw [← Heap.size_push h { cls := .type "cell", data := .cell none }] at hm
      rcases cells_mem hm with hm | ⟨h1, h2, h3⟩
      · rcases List.mem_cons.mp hm with e | hm
        · cases e
          exact .inr ⟨hk ▸ List.mem_cons_self, Nat.le_refl _, _, pushCells_keeps r _ _ _ (Heap.get?_push_size _ rfl), rfl⟩
        · exact .inl hm
      · rw [Heap.size_push] at h2
        exact .inr ⟨List.mem_cons_of_mem _ h1, Nat.le_of_succ_le h2, h3⟩
    · rename_i hk
      rw [if_neg hk]
      rcases cells_mem hm with hm | ⟨h1, h2, h3⟩
      · exact .inl hm
      · exact .inr ⟨List.mem_cons_of_mem _ h1, h2, h3⟩
theorem cells_acc : ∀ {names : List (Str × NameKind)} {n : Nat} {acc : List (Str × Addr)} {p : Str × Addr}, p ∈ acc → p ∈ cellsFrom n names acc
  | [], _, _, _, h => h
  | (m, k) :: r, n, acc, p, h => by
    unfold cellsFrom
    split
    · exact cells_acc (List.mem_cons_of_mem _ h)
    · exact cells_acc h
theorem cells_has : ∀ {names : List (Str × NameKind)} {n : Nat} {acc : List (Str × Addr)} {x : Str}, (x, .cell) ∈ names → ∃ c, (x, c) ∈ cellsFrom n names acc
  | (m, k) :: r, n, acc, x, h => by
    unfold cellsFrom
    rcases List.mem_cons.mp h with e | h
    · cases e
      exact ⟨n, cells_acc List.mem_cons_self⟩
    · split
      · exact cells_has h
      · exact cells_has h
theorem cells_inj : ∀ {names : List (Str × NameKind)} {h : Heap} {acc : List (Str × Addr)} {x y : Str} {c : Addr}, (∀ p ∈ acc, p.2 < h.objs.size) → (∀ x y c, (x, c) ∈ acc → (y, c) ∈ acc → x = y) →
    (x, c) ∈ cellsFrom h.objs.size names acc → (y, c) ∈ cellsFrom h.objs.size names acc → x = y
  | [], _, _, _, _, _, _, hi, h1, h2 => hi _ _ _ h1 h2
  | (n, k) :: r, h, acc, x, y, c, hl, hi, h1, h2 => by
    unfold cellsFrom at h1 h2
    split at h1
    · rename_i hk
      rw [if_pos hk] at h2
      rw [← Heap.size_push h { cls := .type "cell", data := .cell none }] at h1 h2
      refine cells_inj (h := h.push _) (fun p hp => ?_) (fun x y c a b => ?_) h1 h2
      · rw [Heap.size_push]
        rcases List.mem_cons.mp hp with rfl | hp
        · exact Nat.lt_succ_self _
        · exact Nat.lt_succ_of_lt (hl p hp)
      · rcases List.mem_cons.mp a with e | a <;> rcases List.mem_cons.mp b with e' | b
        · cases e; cases e'; rfl
        · cases e; exact absurd (hl _ b) (Nat.lt_irrefl _)
        · cases e'; exact absurd (hl _ a) (Nat.lt_irrefl _)
        · exact hi _ _ _ a b
    · rename_i hk
      rw [if_neg hk] at h2
      exact cells_inj hl hi h1 h2
theorem newEnv_comp {M : Model} {A : Around} {E : Value → Shared → Prop} {s : Shared} {scope : Scope} {globals : Addr} {closure : List (Str × Addr)} {qual : Str} {func : Option Addr} {code : Value} {around : Env} {builtins : Addr} {Q : Env → Shared → Prop}
    (h : Q (newEnv scope s.heap.objs.size globals (cellsFrom (s.heap.objs.size + 1) scope.names closure) qual func code (some around) builtins)
      { s with heap := pushCells (s.heap.push { cls := .type "dict", data := .dict #[] }) scope.names }) :
    wpAny M A (newFunctionEnv scope globals closure [] qual func code (some around) builtins) Q E s := by
  simp only [newFunctionEnv, Option.isSome_some, if_true]
  refine wpAny_bind (wpAny_alloc ?_)
  refine wpAny_bind (wpAny_layCells _ (fun n k c => rfl) scope.names closure _ _ ?_)
  rw [show ({ s with heap := s.heap.push { cls := .type "dict", data := .dict #[] } } : Shared).heap.objs.size = s.heap.objs.size + 1 from Heap.size_push ..]
  rw [List.forIn_nil]
  exact wpAny_bind (wpAny_pure (wpAny_pure h))
/-- every name of the written scope, in the scope that runs -/
theorem lookup_relS {sc : Scope} : ∀ {names : List (Str × NameKind)} {x : Str} {k : NameKind},
    (names.map fun (n, k) => if (k == NameKind.free && sc.kind == .function && sc.names.lookup n == some .cell) then (n, NameKind.cell) else (n, k)).lookup x = some k →
    ∃ k', names.lookup x = some k' ∧ (k = k' ∨ (k' = .free ∧ k = .cell))
  | [], _, _, h => by simp at h
  | (n, k₀) :: r, x, k, h => by
    have ih := @lookup_relS sc r x k
    have h' : List.lookup x ((if (k₀ == NameKind.free && sc.kind == .function && sc.names.lookup n == some .cell) = true then (n, NameKind.cell) else (n, k₀)) :: (r.map _)) = some k := h
    cases hx : x == n with
    | true =>
      simp only [List.lookup_cons, hx]
      by_cases hc : (k₀ == NameKind.free && sc.kind == .function && sc.names.lookup n == some .cell) = true
      · rw [if_pos hc] at h'
        simp only [List.lookup_cons, hx] at h'
        cases h'
        simp only [Bool.and_eq_true, beq_iff_eq] at hc
        exact ⟨k₀, rfl, .inr ⟨hc.1.1, rfl⟩⟩
      · rw [if_neg hc] at h'
        simp only [List.lookup_cons, hx] at h'
        cases h'
        exact ⟨_, rfl, .inl rfl⟩
    | false =>
      simp only [List.lookup_cons, hx]
      by_cases hc : (k₀ == NameKind.free && sc.kind == .function && sc.names.lookup n == some .cell) = true
      · rw [if_pos hc] at h'
        simp only [List.lookup_cons, hx] at h'
        exact ih h'
      · rw [if_neg hc] at h'
        simp only [List.lookup_cons, hx] at h'
        exact ih h'
/-- the names of a comprehension's block: its own (with their places in N), or captured -/
structure BlkOk (N : List Str) (sc scope : Scope) (own : List (Str × Nat)) : Prop where
  kind : scope.kind = .function
  uniq : ∀ y ∈ scope.names, scope.names.lookup y.1 = some y.2
  ix : ∀ p ∈ own, N[p.2]? = some p.1
  free : ∀ y ∈ scope.names, y.2 = .free → sc.names.lookup y.1 = some .cell ∨ sc.names.lookup y.1 = some .free
  own : ∀ y ∈ scope.names, y.2 = .local ∨ y.2 = .cell → y.1 ∈ own.map (·.1) ∨ y.1 ∉ N
/-- the slots of the block's own names forgotten -/
def wipe (σ : St) : List Nat → St
  | [] => σ
  | v :: vs => (wipe σ vs).set v none
theorem wipe_length (σ : St) : ∀ vs : List Nat, (wipe σ vs).length = σ.length
  | [] => rfl
  | v :: vs => by unfold wipe; rw [List.length_set, wipe_length σ vs]
theorem wipe_some {σ : St} {i : Nat} {x : V} : ∀ {vs : List Nat}, (wipe σ vs)[i]? = some (some x) → σ[i]? = some (some x) ∧ i ∉ vs
  | [], h => ⟨h, by simp⟩
  | v :: vs, h => by
    unfold wipe at h
    by_cases hi : v = i
    · subst hi
      by_cases hv : v < (wipe σ vs).length
      · rw [List.getElem?_set_self hv] at h; cases h
      · rw [List.getElem?_eq_none (by simpa using hv)] at h; cases h
    · rw [List.getElem?_set_ne hi] at h
      obtain ⟨h1, h2⟩ := wipe_some h
      exact ⟨h1, by simp only [List.mem_cons, not_or]; exact ⟨fun e => hi e.symm, h2⟩⟩
/-- the context of a block that starts at s, its iterator's objects at fp -/
abbrev Cx.blk (X : Cx) (s : Shared) (H : Hp) (scope : Scope) (cenv : Env) (fp : List Addr) : Cx := { X with s_0 := s, H_0 := H, env := cenv, outer := X.stack, ex := fp, fn := fun x => scope.names.lookup x == some .cell, pn := [], xe := fun _ _ => False }
section
variable {X : Cx} {pins : List (Addr × Obj)} {σ : St} {H : Hp} {s : Shared}
theorem block_start {scope : Scope} {own : List (Str × Nat)} {fp : List Addr} (I : Inv X pins σ H s) (ok : BlkOk X.N X.env.scope scope own) (hN : X.N.Nodup) (hfp : ∀ b ∈ fp, FpOk X pins H b ∧ b < s.heap.objs.size) :
    Inv (X.blk s H scope (compEnvC scope (cellsFrom (s.heap.objs.size + 1) scope.names (cloFrom X.env.cells scope.names [])) s.heap.objs.size X.env) fp) [] (wipe σ (own.map (·.2))) H { s with heap := pushCells (s.heap.push { cls := .type "dict", data := .dict #[] }) scope.names } := by
  have hfree : ∀ y ∈ scope.names, y.2 = .free → ∃ c, X.env.cells.lookup y.1 = some c := fun y hy e => by
    rcases ok.free y hy e with k | k
    · exact I.ok.has _ (.inl k)
    · exact I.ok.has _ (.inr k)
  generalize hcenv : compEnvC scope (cellsFrom (s.heap.objs.size + 1) scope.names (cloFrom X.env.cells scope.names [])) s.heap.objs.size X.env = cenv
  have kp : ∀ b o, s.heap.get? b = some o → (pushCells (s.heap.push { cls := .type "dict", data := .dict #[] }) scope.names).get? b = some o := fun b o e => pushCells_keeps _ _ _ _ (Heap.get?_push_of_some _ e)
  have hL : cenv.locals = s.heap.objs.size := by rw [← hcenv]; rfl
  have hcl : cenv.cells = cellsFrom (s.heap.objs.size + 1) scope.names (cloFrom X.env.cells scope.names []) := by rw [← hcenv]; rfl
  have hsc : cenv.scope = relS scope X.env.scope := by rw [← hcenv]; rfl
  rw [← Heap.size_push s.heap { cls := .type "dict", data := .dict #[] }] at hcl
  have cm : ∀ {y c}, (y, c) ∈ cloFrom X.env.cells scope.names [] → X.env.cells.lookup y = some c ∧ c < s.heap.objs.size := fun {y c} hm => by
    rcases cloFrom_mem hm with hm | ⟨h1, rfl⟩
    · cases hm
    · obtain ⟨c, hc⟩ := hfree _ h1 rfl
      rw [hc]
      obtain ⟨w, z⟩ := I.cell _ _ hc
      exact ⟨rfl, z.lt⟩
  have mem : ∀ {y c}, cenv.cells.lookup y = some c → (X.env.cells.lookup y = some c ∧ c < s.heap.objs.size) ∨ (s.heap.objs.size + 1 ≤ c ∧ CellAt (pushCells (s.heap.push { cls := .type "dict", data := .dict #[] }) scope.names) c none) := fun {y c} e => by
    rw [hcl] at e
    rcases cells_mem (PySem.mem_of_lookup e) with hm | ⟨_, h2, h3⟩
    · exact .inl (cm hm)
    · rw [Heap.size_push] at h2; exact .inr ⟨h2, h3⟩
  have look : ∀ {y}, scope.names.lookup y = some .free → ∃ c, cenv.cells.lookup y = some c ∧ X.env.cells.lookup y = some c := fun {y} hl => by
    have hy : (y, NameKind.free) ∈ scope.names := PySem.mem_of_lookup hl
    obtain ⟨c', e'⟩ := mem_lookup (cells_acc (names := scope.names) (n := (s.heap.push { cls := .type "dict", data := .dict #[] }).objs.size) (cloFrom_has (cells := X.env.cells) (acc := []) hy))
    rw [← hcl] at e'
    refine ⟨c', e', ?_⟩
    rw [hcl] at e'
    rcases cells_mem (PySem.mem_of_lookup e') with hm | ⟨h1, _, _⟩
    · exact (cm hm).1
    · have := ok.uniq _ h1
      rw [hl] at this; cases this
  have okB : (X.blk s H scope cenv fp).Ok := by
    refine ⟨I.ok.mod, by show cenv.scope.kind = _; rw [hsc]; exact ok.kind, by show cenv.globals = _; rw [← hcenv]; exact I.ok.glob, by show cenv.builtins = _; rw [← hcenv]; exact I.ok.blt, by show s.heap.objs.size ≤ cenv.locals; rw [hL]; exact Nat.le_refl _,
      fun y z c e1 e2 => ?_, fun y hy => ?_, fun y c z e => ?_, I.ok.hd, I.ok.frames, .inl rfl, fun b hb => ⟨?_, fun y c e z => ?_⟩, I.bs, Nat.le_trans I.ok.bsz I.sz, fun b o e hb => ?_, fun b hb z => ?_, I.stack, I.stkFree⟩
    · have e1 : cenv.cells.lookup y = some c := e1
      have e2 : cenv.cells.lookup z = some c := e2
      rw [hcl] at e1 e2
      refine cells_inj (fun p hp => ?_) (fun y z c a b => I.ok.inj y z c (cm a).1 (cm b).1) (PySem.mem_of_lookup e1) (PySem.mem_of_lookup e2)
      rw [Heap.size_push]
      exact Nat.lt_succ_of_lt (cm (y := p.1) (c := p.2) hp).2
    · show ∃ c, cenv.cells.lookup y = some c
      have key : ∀ k, cenv.kindOf y = some k → (k = .cell ∨ k = .free) → ∃ c, cenv.cells.lookup y = some c := fun k hk hk' => by
        unfold Env.kindOf at hk
        rw [hsc] at hk
        obtain ⟨k', e, r⟩ := lookup_relS hk
        have : k' = .cell ∨ k' = .free := by
          rcases r with rfl | ⟨rfl, _⟩
          · exact hk'
          · exact .inr rfl
        rcases this with rfl | rfl
        · obtain ⟨c, hm⟩ := cells_has (n := (s.heap.push { cls := .type "dict", data := .dict #[] }).objs.size) (acc := cloFrom X.env.cells scope.names []) (PySem.mem_of_lookup e)
          obtain ⟨c', e'⟩ := mem_lookup hm
          exact ⟨c', by rw [hcl]; exact e'⟩
        · obtain ⟨c, h1, _⟩ := look e
          exact ⟨c, h1⟩
      rcases hy with hy | hy
      · exact key _ hy (.inl rfl)
      · exact key _ hy (.inr rfl)
    · have z : (scope.names.lookup y == some NameKind.cell) = true := z
      have z : scope.names.lookup y = some .cell := by simpa using z
      have e : cenv.cells.lookup y = some c := e
      rw [hcl] at e
      rcases cells_mem (PySem.mem_of_lookup e) with hm | ⟨_, h2, _⟩
      · rcases cloFrom_mem hm with hm | ⟨h1, _⟩
        · cases hm
        · have q := ok.uniq _ h1
          rw [z] at q; cases q
      · rw [Heap.size_push] at h2
        exact Nat.le_of_succ_le h2
    · show b ≠ cenv.locals
      rw [hL]; exact Nat.ne_of_lt (hfp b hb).2
    · have e : cenv.cells.lookup y = some c := e
      rcases mem e with ⟨h1, _⟩ | ⟨h1, _⟩
      · exact (hfp b hb).1.2.2.2.2.1 y c h1 z
      · have h2 : s.heap.objs.size + 1 ≤ b := by rw [← z]; exact h1
        exact absurd (Nat.lt_of_lt_of_le (hfp b hb).2 (Nat.le_of_succ_le h2)) (Nat.lt_irrefl _)
    · rcases (hfp b hb).1.2.2.2.1 with z | z
      · exact I.ok.noex b o e z
      · exact absurd (Nat.lt_of_lt_of_le (Heap.lt_size e) (Nat.le_trans I.ok.bsz z)) (Nat.lt_irrefl _)
    · rcases List.mem_cons.mp (I.stkSub b z) with z | z
      · exact (hfp b hb).1.2.1 z
      · exact (hfp b hb).1.2.2.1 z
  refine ⟨okB, rfl, I.bare, Un.kept kp, ⟨fun _ => none, ?_, fun i y av e1 e2 e3 => ?_⟩, fun y c e => ?_, ?_, fun y c e => ?_, fun p hp => ?_, I.hok.kept kp, by rw [wipe_length]; exact I.len⟩
  · show Heap.Ns _ cenv.locals _
    rw [hL]
    exact Heap.Ns.keeps (Heap.Ns.new ..) fun b o e => pushCells_keeps _ _ _ _ e
  · obtain ⟨e2, hne⟩ := wipe_some e2
    have hfr : scope.names.lookup y = some .free ∧ (cenv.kindOf y = some .cell ∨ cenv.kindOf y = some .free) := by
      have key : ∀ k, cenv.scope.names.lookup y = some k → k = .local ∨ k = .cell ∨ k = .free → scope.names.lookup y = some .free ∧ (cenv.kindOf y = some .cell ∨ cenv.kindOf y = some .free) := fun k hk hk' => by
        have hk0 := hk
        rw [hsc] at hk
        obtain ⟨k', e, r⟩ := lookup_relS hk
        have no : ¬ (k' = .local ∨ k' = .cell) := fun hh => by
          rcases ok.own _ (PySem.mem_of_lookup e) hh with e' | e'
          · obtain ⟨p, hp, hpy⟩ := List.mem_map.mp e'
            have e3 := ok.ix p hp
            have : p.1 = y := hpy
            rw [this] at e3
            exact hne (List.mem_map.mpr ⟨p, hp, nodup_ix hN e3 e1⟩)
          · exact e' (List.mem_of_getElem? e1)
        rcases r with rfl | ⟨rfl, rfl⟩
        · rcases hk' with rfl | rfl | rfl
          · exact absurd (.inl rfl) no
          · exact absurd (.inr rfl) no
          · exact ⟨e, .inr hk0⟩
        · exact ⟨e, .inl hk0⟩
      have e3 : Vis cenv.scope y := e3
      rcases e3 with e3 | e3 | e3
      · exact key _ e3 (.inl rfl)
      · exact key _ e3 (.inr (.inl rfl))
      · exact key _ e3 (.inr (.inr rfl))
    obtain ⟨m, hn, hl⟩ := I.loc
    have hvis : Vis X.env.scope y := (ok.free _ (PySem.mem_of_lookup hfr.1) rfl).elim (fun k => .inr (.inl k)) (fun k => .inr (.inr k))
    obtain ⟨w, r, q⟩ := hl i y av e1 e2 hvis
    refine ⟨w, r, .inr ⟨hfr.2, ?_⟩⟩
    obtain ⟨c, h1, h2⟩ := look hfr.1
    rcases q with ⟨k, _⟩ | ⟨_, c', e', z⟩
    · have k : X.env.scope.names.lookup y = some .local := k
      rcases ok.free _ (PySem.mem_of_lookup hfr.1) rfl with k' | k' <;> rw [show X.env.scope.names.lookup y = _ from k'] at k <;> cases k
    · rw [h2] at e'; cases e'
      exact ⟨c, h1, z.keeps kp⟩
  · have e : cenv.cells.lookup y = some c := e
    rcases mem e with ⟨h1, _⟩ | ⟨_, z⟩
    · obtain ⟨w, z⟩ := I.cell y c h1
      exact ⟨w, z.keeps kp⟩
    · exact ⟨_, z⟩
  · show H cenv.locals = none
    rw [hL]; exact I.hok.fresh (Nat.le_refl _)
  · have e : cenv.cells.lookup y = some c := e
    rcases mem e with ⟨h1, _⟩ | ⟨h1, _⟩
    · exact I.freeC y c h1
    · exact I.hok.fresh (Nat.le_of_succ_le h1)
  · exact absurd (show p ∈ ([] : List (Addr × Obj)) ++ [] from hp) (by simp)
/-- an item appended to a tracked list -/
theorem app_ok {E : Value → Shared → Prop} {D : Addr} {xs : List V} {y : V} {v : Value} {Q : Value → Shared → Prop} (I : Inv X pins σ H s) (hD : H D = some (.lst xs)) (hz : xs.length < sizeLine) (r : RelV y v)
    (h : ∀ s', Inv X pins σ (upd H D (.lst (xs ++ [y]))) s' → Q .none s') : wpAny (model X.prog X.w) X.A (call (.builtin "list.append") [.ref D, v]) Q E s := by
  obtain ⟨hz', its, n, ri, e⟩ := I.hok D _ hD
  have hl := ri.length
  refine append_at (hsz := by rw [List.size_toArray]; omega) e fun h' sb ho' => ?_
  refine h { s with heap := h' } (I.write (t' := s.toks) (by rw [hD]; trivial) (.inl rfl) (fun b u hb q => (sb.2 b hb).trans q) ⟨_, ho'⟩ ⟨by rw [List.length_append]; exact hz, its ++ [v], n + 1, ri.append (.cons r .nil), ?_⟩)
  rw [ho']
  simp
/-- a clause's tests -/
def PTs (X : Cx) (ifs : List Expr) (t : TT) : Prop :=
  ∀ (pins : List (Addr × Obj)) (s : Shared) (σ : St) (H : Hp) (Q : Bool → Hp → Prop), Inv X pins σ H s → t σ H Q →
    wpAny (model X.prog X.w) X.A (forIn ifs true fun c r => if r = true then do let ok ← isTrue c X.env (eval c X.env); pure (ForInStep.yield ok) else pure (ForInStep.yield r)) (TP X pins σ Q) X.xe s
def tYes : TT := fun _ H Q => Q true H
theorem pts_nil : PTs X [] tYes := fun _ _ _ H _ I h => wpAny_tests_nil ⟨H, I, h⟩
theorem pts_one {c : Expr} {t : TT} (h : PT X c t) : PTs X [c] t := fun pins s σ H Q I hw => wpAny_tests_one (h pins s σ H Q I hw)
end
theorem thnF {α : Type} {t : Sem α} {Q Q' : α → Shared → Prop} {M : Model} {A : Around} {E : Value → Shared → Prop} {s : Shared} (h : wpAny M A t Q (fun _ _ => False) s) (hQ : ∀ a s, Q a s → Q' a s) : wpAny M A t Q' E s := wpAny_mono h hQ fun _ _ z => False.elim z
/-- the loop of a list comprehension's block, the target of any form (codeAny_compLoop_tests asks a target that no tuple goes to; statement and proof follow it, PyProof/CompMap.lean:41-61, with the step letOwnedTupleGo kept) -/
theorem compLoop_any {prog : Program} {w : World} {A : Around} {R : Result → Shared → Prop} {s : Shared} {elt target iter : Expr} {ifs : List Expr} {scope : Scope} {pos : Pos} {it acc : Value} {env : Env} (I : Nat → Shared → Prop)
    (turn : ∀ n s, I n s → wpAny (model prog w) A (pyNext it) (fun r s₁ => match r with
      | none => R (.ok .next) s₁
      | some v => wpAny (model prog w) A (letOwnedTupleGo target it v) (fun _ s₁' => wpAny (model prog w) A (assign target env v) (fun _ s₂ =>
          wpAny (model prog w) A (forIn ifs true fun c r => if r = true then do let ok ← isTrue c env (eval c env); pure (ForInStep.yield ok) else pure (ForInStep.yield r)) (fun ok s₃ =>
            if ok = true then wpAny (model prog w) A (eval elt env) (fun x s₄ =>
              wpAny (model prog w) A (call (.builtin "list.append") [acc, x]) (fun _ s₅ => ∃ m, m < n ∧ I m s₅) (notedBy (model prog w) A env fun e s' => R (.error e) s') s₄) (notedBy (model prog w) A env fun e s' => R (.error e) s') s₃
            else ∃ m, m < n ∧ I m s₃) (notedBy (model prog w) A env fun e s' => R (.error e) s') s₂) (notedBy (model prog w) A env fun e s' => R (.error e) s') s₁') (notedBy (model prog w) A env fun e s' => R (.error e) s') s₁) (notedBy (model prog w) A env fun e s' => R (.error e) s') s)
    (n : Nat) (h : I n s) :
    codeAny (model prog w) A (.compLoop (.ListComp elt [⟨target, iter, ifs, 0⟩] scope pos) 0 it acc env) R s := by
  refine codeAny_loop rfl I (fun n s hI => ?_) n h
  show wpAny _ A ((compTurn (.ListComp elt [⟨target, iter, ifs, 0⟩] scope pos) 0 it acc env).onRaise (fun x => do noteFrame x env; theTreesLotGoes x)) _ _ s
  refine wpAny_noted ?_
  rw [compTurn_list]
  refine wpAny_bind (wpAny_standAt (wpAny_bind (wpAny_mono (turn n s hI) (fun r s₁ h₁ => ?_) fun _ _ h' => h')))
  cases r with
  | none => exact wpAny_pure h₁
  | some v =>
    refine wpAny_bind (wpAny_mono h₁ (fun _ s₁' h₁' => ?_) fun _ _ h' => h')
    refine wpAny_bind (wpAny_mono h₁' (fun _ s₂ h₂ => wpAny_bind (wpAny_mono h₂ (fun ok s₃ h₃ => ?_) fun _ _ h' => h')) fun _ _ h' => h')
    cases ok with
    | false => exact wpAny_pure ⟨rfl, h₃⟩
    | true =>
      exact wpAny_bind (wpAny_bind (wpAny_mono h₃ (fun x s₄ h₄ => wpAny_bind (wpAny_mono h₄ (fun _ s₅ h₅ => wpAny_pure (wpAny_pure ⟨rfl, h₅⟩)) fun _ _ h' => h')) fun _ _ h' => h'))
section
variable {X : Cx}
/-- [elt for target in iter if ..]: D the new list; W by the turn and a measure, Nx what a turn is to reach -/
def tLc (wi : TI) (g : TG) (tt : TT) (te : TE) (vs : List Nat) : TE := fun σ H Q => wi σ H fun J H1 => ∀ D, H1 D = none → ∃ W : Nat → Nat → Hp → Prop, (∃ m, W 0 m (upd H1 D (.lst []))) ∧ ∀ i m H, W i m H →
  (J.stop i H ∧ Q (.ref D) H) ∨ (J.go i H ∧ ∃ Nx : Hp → Prop, (∀ H', Nx H' → ∃ m', m' < m ∧ W (i + 1) m' H') ∧ ∀ x H', J.yld i H x H' → g x (wipe σ vs) H' fun σ2 H2 => wipe σ2 vs = wipe σ vs ∧ tt σ2 H2 fun b H3 =>
    if b = true then te σ2 H3 fun y H4 => ∃ acc, H4 D = some (.lst acc) ∧ acc.length < sizeLine ∧ Nx (upd H4 D (.lst (acc ++ [y]))) else Nx H3)
theorem lc_core {pins : List (Addr × Obj)} {s : Shared} {σ : St} {H : Hp} {Q : VK} {elt tg iter : Expr} {ifs : List Expr} {scope : Scope} {own : List (Str × Nat)} {pos pos' : Pos} {wi : TI} {g : TG} {tt : TT} {te : TE} {use : Option (Value → Sem Unit)} {Qf : Value → Shared → Prop}
    (hc : X.calm = true) (hN : X.N.Nodup) (I : Inv X pins σ H s) (hi : PI X tg iter wi) (ok : BlkOk X.N X.env.scope scope own)
    (hg : ∀ (s : Shared) (H : Hp) (C : Addr) (cl : List (Str × Addr)) (fp : List Addr), PG (X.blk s H scope (compEnvC scope cl C X.env) fp) tg g) (ht : ∀ (s : Shared) (H : Hp) (C : Addr) (cl : List (Str × Addr)) (fp : List Addr), PTs (X.blk s H scope (compEnvC scope cl C X.env) fp) ifs tt)
    (he : ∀ (s : Shared) (H : Hp) (C : Addr) (cl : List (Str × Addr)) (fp : List Addr), PE (X.blk s H scope (compEnvC scope cl C X.env) fp) elt te) (hs : ∀ x, foldedSetIterable iter X.env x = pure x)
    (h : tLc wi g tt te (own.map (·.2)) σ H Q)
    (hRR : ∀ D C s' m H', Inv X pins σ H' s' → Q (.ref D) H' → s'.heap.Ns C m → FpOk X pins H' C → compPost (model X.prog X.w) X.A X.xe use Qf (.ref D) C (.ok .next) s') :
    wpAny (model X.prog X.w) X.A (comprehension (.ListComp elt [⟨tg, iter, ifs, 0⟩] scope pos) scope X.env pos' (newList []) false (eval iter X.env) use) Qf X.xe s := by
  have hfree : ∀ y ∈ scope.names, y.2 = .free → ∃ c, X.env.cells.lookup y.1 = some c := fun y hy e => by
    rcases ok.free y hy e with k | k
    · exact I.ok.has _ (.inl k)
    · exact I.ok.has _ (.inr k)
  refine wpAny_comprehension_free (use := use) rfl hs (closure_ok hfree) ok.kind (fun y hy e => by rw [ok.uniq y hy, e])
    (thn (hi pins s σ H _ I h) fun xv s1 hx => thn hx fun itv s2 h2 => ?_)
  obtain ⟨it, fp, tn, J, H2, e, I2, T, st2, f2, q⟩ := h2
  subst e
  refine wpAny_newObj_type (newEnv_comp ?_) (by show 0 ≤ sizeLine; decide)
  generalize hD : s2.heap.objs.size = D
  have hDn : H2 D = none := I2.hok.fresh (Nat.le_of_eq hD)
  obtain ⟨W, ⟨m0, w0⟩, turn⟩ := q D hDn
  -- the new list
  generalize hs3 : ({ s2 with heap := s2.heap.push { cls := .type "list", data := .seq ([] : List Value).toArray } } : Shared) = s3
  have I3 : Inv X pins σ (upd H2 D (.lst [])) s3 := by
    rw [← hs3]
    refine I2.laid (t' := s2.toks) (fun b o e => Heap.get?_push_of_some _ e) (Nat.le_of_eq hD) ⟨Nat.zero_le _, [], 0, .nil, ?_⟩
    rw [← hD]
    exact Heap.get?_push_size _ rfl
  have h3 : s3.heap = s2.heap.push { cls := .type "list", data := .seq ([] : List Value).toArray } := by rw [← hs3]
  have sz : ∀ b ∈ fp, b < s2.heap.objs.size := fun b hb => by
    obtain ⟨o, e, _⟩ := T.obj _ _ st2 b hb
    exact Heap.lt_size e
  have f3 : ∀ b ∈ fp, FpOk X pins (upd H2 D (.lst [])) b ∧ b < s3.heap.objs.size := fun b hb => by
    have hlt := sz b hb
    refine ⟨⟨?_, (f2 b hb).2⟩, by rw [h3, Heap.size_push]; exact Nat.lt_succ_of_lt hlt⟩
    rw [upd_ne (by rw [← hD]; exact Nat.ne_of_lt hlt)]
    exact (f2 b hb).1
  have st3 : tn 0 s3.heap := T.keep _ _ _ st2 fun b _ o e => by rw [h3]; exact Heap.get?_push_of_some _ e
  have I4 := block_start I3 ok hN f3
  have pg := hg s3 (upd H2 D (.lst [])) s3.heap.objs.size (cellsFrom (s3.heap.objs.size + 1) scope.names (cloFrom X.env.cells scope.names [])) fp
  have pt := ht s3 (upd H2 D (.lst [])) s3.heap.objs.size (cellsFrom (s3.heap.objs.size + 1) scope.names (cloFrom X.env.cells scope.names [])) fp
  have pe := he s3 (upd H2 D (.lst [])) s3.heap.objs.size (cellsFrom (s3.heap.objs.size + 1) scope.names (cloFrom X.env.cells scope.names [])) fp
  show codeAny _ _ (.compStart (.ListComp elt [⟨tg, iter, ifs, 0⟩] scope pos) 0 (.ref it) (.ref D) (compEnvC scope (cellsFrom (s3.heap.objs.size + 1) scope.names (cloFrom X.env.cells scope.names [])) s3.heap.objs.size X.env)) (compPost (model X.prog X.w) X.A X.xe use Qf (.ref D) s3.heap.objs.size) { s3 with heap := pushCells (s3.heap.push { cls := .type "dict", data := .dict #[] }) scope.names }
  have nfp : ∀ b ∈ fp, (upd H2 D (.lst [])) b = none := fun b hb => (f3 b hb).1.1
  generalize hce : compEnvC scope (cellsFrom (s3.heap.objs.size + 1) scope.names (cloFrom X.env.cells scope.names [])) s3.heap.objs.size X.env = ce at I4 pg pt pe ⊢
  have cL : ce.locals = s3.heap.objs.size := by subst hce; rfl
  generalize hH3 : upd H2 D (.lst []) = H3 at I3 I4 pg pt pe w0 nfp f3
  generalize hs4 : ({ s3 with heap := pushCells (s3.heap.push { cls := .type "dict", data := .dict #[] }) scope.names } : Shared) = s4 at I4 ⊢
  have st4 : tn 0 s4.heap := T.keep _ _ _ st3 fun b _ o e => by rw [← hs4]; exact pushCells_keeps _ _ _ _ (Heap.get?_push_of_some _ e)
  have stat : ∀ {σ' : St} {H' : Hp} {s' : Shared}, Inv (X.blk s3 H3 scope ce fp) [] σ' H' s' → (∀ b ∈ fp, H' b = none) → ∀ b ∈ fp, FpOk (X.blk s3 H3 scope ce fp) [] H' b := fun {σ' H' s'} I' hn b hb =>
    ⟨hn b hb, (I'.ok.exf b hb).1, I'.ok.exfs b hb, .inl hb, fun x c e => (I'.ok.exf b hb).2 x c e, fun p hp => absurd (show p ∈ ([] : List (Addr × Obj)) ++ [] from hp) (by simp)⟩
  have loop : codeAny (model X.prog X.w) X.A (.compLoop (.ListComp elt [⟨tg, iter, ifs, 0⟩] scope pos) 0 (.ref it) (.ref D) ce) (compPost (model X.prog X.w) X.A X.xe use Qf (.ref D) s3.heap.objs.size) s4 := by
    refine compLoop_any (fun n s' => ∃ i H', Inv (X.blk s3 H3 scope ce fp) [] (wipe σ (own.map (·.2))) H' s' ∧ tn i s'.heap ∧ (∀ b ∈ fp, H' b = none) ∧ W i n H') ?_ m0 ⟨0, H3, I4, st4, nfp, w0⟩
    rintro n s5 ⟨i, H5, I5, st5, n5, w5⟩
    rcases turn i n H5 w5 with ⟨stop, qq⟩ | ⟨go, Nx, hNx, step⟩
    · have td := T.done (X.blk s3 H3 scope ce fp) rfl rfl rfl hc i [] s5 _ H5 (fun _ _ => False) I5 (stat I5 n5) st5 stop
      refine thnF td fun r s6 ⟨hr, I6⟩ => ?_
      subst hr
      -- back in the def's context
      have I7 : Inv X pins σ H5 s6 := I3.call' (ch := fp) I6.os I6.base I6.hok I6.bare fun b hb => ⟨(f3 b hb).1.2.2.2.1, (f3 b hb).1.2.1, (f3 b hb).1.2.2.2.2.1, (f3 b hb).1.2.2.2.2.2⟩
      have nC : H5 s3.heap.objs.size = none := by
        have z : H5 ce.locals = none := I6.free
        rw [cL] at z
        exact z
      obtain ⟨m, hn, _⟩ := I6.loc
      have hn : s6.heap.Ns ce.locals m := hn
      rw [cL] at hn
      exact hRR D s3.heap.objs.size s6 m H5 I7 qq hn (I3.fpOk (Nat.le_refl _) nC)
    · have ti := T.item (X.blk s3 H3 scope ce fp) rfl rfl rfl hc i [] s5 _ H5 (fun _ _ => False) I5 (stat I5 n5) st5 go
      refine thnF ti fun r s6 ⟨u, hr, h6⟩ => ?_
      subst hr
      refine thnF h6 fun _ s7 ⟨x, H7, I7, r7, y7, st7, n7⟩ => ?_
      have I7' := I7.pinned (stat I7 n7) (T.obj _ _ st7)
      refine thnF (pg _ s7 _ H7 x u _ I7' r7 (step x H7 y7)) fun _ s8 ⟨σ8, H8, I8, hw8, q8⟩ => ?_
      refine thnF (pt _ s8 σ8 H8 _ I8 q8) fun b s9 ⟨H9, I9, q9⟩ => ?_
      -- the turn's end
      have fin : ∀ {s' : Shared} {H' : Hp}, Inv (X.blk s3 H3 scope ce fp) ([] ++ pinsAt fp s7.heap) σ8 H' s' → Nx H' → ∃ m, m < n ∧ ∃ i H', Inv (X.blk s3 H3 scope ce fp) [] (wipe σ (own.map (·.2))) H' s' ∧ tn i s'.heap ∧ (∀ b ∈ fp, H' b = none) ∧ W i m H' := fun {s' H'} I' nx => by
        obtain ⟨m', hm, w'⟩ := hNx H' nx
        have pin' : ∀ b ∈ fp, ∀ o, s7.heap.get? b = some o → s'.heap.get? b = some o ∧ H' b = none := fun b hb o e =>
          let z := I'.pin (b, o) (List.mem_append_right _ (List.mem_append_right _ (mem_pinsAt hb e)))
          ⟨z.1, z.2.1⟩
        have hl : (wipe σ (own.map (·.2))).length = σ8.length := by rw [← hw8, wipe_length]
        refine ⟨m', hm, i + 1, H', (I'.unpinned (pins := [])).weak hl (fun j v e => ?_), T.keep _ _ _ st7 fun b hb o e => (pin' b hb o e).1, fun b hb => ?_, w'⟩
        · rw [← hw8] at e
          exact (wipe_some e).1
        · obtain ⟨o, e, _⟩ := T.obj _ _ st7 b hb
          exact (pin' b hb o e).2
      cases b with
      | false =>
        simp only [Bool.false_eq_true, if_false] at q9 ⊢
        exact fin I9 q9
      | true =>
        simp only [if_true] at q9 ⊢
        refine thnF (pe _ s9 σ8 H9 _ I9 q9) fun z s10 ⟨yv, H10, I10, r10, acc, hD10, hz10, nx⟩ => ?_
        exact app_ok (X := X.blk s3 H3 scope ce fp) I10 hD10 hz10 r10 fun s11 I11 => fin I11 nx
  exact codeAny_compStart_list loop (T.self X.A 0 _ _ _ st4 loop)
/-- as a value -/
theorem pe_lc {elt tg iter : Expr} {ifs : List Expr} {scope : Scope} {own : List (Str × Nat)} {pos : Pos} {wi : TI} {g : TG} {tt : TT} {te : TE} (hc : X.calm = true) (hN : X.N.Nodup) (hi : PI X tg iter wi) (ok : BlkOk X.N X.env.scope scope own)
    (hg : ∀ (s : Shared) (H : Hp) (C : Addr) (cl : List (Str × Addr)) (fp : List Addr), PG (X.blk s H scope (compEnvC scope cl C X.env) fp) tg g) (ht : ∀ (s : Shared) (H : Hp) (C : Addr) (cl : List (Str × Addr)) (fp : List Addr), PTs (X.blk s H scope (compEnvC scope cl C X.env) fp) ifs tt)
    (he : ∀ (s : Shared) (H : Hp) (C : Addr) (cl : List (Str × Addr)) (fp : List Addr), PE (X.blk s H scope (compEnvC scope cl C X.env) fp) elt te) (hs : ∀ x, foldedSetIterable iter X.env x = pure x := by intro _; rfl) :
    PE X (.ListComp elt [⟨tg, iter, ifs, 0⟩] scope pos) (tLc wi g tt te (own.map (·.2))) := by
  intro pins s σ H Q I h
  rw [eval_ListComp]
  refine lc_core hc hN I hi ok hg ht he hs h fun D C s' m H' I' q hn f => ⟨m, hn, fun h'' sb => ?_⟩
  obtain ⟨f0, f1, f2, f3, f4, f5⟩ := f
  exact ⟨.ref D, H', I'.turned (t' := s'.toks) (fun b o hb e => (sb.2 b hb).trans e) f0 f1 f3 f4 f5, rfl, q⟩
/-- name = [..] on one line, the name a local -/
theorem ps_setLc {i : Nat} {y : Str} {py : Pos} {elt tg iter : Expr} {ifs : List Expr} {scope : Scope} {own : List (Str × Nat)} {pos spos : Pos} {wi : TI} {g : TG} {tt : TT} {te : TE} (hc : X.calm = true) (hN : X.N.Nodup) (hy : X.N[i]? = some y) (hyl : X.env.scope.names.lookup y = some .local)
    (hsw : swapsWith (.ListComp elt [⟨tg, iter, ifs, 0⟩] scope pos) (some (.Name y py)) spos.line X.env = pure true) (hi : PI X tg iter wi) (ok : BlkOk X.N X.env.scope scope own)
    (hg : ∀ (s : Shared) (H : Hp) (C : Addr) (cl : List (Str × Addr)) (fp : List Addr), PG (X.blk s H scope (compEnvC scope cl C X.env) fp) tg g) (ht : ∀ (s : Shared) (H : Hp) (C : Addr) (cl : List (Str × Addr)) (fp : List Addr), PTs (X.blk s H scope (compEnvC scope cl C X.env) fp) ifs tt)
    (he : ∀ (s : Shared) (H : Hp) (C : Addr) (cl : List (Str × Addr)) (fp : List Addr), PE (X.blk s H scope (compEnvC scope cl C X.env) fp) elt te) (hs : ∀ x, foldedSetIterable iter X.env x = pure x := by intro _; rfl) :
    PS X (.Assign [.Name y py] (.ListComp elt [⟨tg, iter, ifs, 0⟩] scope pos) spos) (tAsg (tLc wi g tt te (own.map (·.2))) (gName i)) := by
  intro pins s σ H D I h
  rw [exec_Assign_Name_used _ _ _ _ hsw]
  refine wpAny_bind (wpAny_standAt (wpAny_bind ?_))
  show wpAny _ X.A (do let _ ← comprehension (.ListComp elt [⟨tg, iter, ifs, 0⟩] scope pos) scope X.env (firstIterPos [⟨tg, iter, ifs, 0⟩] pos) (newList []) false (eval iter X.env) (some (assign (.Name y py) X.env))) _ _ s
  have h : tLc wi g tt te (own.map (·.2)) σ H (fun x H1 => gName i x σ H1 D.nx) := h
  refine wpAny_bind (thn (lc_core (Qf := fun _ s' => SP X pins D .next s') hc hN I hi ok hg ht he hs h fun L C s' m H' I' q hn f => ?_) fun _ s' hq => wpAny_pure (wpAny_pure hq))
  show wpAny _ _ (assign (.Name y py) X.env (.ref L)) _ _ _
  refine wpAny_assign_Name (store_ok2 (v := V.ref L) I' hN hy (.inl hyl) rfl (fun s2 I2 ⟨a, sb, ha⟩ => ?_) (.inr hyl))
  obtain ⟨f0, f1, f2, f3, f4, f5⟩ := f
  have haC : C ≠ a := by
    rcases ha with z | z
    · rw [z]; exact f1
    · exact fun e => f4 y a z e.symm
  refine ⟨m, hn.sameBut sb haC, fun h3 sb3 => ?_⟩
  exact ⟨_, H', I2.turned (t' := s2.toks) (fun b o hb e => (sb3.2 b hb).trans e) f0 f1 f3 f4 f5, q⟩
theorem sw_true {elt : Expr} {gs : List Comprehension} {scope : Scope} {pos py : Pos} {y : Str} {l : Nat} {env : Env} (hk : env.scope.kind = .function) (hy : env.scope.names.lookup y = some .local) (hl : (py.line == pos.line) = true)
    (ha : (scope.names.any fun (n, k) => n == y && (k == .local || k == .cell)) = false) : swapsWith (.ListComp elt gs scope pos) (some (.Name y py)) l env = pure true := by
  have ky : env.kindOf y = some .local := hy
  have hb : env.blockKind = .function := by unfold Env.blockKind; rw [hk]; rfl
  unfold swapsWith
  simp only [hb, ky, ha, Expr.pos, hl]
  rfl
end
/-- over a list that the block leaves as it is -/
theorem lc_list {K : PySem.W.Frag} {a : Addr} {xs : List V} {g : TG} {tt : TT} {te : TE} {vs : List Nat} {σ : St} {H1 : Hp} {D : Addr} {Qd : Hp → Prop} (Pv : Nat → Hp → Prop) (h0 : Pv 0 (upd H1 D (.lst []))) (hl : ∀ i H, i ≤ xs.length → Pv i H → SqL K H a xs)
    (hs : ∀ i x H, xs[i]? = some x → Pv i H → g x (wipe σ vs) H fun σ2 H2 => wipe σ2 vs = wipe σ vs ∧ tt σ2 H2 fun b H3 =>
      if b = true then te σ2 H3 fun y H4 => ∃ acc, H4 D = some (.lst acc) ∧ acc.length < sizeLine ∧ Pv (i + 1) (upd H4 D (.lst (acc ++ [y]))) else Pv (i + 1) H3) (hd : ∀ H, Pv xs.length H → Qd H) :
    ∃ W : Nat → Nat → Hp → Prop, (∃ m, W 0 m (upd H1 D (.lst []))) ∧ ∀ i m H, W i m H →
      ((Itl K a).stop i H ∧ Qd H) ∨ ((Itl K a).go i H ∧ ∃ Nx : Hp → Prop, (∀ H', Nx H' → ∃ m', m' < m ∧ W (i + 1) m' H') ∧ ∀ x H', (Itl K a).yld i H x H' → g x (wipe σ vs) H' fun σ2 H2 => wipe σ2 vs = wipe σ vs ∧ tt σ2 H2 fun b H3 =>
        if b = true then te σ2 H3 fun y H4 => ∃ acc, H4 D = some (.lst acc) ∧ acc.length < sizeLine ∧ Nx (upd H4 D (.lst (acc ++ [y]))) else Nx H3) := by
  refine ⟨fun i m H => m = xs.length - i ∧ i ≤ xs.length ∧ Pv i H, ⟨xs.length, by simp, Nat.zero_le _, h0⟩, ?_⟩
  rintro i m H ⟨rfl, hi, p⟩
  have q := hl i H hi p
  by_cases hlt : i < xs.length
  · refine .inr ⟨⟨xs, xs[i], q, by simp [hlt]⟩, Pv (i + 1), fun H' p' => ⟨xs.length - (i + 1), by omega, rfl, hlt, p'⟩, fun x H' y => ?_⟩
    obtain ⟨e, y⟩ := y
    subst e
    exact hs i x _ (y xs q) p
  · have e : i = xs.length := by omega
    subst e
    exact .inl ⟨⟨xs, q, Nat.le_refl _⟩, hd H p⟩
def blkC (N : List Str) (sc scope : Scope) (own : List (Str × Nat)) : Bool :=
  (match scope.kind with | .function => true | _ => false) && (scope.names.all fun y => decide (scope.names.lookup y.1 = some y.2)) && (own.all fun p => decide (N[p.2]? = some p.1)) &&
    (scope.names.all fun y => match y.2 with
      | .free => (match sc.names.lookup y.1 with | some .cell => true | some .free => true | _ => false)
      | .local => decide (y.1 ∈ own.map (·.1)) || decide (y.1 ∉ N)
      | .cell => decide (y.1 ∈ own.map (·.1)) || decide (y.1 ∉ N)
      | _ => true)
theorem blkOk_by {N : List Str} {sc scope : Scope} {own : List (Str × Nat)} (h : blkC N sc scope own = true) : BlkOk N sc scope own := by
  unfold blkC at h
  simp only [Bool.and_eq_true, List.all_eq_true, decide_eq_true_eq] at h
  obtain ⟨⟨⟨h1, h2⟩, h3⟩, h4⟩ := h
  refine ⟨?_, h2, h3, fun y hy e => ?_, fun y hy e => ?_⟩
  · split at h1
    · assumption
    · cases h1
  · have q := h4 y hy
    simp only [e] at q
    split at q <;> first | exact .inl (by assumption) | exact .inr (by assumption) | cases q
  · have q := h4 y hy
    rcases e with e | e <;> (simp only [e, Bool.or_eq_true, decide_eq_true_eq] at q; exact q)
end L2
namespace L2
open PySem PySem.Spec PyProof.Rows
end L2
namespace L2
open PySem PySem.Spec PyProof.Rows
section
variable {κ : Type} [DecidableEq κ]
def valV (kvs : List (κ × V)) (k : κ) : Option V := (kvs.find? fun kv => decide (kv.1 = k)).map (·.2)
/-- in its place, or at the end -/
def putK (kvs : List (κ × V)) (k : κ) (v : V) : List (κ × V) :=
  if (kvs.any fun kv => decide (kv.1 = k)) = true then kvs.map (fun kv => if kv.1 = k then (kv.1, v) else kv) else kvs ++ [(k, v)]
theorem valV_pos {p : κ × V} {r : List (κ × V)} {k : κ} (e : p.1 = k) : valV (p :: r) k = some p.2 := by simp [valV, List.find?_cons, e]
theorem valV_neg {p : κ × V} {r : List (κ × V)} {k : κ} (e : ¬ p.1 = k) : valV (p :: r) k = valV r k := by simp [valV, List.find?_cons, e]
theorem valV_any (k : κ) : ∀ kvs : List (κ × V), (kvs.any fun kv => decide (kv.1 = k)) = (valV kvs k).isSome
  | [] => rfl
  | p :: r => by
    rw [List.any_cons]
    by_cases e : p.1 = k
    · simp only [valV_pos e, decide_eq_true e, Bool.true_or, Option.isSome_some]
    · rw [valV_neg e, decide_eq_false e, Bool.false_or]; exact valV_any k r
theorem valV_map (k j : κ) (y : V) : ∀ kvs : List (κ × V), valV (kvs.map fun kv => if kv.1 = k then (kv.1, y) else kv) j = (valV kvs j).map fun x => if j = k then y else x
  | [] => rfl
  | p :: r => by
    have ih := valV_map k j y r
    rw [List.map_cons]
    by_cases h : p.1 = k
    · rw [if_pos h]
      by_cases e : p.1 = j
      · rw [valV_pos (p := (p.1, y)) e, valV_pos e, Option.map_some, if_pos (e.symm.trans h)]
      · rw [valV_neg (p := (p.1, y)) e, valV_neg e, ih]
    · rw [if_neg h]
      by_cases e : p.1 = j
      · rw [valV_pos (p := p) e, valV_pos e, Option.map_some, if_neg (fun z => h (e.trans z))]
      · rw [valV_neg (p := p) e, valV_neg e, ih]
theorem valV_snoc (k j : κ) (y : V) : ∀ kvs : List (κ × V), valV kvs k = none → valV (kvs ++ [(k, y)]) j = if j = k then some y else valV kvs j
  | [], _ => by
    by_cases e : k = j
    · rw [if_pos e.symm]; exact valV_pos (p := (k, y)) e
    · rw [if_neg (fun z => e z.symm)]; exact valV_neg (p := (k, y)) e
  | p :: r, hn => by
    rw [List.cons_append]
    have hk : ¬ p.1 = k := fun z => by rw [valV_pos z] at hn; cases hn
    rw [valV_neg hk] at hn
    have ih := valV_snoc k j y r hn
    by_cases e : p.1 = j
    · rw [valV_pos e, valV_pos e, if_neg (fun z => hk (e.trans z))]
    · rw [valV_neg e, valV_neg e, ih]
theorem valV_put (kvs : List (κ × V)) (k j : κ) (y : V) : valV (putK kvs k y) j = if j = k then some y else valV kvs j := by
  unfold putK
  by_cases a : (kvs.any fun kv => decide (kv.1 = k)) = true
  · rw [if_pos a, valV_map]
    rw [valV_any] at a
    by_cases e : j = k
    · obtain ⟨x, hx⟩ := Option.isSome_iff_exists.mp a
      rw [if_pos e, e, hx, Option.map_some, if_pos rfl]
    · rw [if_neg e]
      cases valV kvs j with
      | none => rfl
      | some x => rw [Option.map_some, if_neg e]
  · rw [if_neg a]
    refine valV_snoc k j y kvs ?_
    rw [valV_any] at a
    cases q : valV kvs k with
    | none => rfl
    | some x => rw [q] at a; exact (a rfl).elim
theorem length_putK (kvs : List (κ × V)) (k : κ) (v : V) : (putK kvs k v).length ≤ kvs.length + 1 := by
  unfold putK
  split
  · rw [List.length_map]; omega
  · rw [List.length_append, List.length_cons, List.length_nil]; omega
theorem putK_new {kvs : List (κ × V)} {k : κ} (v : V) (h : valV kvs k = none) : putK kvs k v = kvs ++ [(k, v)] := by
  unfold putK
  rw [valV_any, h]
  exact if_neg (by decide)
theorem RelO.isSome_eq {o : Option V} {u : Option Value} (r : RelO o u) : o.isSome = u.isSome := by
  cases o with
  | none => cases u with
    | none => rfl
    | some _ => exact (show False from r).elim
  | some _ => cases u with
    | none => exact (show False from r).elim
    | some _ => rfl
theorem RelO.getD {o : Option V} {u : Option Value} {d : V} {d' : Value} (r : RelO o u) (rd : RelV d d') : RelV (o.getD d) (u.getD d') := by
  cases o with
  | none => cases u with
    | none => exact rd
    | some _ => exact (show False from r).elim
  | some _ => cases u with
    | none => exact (show False from r).elim
    | some _ => exact r
/-- raw tables of the same keys -/
theorem KV.val {kvs : List (κ × V)} {vs : List (κ × Value)} (r : KV kvs vs) (k : κ) : RelO (valV kvs k) (valueAt vs k) := by
  unfold KV at r
  induction r with
  | nil => exact True.intro
  | @cons p q ps qs h t ih =>
    obtain ⟨h1, h2⟩ := h
    by_cases e : p.1 = k
    · have e' : q.1 = k := h1.symm.trans e
      have b : valueAt (q :: qs) k = some q.2 := by simp [valueAt, List.find?_cons, e']
      rw [valV_pos e, b]; exact h2
    · have e' : ¬ q.1 = k := fun z => e (h1.trans z)
      have b : valueAt (q :: qs) k = valueAt qs k := by simp [valueAt, List.find?_cons, e']
      rw [valV_neg e, b]; exact ih
theorem KV.any {kvs : List (κ × V)} {vs : List (κ × Value)} (r : KV kvs vs) (k : κ) : (kvs.any fun kv => decide (kv.1 = k)) = vs.any fun kv => decide (kv.1 = k) := by
  unfold KV at r
  induction r with
  | nil => rfl
  | cons h t ih => rw [List.any_cons, List.any_cons, ih, h.1]
theorem KV.repl {kvs : List (κ × V)} {vs : List (κ × Value)} (r : KV kvs vs) (k : κ) {y : V} {u : Value} (ry : RelV y u) :
    KV (kvs.map fun kv => if kv.1 = k then (kv.1, y) else kv) (vs.map fun kv => if kv.1 = k then (kv.1, u) else kv) := by
  unfold KV at r ⊢
  induction r with
  | nil => exact .nil
  | @cons p q ps qs h t ih =>
    rw [List.map_cons, List.map_cons]
    refine .cons ?_ ih
    obtain ⟨h1, h2⟩ := h
    by_cases e : p.1 = k
    · rw [if_pos e, if_pos (h1.symm.trans e)]; exact ⟨h1, ry⟩
    · rw [if_neg e, if_neg (fun z => e (h1.trans z))]; exact ⟨h1, h2⟩
theorem KV.put {kvs : List (κ × V)} {vs : List (κ × Value)} (r : KV kvs vs) (k : κ) {y : V} {u : Value} (ry : RelV y u) : KV (putK kvs k y) (stored vs k u) := by
  unfold putK stored
  rw [r.any k]
  by_cases e : (vs.any fun kv => decide (kv.1 = k)) = true
  · rw [if_pos e, if_pos e]; exact r.repl k ry
  · rw [if_neg e, if_neg e]; exact Paired.snoc r ⟨rfl, ry⟩
theorem KV.length {kvs : List (κ × V)} {vs : List (κ × Value)} (r : KV kvs vs) : kvs.length = vs.length := Paired.length r
end
theorem kV_is {P : Program} {w : World} {k : Key} {u : Value} (r : RelV (kV k) u) : (mixKind P w).is k u = true := by
  cases k with
  | inl i => obtain ⟨t, e⟩ := (show ∃ t, u = Value.int i t from r); subst e; exact mixKind_int P w i t
  | inr x => obtain ⟨t, e⟩ := (show ∃ t, u = Value.str x t from r); subst e; exact mixKind_str P w x t
theorem items_are {P : Program} {w : World} : ∀ {ks : List Key} {us : List Value}, Vals (ks.map kV) us → ItemsAre (mixKind P w) ks us
  | [], _, r => by rw [List.map_nil] at r; cases r; exact .nil
  | k :: ks, _, r => by
    rw [List.map_cons] at r
    cases r with
    | cons h t => exact .cons (kV_is h) (items_are t)
/-- raw entries of a dict with tuple keys -/
abbrev KT (H : Hp) : List (List Key × V) → List (List Key × Addr × Value) → Prop := Paired fun p q => p.1 = q.1 ∧ H q.2.1 = some (.tup (p.1.map kV)) ∧ RelV p.2 q.2.2
theorem KT.val {H : Hp} {kvs : List (List Key × V)} {xs : List (List Key × Addr × Value)} (r : KT H kvs xs) (k : List Key) : RelO (valV kvs k) ((atKey xs k).map (·.2)) := by
  induction r with
  | nil => exact True.intro
  | @cons p q ps qs h t ih =>
    obtain ⟨h1, _, h2⟩ := h
    by_cases e : p.1 = k
    · have e' : q.1 = k := h1.symm.trans e
      have b : atKey (q :: qs) k = some q.2 := by simp [atKey, List.find?_cons, e']
      rw [valV_pos e, b]; exact h2
    · have e' : ¬ q.1 = k := fun z => e (h1.trans z)
      have b : atKey (q :: qs) k = atKey qs k := by simp [atKey, List.find?_cons, e']
      rw [valV_neg e, b]; exact ih
theorem KT.repl {H : Hp} {kvs : List (List Key × V)} {xs : List (List Key × Addr × Value)} (r : KT H kvs xs) (k : List Key) {y : V} {u : Value} (ry : RelV y u) :
    KT H (kvs.map fun kv => if kv.1 = k then (kv.1, y) else kv) (xs.map (putAt k u)) := by
  induction r with
  | nil => exact .nil
  | @cons p q ps qs h t ih =>
    rw [List.map_cons, List.map_cons]
    refine .cons ?_ ih
    obtain ⟨h1, h2, h3⟩ := h
    unfold putAt
    by_cases e : p.1 = k
    · rw [if_pos e, if_pos (h1.symm.trans e)]; exact ⟨h1, h2, ry⟩
    · rw [if_neg e, if_neg (fun z => e (h1.trans z))]; exact ⟨h1, h2, h3⟩
theorem KT.put {H : Hp} {kvs : List (List Key × V)} {xs : List (List Key × Addr × Value)} (r : KT H kvs xs) (k : List Key) {b : Addr} {y : V} {u : Value} (hb : H b = some (.tup (k.map kV))) (ry : RelV y u) :
    KT H (putK kvs k y) (storedH xs k b u) := by
  have e : (kvs.any fun kv => decide (kv.1 = k)) = (atKey xs k).isSome := by
    rw [valV_any, (r.val k).isSome_eq, Option.isSome_map]
  unfold putK storedH
  rw [e]
  by_cases q : (atKey xs k).isSome = true
  · rw [if_pos q, if_pos q]; exact r.repl k ry
  · rw [if_neg q, if_neg q]; exact Paired.snoc r ⟨rfl, hb, ry⟩
theorem KT.keeps {H H' : Hp} {kvs : List (List Key × V)} {xs : List (List Key × Addr × Value)} (r : KT H kvs xs) (ht : ∀ b ys, H b = some (.tup ys) → H' b = some (.tup ys)) : KT H' kvs xs :=
  Paired.mapP r fun _ _ z => ⟨z.1, ht _ _ z.2.1, z.2.2⟩
section
variable {P : Program} {w : World} {H : Hp} {h : Heap} {a : Addr}
theorem rd_of {u : HO} (ok : HOk P w H h) (e : Rd H a u) : ObjOk P w H h a u := e.ok ok
theorem dk_rd {kvs : List (Key × V)} (ok : HOk P w H h) (e : Rd H a (.dK kvs)) : kvs.length ≤ sizeLine ∧ (a == sysModules) = false ∧ ∃ vs, KV kvs vs ∧ h.DictOf (mixKind P w) a vs :=
  show ObjOk P w H h a (.dK kvs) from rd_of ok e
theorem dk_of {kvs : List (Key × V)} (ok : HOk P w H h) (e : H a = some (.dK kvs)) : kvs.length ≤ sizeLine ∧ (a == sysModules) = false ∧ ∃ vs, KV kvs vs ∧ h.DictOf (mixKind P w) a vs := dk_rd ok (.inl e)
/-- a tracked tuple of ints and texts is a key -/
theorem key_of {ks : List Key} (ok : HOk P w H h) (e : H a = some (.tup (ks.map kV))) : (tupleKind (mixKind P w)).is h ks a := by
  obtain ⟨_, its, r, o, h1, h2, n, h3⟩ := (show ObjOk P w H h a (.tup (ks.map kV)) from ok a _ e)
  exact ⟨o, its.toArray, n, h1, h2, h3, by simpa using items_are r⟩
theorem dt_rd {kvs : List (List Key × V)} (ok : HOk P w H h) (e : Rd H a (.dT kvs)) : kvs.length ≤ sizeLine ∧ (a == sysModules) = false ∧
    ∃ xs, KT H kvs xs ∧ h.DictOfH (tupleKind (mixKind P w)) a xs := by
  obtain ⟨z, y, xs, r, o, es, ep, h1, h2, h3, h4, h5⟩ := (show ObjOk P w H h a (.dT kvs) from rd_of ok e)
  refine ⟨z, y, xs, r, o, es, ep, h1, h2, h3, h4, fun x hx => ?_, h5⟩
  have all : ∀ {l : List (List Key × V)} {m : List (List Key × Addr × Value)}, KT H l m → ∀ x ∈ m, (tupleKind (mixKind P w)).is h x.1 x.2.1 := by
    intro l m q
    induction q with
    | nil => intro x hx; exact nomatch hx
    | @cons p q ps qs hq t ih =>
      intro x hx
      rcases List.mem_cons.mp hx with e | hx
      · subst e
        exact key_of ok (by rw [← hq.1]; exact hq.2.1)
      · exact ih x hx
  exact all r x hx
theorem dt_of {kvs : List (List Key × V)} (ok : HOk P w H h) (e : H a = some (.dT kvs)) : kvs.length ≤ sizeLine ∧ (a == sysModules) = false ∧
    ∃ xs, KT H kvs xs ∧ h.DictOfH (tupleKind (mixKind P w)) a xs := dt_rd ok (.inl e)
end
/-- what the dict at a holds at the key y -/
def DGet (H : Hp) (a : Addr) (y : V) (r : Option V) : Prop :=
  (∃ kvs k, Rd H a (.dK kvs) ∧ y = kV k ∧ r = valV kvs k) ∨ ∃ kvs k b, Rd H a (.dT kvs) ∧ y = .ref b ∧ H b = some (.tup (k.map kV)) ∧ r = valV kvs k
/-- the heap behind a[y] = v -/
def DPut (H : Hp) (a : Addr) (y v : V) (H' : Hp) : Prop :=
  (∃ kvs k, H a = some (.dK kvs) ∧ y = kV k ∧ kvs.length < sizeLine ∧ H' = upd H a (.dK (putK kvs k v))) ∨
  ∃ kvs k b, H a = some (.dT kvs) ∧ y = .ref b ∧ H b = some (.tup (k.map kV)) ∧ kvs.length < sizeLine ∧ H' = upd H a (.dT (putK kvs k v))
theorem DGet.k {H : Hp} {a : Addr} {kvs : List (Key × V)} {k : Key} (e : H a = some (.dK kvs)) : DGet H a (kV k) (valV kvs k) := .inl ⟨kvs, k, .inl e, rfl, rfl⟩
theorem DPut.k {H : Hp} {a : Addr} {kvs : List (Key × V)} {k : Key} {v : V} (e : H a = some (.dK kvs)) (hl : kvs.length < sizeLine) : DPut H a (kV k) v (upd H a (.dK (putK kvs k v))) := .inl ⟨kvs, k, e, rfl, hl, rfl⟩
section
variable {X : Cx} {pins : List (Addr × Obj)} {σ : St} {H : Hp} {s : Shared} {a : Addr} {y v : V} {u r : Value} {o : Option V} {A : Around} {E : Value → Shared → Prop}
theorem Inv.big (I : Inv X pins σ H s) : sysModules < s.heap.objs.size := by
  have h : mainGlobals < s.heap.objs.size := (I.mod.glob.keeps I.bk).lt
  exact Nat.lt_trans (by decide) h
/-- d[y], there -/
theorem d_getItem {Q : Value → Shared → Prop} (hu : A.units + 1 < cLine) (I : Inv X pins σ H s) (g : DGet H a y (some v)) (ry : RelV y u) (h : ∀ w' s', Inv X pins σ H s' → RelV v w' → Q w' s') :
    wpAny (model X.prog X.w) A (getItem (.ref a) u) Q E s := by
  rcases g with ⟨kvs, k, e, ey, l⟩ | ⟨kvs, k, b, e, ey, eb, l⟩
  · subst ey
    obtain ⟨z, hd, vs, rel, dd⟩ := dk_rd I.hok e
    obtain ⟨w', hw, rw'⟩ := RelO.some_of (v := v) (o := valueAt vs k) (by rw [l]; exact rel.val k)
    exact wpAny_getItem_of (kV_is ry) dd.mapOf hw (h w' _ (I.tok _) rw')
  · subst ey
    cases (show u = Value.ref b from ry)
    obtain ⟨z, hd, xs, rel, dd⟩ := dt_rd I.hok e
    obtain ⟨w', hw, rw'⟩ := RelO.some_of (v := v) (o := (atKey xs k).map (·.2)) (by rw [l]; exact rel.val k)
    obtain ⟨p, hp, hp2⟩ := Option.map_eq_some_iff.mp hw
    refine wpAny_getItem_heap (tupleKind_room_in1 hu) (key_of I.hok eb) dd hp ?_
    rw [hp2]
    exact h w' _ (I.tok _) rw'
/-- y in d -/
theorem d_in {Q : Value → Shared → Prop} (hu : A.units + 1 < cLine) (I : Inv X pins σ H s) (g : DGet H a y o) (ry : RelV y u) (h : ∀ s', Inv X pins σ H s' → Q (.bool o.isSome) s') :
    wpAny (model X.prog X.w) A (compareOp .In u (.ref a)) Q E s := by
  rcases g with ⟨kvs, k, e, ey, l⟩ | ⟨kvs, k, b, e, ey, eb, l⟩
  · subst ey
    obtain ⟨z, hd, vs, rel, dd⟩ := dk_rd I.hok e
    refine wpAny_in_of (kV_is ry) hd dd.mapOf ?_
    rw [← (rel.val k).isSome_eq, ← l]
    exact h _ (I.tok _)
  · subst ey
    cases (show u = Value.ref b from ry)
    obtain ⟨z, hd, xs, rel, dd⟩ := dt_rd I.hok e
    refine wpAny_in_heap (tupleKind_room_in1 hu) (key_of I.hok eb) hd dd ?_
    have q := (rel.val k).isSome_eq
    rw [Option.isSome_map] at q
    rw [← q, ← l]
    exact h _ (I.tok _)
theorem d_notIn {Q : Value → Shared → Prop} (hu : A.units + 1 < cLine) (I : Inv X pins σ H s) (g : DGet H a y o) (ry : RelV y u) (h : ∀ s', Inv X pins σ H s' → Q (.bool (!o.isSome)) s') :
    wpAny (model X.prog X.w) A (compareOp .NotIn u (.ref a)) Q E s := by
  rcases g with ⟨kvs, k, e, ey, l⟩ | ⟨kvs, k, b, e, ey, eb, l⟩
  · subst ey
    obtain ⟨z, hd, vs, rel, dd⟩ := dk_rd I.hok e
    refine wpAny_notIn_of (kV_is ry) hd dd.mapOf ?_
    rw [← (rel.val k).isSome_eq, ← l]
    exact h _ (I.tok _)
  · subst ey
    cases (show u = Value.ref b from ry)
    obtain ⟨z, hd, xs, rel, dd⟩ := dt_rd I.hok e
    refine wpAny_notIn_heap (tupleKind_room_in1 hu) (key_of I.hok eb) hd dd ?_
    have q := (rel.val k).isSome_eq
    rw [Option.isSome_map] at q
    rw [← q, ← l]
    exact h _ (I.tok _)
/-- a dict's object is replaced -/
theorem d_write {h' : Heap} {t' : Nat} {ob : HO} (I : Inv X pins σ H s) (mu : Mut (H a)) (hs : Heap.SameBut a s.heap h') (he : ∃ q, h'.get? a = some q) (new : ObjOk X.prog X.w (upd H a ob) h' a ob) :
    Inv X pins σ (upd H a ob) { s with heap := h', toks := t' } :=
  I.write (x := a) (e := a) mu (.inl rfl) (fun b q hb z => (hs.2 b hb).trans z) he new
theorem dk_new {P : Program} {w : World} {H' : Hp} {h' : Heap} {kvs : List (Key × V)} {vs : List (Key × Value)} (z : kvs.length ≤ sizeLine) (hd : (a == sysModules) = false) (rel : KV kvs vs) (dd : h'.DictOf (mixKind P w) a vs) :
    ObjOk P w H' h' a (.dK kvs) := ⟨z, hd, vs, rel, dd⟩
/-- d[y] = v -/
theorem d_setItem {H' : Hp} {Q : Unit → Shared → Prop} (hu : A.units + 1 < cLine) (I : Inv X pins σ H s) (g : DPut H a y v H') (ry : RelV y u) (rv : RelV v r) (h : ∀ s', Inv X pins σ H' s' → Q () s') :
    wpAny (model X.prog X.w) A (setItem (.ref a) u r) Q E s := by
  rcases g with ⟨kvs, k, e, ey, l, eH⟩ | ⟨kvs, k, b, e, ey, eb, l, eH⟩
  · subst ey eH
    obtain ⟨z, hd, vs, rel, dd⟩ := dk_of I.hok e
    have hz : vs.length ≤ sizeLine := by rw [← rel.length]; exact z
    have hl : (putK kvs k v).length ≤ sizeLine := by have := length_putK kvs k v; omega
    refine wpAny_setItem_pairs (hsz := hz) (kV_is ry) dd fun h' dd' hs => h _ ?_
    have he : ∃ q, h'.get? a = some q := let ⟨q, _, _, hq, _⟩ := dd'; ⟨q, hq⟩
    exact d_write I (by rw [e]; exact True.intro) hs he (dk_new hl hd (rel.put k rv) dd')
  · subst ey eH
    cases (show u = Value.ref b from ry)
    obtain ⟨z, hd, xs, rel, dd⟩ := dt_of I.hok e
    have hz : xs.length ≤ sizeLine := by rw [← Paired.length rel]; exact z
    have hl : (putK kvs k v).length ≤ sizeLine := by have := length_putK kvs k v; omega
    refine wpAny_setItem_heap (hsz := hz) (tupleKind_room_in1 hu) (key_of I.hok eb) dd fun h' dd' hs => h _ ?_
    obtain ⟨q, es, ep, hq, h2, h3, h4, _, h5⟩ := dd'
    refine d_write I (by rw [e]; exact True.intro) hs ⟨q, hq⟩ ⟨hl, hd, _, (rel.put k eb rv).keeps fun c ys ec => ?_, q, es, ep, hq, h2, h3, h4, h5⟩
    rw [upd_ne (ne_of ec e (fun z => nomatch z))]
    exact ec
end
section
variable {X : Cx} {pins : List (Addr × Obj)} {σ : St} {H : Hp} {s : Shared} {a : Addr} {kvs : List (Key × V)} {k : Key} {u : Value} {A : Around} {E : Value → Shared → Prop}
/-- len(d) -/
theorem d_len {Q : Value → Shared → Prop} (I : Inv X pins σ H s) (e : Rd H a (.dK kvs)) (h : ∀ t s', Inv X pins σ H s' → Q (.int kvs.length t) s') : wpAny (model X.prog X.w) A (call (.builtin "len") [.ref a]) Q E s := by
  obtain ⟨z, hd, vs, rel, dd⟩ := dk_rd I.hok e
  refine call_len_dict hd dd (by rw [← rel.length]; rw [sizeLine_eq] at z; omega) ?_
  rw [← rel.length]
  exact h _ _ (I.tok _)
end
/-- the element of a subscription, not a slice -/
def NoSl (i : Expr) : Prop := ∀ ov iv, subscripted i false ov iv = operate [ov, iv] (getItem ov iv)
theorem subD_of {prog : Program} {w : World} {A : Around} {E : Value → Shared → Prop} {s : Shared} {env : Env} {value slice : Expr} {pos : Pos} {T id : String} {Q : Value → Shared → Prop}
    (hl : typeLookup (.type T) "__getitem__" = pure (some (.builtin id))) (hs : NoSl slice)
    (h : wpAny (model prog w) A (eval value env) (fun o s₁ => wpAny (model prog w) A (eval slice env) (fun i s₂ => s₂.TypeIs o T ∧ wpAny (model prog w) A (getItem o i) Q E s₂) E s₁) E s) :
    wpAny (model prog w) A (eval (.Subscript value slice pos) env) Q E s := by
  refine Subscript_ (wpAny_mono h (fun o s₁ h₁ => wpAny_mono h₁ (fun i s₂ h₂ => ?_) fun _ _ x => x) fun _ _ x => x)
  obtain ⟨hT, h₂⟩ := h₂
  unfold subscriptTail
  refine wpAny_bind ?_
  rw [getitemInPython_of_ne hT.not_modules]
  refine wpAny_bind (wpAny_specialOf hT hl ?_)
  have fin : wpAny (model prog w) A (subscripted slice false o i) (fun r s₃ => wpAny (model prog w) A (letTemporaryGo value o r >>= fun _ => pure r) Q E s₃) E s₂ := by
    rw [hs o i]
    exact wpAny_operating (wpAny_mono h₂ (fun r s₃ h₃ => wpAny_bind (wpAny_letTemporaryGo (wpAny_pure h₃))) fun _ _ x => x)
  first
    | exact wpAny_pure (wpAny_bind fin)
    | exact wpAny_bind (wpAny_pure (wpAny_bind fin))
    | exact wpAny_bind fin
theorem dict_typeIs {X : Cx} {pins : List (Addr × Obj)} {σ : St} {H : Hp} {s : Shared} {a : Addr} {y : V} {o : Option V} (I : Inv X pins σ H s) (g : DGet H a y o) : s.TypeIs (.ref a) "dict" := by
  rcases g with ⟨kvs, k, e, _, _⟩ | ⟨kvs, k, b, e, _, _, _⟩
  · obtain ⟨_, _, vs, _, dd⟩ := dk_rd I.hok e
    exact dd.typeIs
  · obtain ⟨_, _, xs, _, dd⟩ := dt_rd I.hok e
    exact dd.typeIs
/-- d[y] -/
def tDGet (td ty : TE) : TE := fun σ H Q => td σ H fun x H1 => ty σ H1 fun y H2 => ∃ a v, x = .ref a ∧ DGet H2 a y (some v) ∧ Q v H2
/-- y in d, y not in d -/
def tDIn (ty td : TE) : TE := fun σ H Q => ty σ H fun y H1 => td σ H1 fun x H2 => ∃ a o, x = .ref a ∧ DGet H2 a y o ∧ Q (.bl o.isSome) H2
def tDNotIn (ty td : TE) : TE := fun σ H Q => ty σ H fun y H1 => td σ H1 fun x H2 => ∃ a o, x = .ref a ∧ DGet H2 a y o ∧ Q (.bl (!o.isSome)) H2
/-- d[y] = v -/
def sDPut (td ty tv : TE) : TS := fun D σ H => tv σ H fun v H1 => td σ H1 fun x H2 => ty σ H2 fun y H3 => ∃ a H4, x = .ref a ∧ DPut H3 a y v H4 ∧ D.nx σ H4
section
variable {X : Cx} {o i e value : Expr} {pos pos' tpos : Pos} {td ty tv : TE}
theorem pe_dget (hu : X.A.units + 1 < cLine) (ho : PE X o td) (hi : PE X i ty) (hs : NoSl i) : PE X (.Subscript o i pos) (tDGet td ty) := by
  intro pins s σ H Q I h
  refine subD_of PySem.F.slot_dict_getitem.lookup hs (thn (ho pins s σ H _ I h) fun u s1 ⟨x, H1, I1, rx, q1⟩ => thn (hi pins s1 σ H1 _ I1 q1) fun iv s2 ⟨y, H2, I2, ry, a, v, ex, g, q2⟩ => ?_)
  subst ex
  obtain rfl : u = Value.ref a := rx
  exact ⟨dict_typeIs I2 g, d_getItem hu I2 g ry fun w' s3 I3 rw' => ⟨v, H2, I3, rw', q2⟩⟩
theorem pc_din (hu : X.A.units + 1 < cLine) (hi : PE X i ty) (ho : PE X o td) : PC X .In i o (tDIn ty td) := by
  intro pins s σ H Q I h
  refine thn (hi pins s σ H _ I h) fun iv s1 ⟨y, H1, I1, ry, q1⟩ => thn (ho pins s1 σ H1 _ I1 q1) fun u s2 ⟨x, H2, I2, rx, a, ov, ex, g, q2⟩ => ?_
  subst ex
  obtain rfl : u = Value.ref a := rx
  exact d_in hu I2 g ry fun s3 I3 => ⟨.bl ov.isSome, H2, I3, rfl, q2⟩
theorem pc_dnotin (hu : X.A.units + 1 < cLine) (hi : PE X i ty) (ho : PE X o td) : PC X .NotIn i o (tDNotIn ty td) := by
  intro pins s σ H Q I h
  refine thn (hi pins s σ H _ I h) fun iv s1 ⟨y, H1, I1, ry, q1⟩ => thn (ho pins s1 σ H1 _ I1 q1) fun u s2 ⟨x, H2, I2, rx, a, ov, ex, g, q2⟩ => ?_
  subst ex
  obtain rfl : u = Value.ref a := rx
  exact d_notIn hu I2 g ry fun s3 I3 => ⟨.bl (!ov.isSome), H2, I3, rfl, q2⟩
theorem ps_dput (hu : X.A.units + 1 < cLine) (ho : PE X o td) (hi : PE X i ty) (hv : PE X value tv) (hs : swapsWith value (some (.Subscript o i pos')) pos.line X.env = pure false) :
    PS X (.Assign [.Subscript o i pos'] value pos) (sDPut td ty tv) := by
  intro pins s σ H D I h
  refine wpAny_Assign_Subscript (thn (hv pins s σ H _ I h) fun r s1 ⟨v, H1, I1, rv, q1⟩ => thn (ho pins s1 σ H1 _ I1 q1) fun u s2 ⟨x, H2, I2, rx, q2⟩ => thn (hi pins s2 σ H2 _ I2 q2) fun iv s3 ⟨y, H3, I3, ry, a, H4, ex, g, q3⟩ => ?_) hs
  subst ex
  obtain rfl : u = Value.ref a := rx
  exact d_setItem hu I3 g ry rv fun s4 I4 => ⟨σ, H4, I4, q3⟩
end
theorem dk_empty {P : Program} {w : World} {H : Hp} (h : Heap) (hb : sysModules < h.objs.size) : ObjOk P w H (h.push { cls := .type "dict", data := .dict #[] }) h.objs.size (.dK []) :=
  ⟨Nat.zero_le _, beq_eq_false_iff_ne.mpr (Ne.symm (Nat.ne_of_lt hb)), [], .nil, Heap.DictOf.new h⟩
/-- {}, to be a dict of the kind that is wanted -/
def tDNewK : TE := fun _ H Q => ∀ p, H p = none → Q (.ref p) (upd H p (.dK []))
section
variable {X : Cx} {pos : Pos}
theorem pe_dnewK : PE X (.Dict [] [] pos) tDNewK := fun pins s σ H Q I h =>
  wpAny_Dict_empty ⟨.ref s.heap.objs.size, _, I.laid (a := s.heap.objs.size) (o := .dK []) (t' := s.toks) (fun _ _ q => Heap.get?_push_of_some _ q) (Nat.le_refl _) (dk_empty s.heap I.big), rfl, h _ (I.hok.fresh (Nat.le_refl _))⟩
end
/-- a method call o.m(e) of a built-in, with one argument: what must be seen of the text -/
structure M1 (X : Cx) (o : Expr) (m : Str) (apos : Pos) (e : Expr) (cpos : Pos) : Prop where
  base : attributeBase o m X.env (eval o X.env) = eval o X.env
  few : ((backTo cpos (starEach [e] X.env)).all (fun x => !x.1) && (backToKw cpos (keywordEach [] X.env)).all (fun x => x.1.isSome)
    && decide (([e] : List Expr).length + ([] : List Keyword).length + (if ([] : List Keyword).isEmpty then 0 else 1) < 30)) = true
  line : (apos.endLine == cpos.line) = true
  trees : backTo cpos (starEach [e] X.env) = [(false, eval e X.env)]
structure M2 (X : Cx) (o : Expr) (m : Str) (apos : Pos) (e f : Expr) (cpos : Pos) : Prop where
  base : attributeBase o m X.env (eval o X.env) = eval o X.env
  few : ((backTo cpos (starEach [e, f] X.env)).all (fun x => !x.1) && (backToKw cpos (keywordEach [] X.env)).all (fun x => x.1.isSome)
    && decide (([e, f] : List Expr).length + ([] : List Keyword).length + (if ([] : List Keyword).isEmpty then 0 else 1) < 30)) = true
  line : (apos.endLine == cpos.line) = true
  trees : backTo cpos (starEach [e, f] X.env) = [(false, eval e X.env), (false, eval f X.env)]
/-- a is a dict, whatever its keys -/
def IsD (H : Hp) (a : Addr) : Prop := (∃ kvs, Rd H a (.dK kvs)) ∨ ∃ kvs, Rd H a (.dT kvs)
theorem isD_at {X : Cx} {pins : List (Addr × Obj)} {σ : St} {H : Hp} {s : Shared} {a : Addr} (I : Inv X pins σ H s) (d : IsD H a) :
    s.TypeIs (.ref a) "dict" ∧ (∀ b, Value.ref a = .ref b → ∃ ob, s.heap.get? b = some ob ∧ ob.dict = none) ∧ (a == sysModules) = false := by
  rcases d with ⟨kvs, e⟩ | ⟨kvs, e⟩
  · obtain ⟨_, hd, vs, _, dd⟩ := dk_rd I.hok e
    refine ⟨dd.typeIs, fun b q => ?_, hd⟩
    cases q
    obtain ⟨ob, _, _, h1, h2, _⟩ := dd
    exact ⟨ob, h1, h2.2.1⟩
  · obtain ⟨_, hd, xs, _, dd⟩ := dt_rd I.hok e
    refine ⟨dd.typeIs, fun b q => ?_, hd⟩
    cases q
    obtain ⟨ob, _, _, h1, h2, _⟩ := dd
    exact ⟨ob, h1, h2.2.1⟩
section
variable {X : Cx} {pins : List (Addr × Obj)} {σ : St} {H : Hp} {s : Shared} {a : Addr} {y d : V} {u r : Value} {o : Option V} {A : Around} {E : Value → Shared → Prop}
/-- d.get(y) -/
theorem d_get1 {Q : Value → Shared → Prop} (hu : A.units + 1 < cLine) (I : Inv X pins σ H s) (g : DGet H a y o) (ry : RelV y u) (h : ∀ w' s', Inv X pins σ H s' → RelV (o.getD .non) w' → Q w' s') :
    wpAny (model X.prog X.w) A (call (.builtin "dict.get") [.ref a, u]) Q E s := by
  rcases g with ⟨kvs, k, e, ey, l⟩ | ⟨kvs, k, b, e, ey, eb, l⟩
  · subst ey
    obtain ⟨z, hd, vs, rel, dd⟩ := dk_rd I.hok e
    refine call_meetsIn PySem.F.slot_dict_get dd.typeIs PySem.F.entry_dict_get (PySem.F.args_dict_get_2 _ _) (meets_dict_get (mixKind X.prog X.w) a (kV_is ry) hd) ⟨_, dd.mapOf, h _ _ (I.tok _) ?_⟩
    rw [l]
    exact (rel.val k).getD rfl
  · subst ey
    cases (show u = Value.ref b from ry)
    obtain ⟨z, hd, xs, rel, dd⟩ := dt_rd I.hok e
    refine call_meetsIn PySem.F.slot_dict_get dd.typeIs PySem.F.entry_dict_get (PySem.F.args_dict_get_2 _ _) (meetsH_dict_get (tupleKind (mixKind X.prog X.w)) a b hd) ⟨tupleKind_room_in1 hu, k, xs, key_of I.hok eb, dd, h _ _ (I.tok _) ?_⟩
    rw [l]
    exact (rel.val k).getD rfl
/-- d.get(y, x) -/
theorem d_get2 {Q : Value → Shared → Prop} (hu : A.units + 1 < cLine) (I : Inv X pins σ H s) (g : DGet H a y o) (ry : RelV y u) (rd : RelV d r) (h : ∀ w' s', Inv X pins σ H s' → RelV (o.getD d) w' → Q w' s') :
    wpAny (model X.prog X.w) A (call (.builtin "dict.get") [.ref a, u, r]) Q E s := by
  rcases g with ⟨kvs, k, e, ey, l⟩ | ⟨kvs, k, b, e, ey, eb, l⟩
  · subst ey
    obtain ⟨z, hd, vs, rel, dd⟩ := dk_rd I.hok e
    refine call_meetsIn PySem.F.slot_dict_get dd.typeIs PySem.F.entry_dict_get (PySem.F.args_dict_get_3 _ _ _) (meets_dict_get_default (mixKind X.prog X.w) a (kV_is ry) hd r) ⟨_, dd.mapOf, h _ _ (I.tok _) ?_⟩
    rw [l]
    exact (rel.val k).getD rd
  · subst ey
    cases (show u = Value.ref b from ry)
    obtain ⟨z, hd, xs, rel, dd⟩ := dt_rd I.hok e
    refine call_meetsIn PySem.F.slot_dict_get dd.typeIs PySem.F.entry_dict_get (PySem.F.args_dict_get_3 _ _ _) (meetsH_dict_get_default (tupleKind (mixKind X.prog X.w)) a b hd r) ⟨tupleKind_room_in1 hu, k, xs, key_of I.hok eb, dd, h _ _ (I.tok _) ?_⟩
    rw [l]
    exact (rel.val k).getD rd
end
def tDGet1 (td ty : TE) : TE := fun σ H Q => td σ H fun x H1 => ∃ a, x = .ref a ∧ IsD H1 a ∧ ty σ H1 fun y H2 => ∃ o, DGet H2 a y o ∧ Q (o.getD .non) H2
def tDGet2 (td ty tx : TE) : TE := fun σ H Q => td σ H fun x H1 => ∃ a, x = .ref a ∧ IsD H1 a ∧ ty σ H1 fun y H2 => tx σ H2 fun z H3 => ∃ o, DGet H3 a y o ∧ Q (o.getD z) H3
section
variable {X : Cx} {o e f : Expr} {apos cpos : Pos} {td ty tx : TE}
theorem pe_dget1 (hu : X.A.units + 1 < cLine) (ho : PE X o td) (he : PE X e ty) (m : M1 X o "get" apos e cpos) : PE X (.Call (.Attribute o "get" apos) [e] [] cpos) (tDGet1 td ty) := by
  intro pins s σ H Q I h
  refine wpAny_Call_method m.base m.few m.line PySem.F.plainAttrs_dict PySem.F.slot_dict_get PySem.F.type_dict_get (thn (ho pins s σ H _ I h) fun u s1 ⟨x, H1, I1, rx, a, ex, d, q1⟩ => ?_)
  subst ex
  obtain rfl : u = Value.ref a := rx
  obtain ⟨t1, t2, _⟩ := isD_at I1 d
  refine ⟨t1, t2, ?_⟩
  rw [m.trees]
  refine Calls.callWith_builtin rfl (Calls.evalArgs_plain (Calls.spliced_cons (thn (he pins s1 σ H1 _ I1 q1) fun iv s2 ⟨y, H2, I2, ry, ov, g, q2⟩ => Calls.spliced_nil ?_)))
  exact d_get1 hu I2 g ry fun w' s3 I3 rw' => ⟨_, H2, I3, rw', q2⟩
theorem pe_dget2 (hu : X.A.units + 1 < cLine) (ho : PE X o td) (he : PE X e ty) (hf : PE X f tx) (m : M2 X o "get" apos e f cpos) : PE X (.Call (.Attribute o "get" apos) [e, f] [] cpos) (tDGet2 td ty tx) := by
  intro pins s σ H Q I h
  refine wpAny_Call_method m.base m.few m.line PySem.F.plainAttrs_dict PySem.F.slot_dict_get PySem.F.type_dict_get (thn (ho pins s σ H _ I h) fun u s1 ⟨x, H1, I1, rx, a, ex, d, q1⟩ => ?_)
  subst ex
  obtain rfl : u = Value.ref a := rx
  obtain ⟨t1, t2, _⟩ := isD_at I1 d
  refine ⟨t1, t2, ?_⟩
  rw [m.trees]
  refine Calls.callWith_builtin rfl (Calls.evalArgs_plain (Calls.spliced_cons (thn (he pins s1 σ H1 _ I1 q1) fun iv s2 ⟨y, H2, I2, ry, q2⟩ =>
    Calls.spliced_cons (thn (hf pins s2 σ H2 _ I2 q2) fun fv s3 ⟨z, H3, I3, rz, ov, g, q3⟩ => Calls.spliced_nil ?_))))
  exact d_get2 hu I3 g ry rz fun w' s4 I4 rw' => ⟨_, H3, I4, rw', q3⟩
end
end L2
namespace L2
open PySem PySem.Spec PyProof.Rows
end L2
namespace L2
open PySem PySem.Spec PyProof.Rows
theorem boot_reversed5 : bootBuiltins "reversed" = some (.type "reversed") := by decide +kernel
section
variable {X : Cx} {pins : List (Addr × Obj)} {σ : St} {H : Hp} {s : Shared} {h' : Heap}
theorem Inv.lock {d : Addr} {u : HO} (I : Inv X pins σ H s) (h : H d = some u) (mu : Mut (some u)) : ∃ od, Inv X pins σ (upd H d (.frz od u)) s := by
  have x := I.hok d u h
  have ex : ∃ od, s.heap.get? d = some od := by
    cases u with
    | lst xs => obtain ⟨_, _, _, _, e⟩ := x; exact ⟨_, e⟩
    | dK kvs => obtain ⟨_, _, _, _, o, _, _, e, _⟩ := x; exact ⟨o, e⟩
    | dT kvs => obtain ⟨_, _, _, _, o, _, _, e, _⟩ := x; exact ⟨o, e⟩
    | set S n => obtain ⟨o, _, _, _, e, _⟩ := x; exact ⟨o, e⟩
    | ins C dx fs => obtain ⟨_, _, _, e, _⟩ := x; exact ⟨_, e⟩
    | ext φ => obtain ⟨_, ⟨_, e⟩, _⟩ := x; exact ⟨_, e⟩
    | _ => exact False.elim mu
  obtain ⟨od, e⟩ := ex
  have new : ObjOk X.prog X.w (upd H d (.frz od u)) s.heap d (.frz od u) := by
    refine ⟨e, x.stay (fun b v _ q => q) (fun b q => ?_) fun b xs q => ?_⟩
    · rw [upd_ne (fun z => by rw [z, h] at q; cases q; exact mu)]; exact q
    · rw [upd_ne (fun z => by rw [z, h] at q; cases q; exact mu)]; exact q
  exact ⟨od, I.write (x := d) (e := d) (t' := s.toks) (h' := s.heap) (by rw [h]; exact mu) (.inl rfl) (fun b v _ q => q) ⟨od, e⟩ new⟩
theorem Inv.nofrz {d : Addr} {u : HO} (I : Inv X pins σ H s) (h : H d = some u) (mu : Mut (some u)) : ∀ o' u', X.H_0 d ≠ some (.frz o' u') := fun o' u' e => by
  have q := I.base.frzs d o' u' e
  rw [h] at q
  cases q
  exact mu
theorem Inv.unlock {d : Addr} {od : Obj} {u : HO} (I : Inv X pins σ H s) (h : H d = some (.frz od u)) (hn : ∀ o' u', X.H_0 d ≠ some (.frz o' u')) : Inv X pins σ (upd H d u) s := by
  have neH : ∀ b o, H b = some o → (∀ o' u', o ≠ .frz o' u') → b ≠ d := fun b o e hne z => by
    rw [z, h] at e
    cases e
    exact hne _ _ rfl
  have neN : ∀ b, H b = none → b ≠ d := fun b e z => by rw [z, h] at e; cases e
  refine ⟨I.ok, I.os, I.bare, ⟨I.base.keep, I.base.slot, fun b o e n hx => ?_, I.base.there, fun b xs e => ?_, fun b o x e => ?_, fun b ps e => ?_⟩, I.loc, I.cell, ?_, fun x c e => ?_, fun p hp => ?_, fun b o e => ?_, I.len⟩
  · rw [upd_ne (neN b (I.base.free b o e n hx))]; exact I.base.free b o e n hx
  · have q := I.base.tups b xs e
    rw [upd_ne (neH b _ q (fun _ _ z => nomatch z))]; exact q
  · have q := I.base.frzs b o x e
    rw [upd_ne (fun z => by rw [z] at e; exact hn _ _ e)]; exact q
  · obtain ⟨m, q⟩ := I.base.tbls b ps e
    exact ⟨m, by rw [upd_ne (neH b _ q (fun _ _ z => nomatch z))]; exact q⟩
  · rw [upd_ne (neN _ I.free)]; exact I.free
  · rw [upd_ne (neN c (I.freeC x c e))]; exact I.freeC x c e
  · obtain ⟨e, n, r⟩ := I.pin p hp
    exact ⟨e, by rw [upd_ne (neN _ n)]; exact n, r⟩
  · by_cases hb : b = d
    · rw [hb, upd_same] at e
      cases e
      rw [hb]
      obtain ⟨_, x⟩ := I.hok d _ h
      exact x.stay (fun c v _ q => q) (fun c q => by rw [upd_ne (neH c _ q (fun _ _ z => nomatch z))]; exact q) fun c xs q => by rw [upd_ne (neH c _ q (fun _ _ z => nomatch z))]; exact q
    · rw [upd_ne hb] at e
      exact (I.hok b o e).stay (fun c v _ q => q) (fun c q => by rw [upd_ne (neH c _ q (fun _ _ z => nomatch z))]; exact q) fun c xs q => by rw [upd_ne (neH c _ q (fun _ _ z => nomatch z))]; exact q
end
def tLockE (t : TE) : TE := fun σ H Q => ∃ d u, H d = some u ∧ Mut (some u) ∧ ∀ od, t σ (upd H d (.frz od u)) fun v H' => H' d = some (.frz od u) ∧ Q v (upd H' d u)
section
variable {X : Cx}
theorem pe_lock {e : Expr} {t : TE} (h : PE X e t) : PE X e (tLockE t) := by
  intro pins s σ H Q I hw
  obtain ⟨d, u, hd, mu, hw⟩ := hw
  obtain ⟨od, I1⟩ := I.lock hd mu
  refine thn (h pins s σ _ _ I1 (hw od)) fun v s1 ⟨x, H1, I2, r, e2, q⟩ => ?_
  exact ⟨x, _, I2.unlock e2 (I.nofrz hd mu), r, q⟩
theorem pi_one {tg : Expr} {pins : List (Addr × Obj)} {σ : St} {H : Hp} {s : Shared} {R : It → Hp → Prop} {J : It} {tn : Nat → Heap → Prop} {tk : Nat} (I : Inv X pins σ H s) (o : Obj)
    (T : Turn X.prog X.w X.K tg J [s.heap.objs.size] s.heap.objs.size tn) (st : tn 0 (s.heap.push o)) (q : R J H) : PIE X pins σ tg R (.ref s.heap.objs.size) { s with heap := s.heap.push o, toks := tk } := by
  refine ⟨s.heap.objs.size, [s.heap.objs.size], tn, J, H, rfl, I.kept fun b ob e => Heap.get?_push_of_some _ e, T, st, fun b hb => ?_, q⟩
  have e : b = s.heap.objs.size := by simpa using hb
  subst e
  exact I.fpOk (Nat.le_refl _) (I.hok.fresh (Nat.le_refl _))
end
/-- lo, lo + c, .. (n of them) -/
def Itc (lo c : Int) (n : Nat) : It := ⟨fun i _ => i < n, fun i H x H' => H' = H ∧ x = .int (lo + (i : Nat) * c), fun i _ => n ≤ i⟩
theorem turn_rangeC {P : Program} {w : World} {K : PySem.W.Frag} {tg : Expr} (it : Addr) (lo c : Int) (n : Nat) : Turn P w K tg (Itc lo c n) [it] it (fun i h => IsRangeIter h it (lo + (i : Nat) * c) ((n : Int) - (i : Nat)) c) where
  mem := by simp
  obj := fun i h st b hb => by
    have e : b = it := by simpa using hb
    subst e
    exact ⟨_, st, fun v z => nomatch z⟩
  keep := fun i h h' st k => k it (by simp) _ st
  item := by
    intro X hP hw hK hc i pins s σ H E I hf st hg
    subst hP hw hK
    obtain ⟨f0, f1, f2, f3, f4, f5⟩ := hf it (by simp)
    have W := Walks.range (prog := X.prog) (w := X.w) (I.ok.hd hc) it lo c n
    refine W.item i s _ _ hg st fun v h' tk hv st' kk => ?_
    obtain ⟨t, rfl⟩ := hv
    have I1 : Inv X pins σ H { s with heap := h', toks := tk } := I.turned (fun b o hb e => kk b o (by simpa using hb) e) f0 f1 f3 f4 f5
    exact ⟨_, rfl, go_of (s := { s with heap := h', toks := tk }) (n := "range_iterator") st' rfl rfl (by decide) ⟨.int (lo + (i : Nat) * c), H, I1, ⟨t, rfl⟩, ⟨rfl, rfl⟩, st', fun b hb => (hf b hb).1⟩⟩
  done := by
    intro X hP hw hK hc i pins s σ H E I hf st hg
    subst hP hw hK
    obtain ⟨f0, f1, f2, f3, f4, f5⟩ := hf it (by simp)
    exact wpAny_pyNext_range_end (I.ok.hd hc) st (by have : n ≤ i := hg; omega) fun h' eb => ⟨rfl, I.turned (t' := s.toks) (fun b o hb e => eb b o hb e) f0 f1 f3 f4 f5⟩
  self := fun A i s Q E st h => wpAny_pyIter_rangeiter st h
/-- range(i, j, c): small bounds, n items -/
def RgC (i j c : Int) (n : Nat) : Prop := c ≠ 0 ∧ c.natAbs < 1073741824 ∧ Builtin.Range.small i j c = true ∧ Builtin.Range.rangeSize i j c = n
def iRng3 (ta : TA) : TI := fun σ H R => ta σ H fun vs H1 => ∃ (i j c : Int) (n : Nat), vs = [.int i, .int j, .int c] ∧ RgC i j c n ∧ R (Itc i c n) H1
section
variable {X : Cx} {tg : Expr}
theorem pi_range3 {a b c : Expr} {ta : TA} {p pos : Pos} (hg : Gl X "range") (hm : X.mg "range" = none) (ha : PA X [a, b, c] ta)
    (hs : starEach [a, b, c] X.env = (false, eval a X.env) :: starEach [b, c] X.env := by rfl) (hpl : (backTo pos (starEach [b, c] X.env)).any (·.1) = false := by rfl) :
    PI X tg (.Call (.Name "range" p) [a, b, c] [] pos) (iRng3 ta) := by
  intro pins s σ H R I h
  refine Call_ (ld_blt I hg hm boot_range (PyProof.Rows.callWith_type1 (thn (ha pos pins s σ H _ I h) fun us s1 ⟨vs, H1, I1, r1, q1⟩ => ?_) hs hpl))
  obtain ⟨i, j, k, n, e, ⟨c0, c1, c2, c3⟩, q⟩ := q1
  subst e
  cases r1 with
  | cons r rr =>
    cases rr with
    | cons r' rr =>
      cases rr with
      | cons r'' rr =>
        cases rr
        obtain ⟨t, rfl⟩ := r
        obtain ⟨t', rfl⟩ := r'
        obtain ⟨t'', rfl⟩ := r''
        refine call_range_3 c0 ?_ (.inl (PyProof.noPylong_small c1))
        refine wpAny_pyIter_range (IsRange.new ..) c2 ?_
        have I2 : Inv X pins σ H1 { s1 with heap := s1.heap.push { cls := .type "range", data := .fields #[.int i t, .int j t', .int k t''] } } := I1.kept (t' := s1.toks) fun b o e => Heap.get?_push_of_some _ e
        refine pi_one (tk := s1.toks) I2 _ (turn_rangeC _ i k n) ?_ q
        have e1 : i + ((0 : Nat) : Int) * k = i := by simp
        have e2 : (n : Int) - ((0 : Nat) : Int) = Builtin.Range.rangeSize i j k := by rw [c3]; simp
        show IsRangeIter _ _ (i + ((0 : Nat) : Int) * k) ((n : Int) - ((0 : Nat) : Int)) k
        rw [e1, e2]
        exact Heap.get?_push_size _ rfl
end
/-- the list at a (n items at the start, which the loop leaves there), from its end -/
def Itv (K : PySem.W.Frag) (a : Addr) (n : Nat) : It :=
  ⟨fun i H => i < n ∧ ∃ (xs : List V) (x : V), SqL K H a xs ∧ xs[n - 1 - i]? = some x, fun i H x H' => H' = H ∧ ∀ xs, SqL K H a xs → xs[n - 1 - i]? = some x, fun i _ => n ≤ i⟩
theorem turn_rev {P : Program} {w : World} {K : PySem.W.Frag} {tg : Expr} (a it : Addr) (n : Nat) : Turn P w K tg (Itv K a n) [it] it (fun i h => i ≤ n ∧ h.IsRevIter it a ((n : Int) - 1 - (i : Nat))) where
  mem := by simp
  obj := fun i h st b hb => by
    have e : b = it := by simpa using hb
    subst e
    obtain ⟨_, o, e, c, d⟩ := st
    exact ⟨o, e, fun v z => by rw [d] at z; cases z⟩
  keep := fun i h h' st k => ⟨st.1, st.2.at fun o e => k it (by simp) o e⟩
  item := by
    intro X hP hw hK hc i pins s σ H E I hf st hg
    subst hP hw hK
    obtain ⟨hin, xs, x, hq, hx⟩ := hg
    obtain ⟨its, rv, p, hz⟩ := I.list hq
    obtain ⟨u, hu, ru⟩ := rv.get hx
    obtain ⟨f0, f1, f2, f3, f4, f5⟩ := hf it (by simp)
    obtain ⟨_, hit⟩ := st
    have e1 : (n : Int) - 1 - ((i : Nat) : Int) = ((n - 1 - i : Nat) : Int) := by omega
    rw [e1] at hit
    refine wpAny_pyNext_rev_item hit p.isList (x := u) (by simpa using hu) fun h' st' sb => ?_
    have e2 : ((n - 1 - i : Nat) : Int) - 1 = (n : Int) - 1 - ((i + 1 : Nat) : Int) := by omega
    rw [e2] at st'
    have I1 : Inv X pins σ H { s with heap := h' } := I.turned (t' := s.toks) (fun b o hb e => (sb.2 b hb).trans e) f0 f1 f3 f4 f5
    obtain ⟨o, e, c, d⟩ := id st'
    exact ⟨u, rfl, go_of (s := { s with heap := h' }) e c d (by decide) ⟨x, H, I1, ru, ⟨rfl, fun ys hy => by rw [I.list_inj hy hq]; exact hx⟩, ⟨hin, st'⟩, fun b hb => (hf b hb).1⟩⟩
  done := by
    intro X hP hw hK hc i pins s σ H E I hf st hg
    subst hP hw hK
    obtain ⟨f0, f1, f2, f3, f4, f5⟩ := hf it (by simp)
    obtain ⟨hin, hit⟩ := st
    have hge : n ≤ i := hg
    have e1 : (n : Int) - 1 - ((i : Nat) : Int) = -1 := by omega
    rw [e1] at hit
    exact wpAny_pyNext_rev_end (I.ok.hd hc) hit fun h' eb => ⟨rfl, I.turned (t' := s.toks) (fun b o hb e => eb b o hb e) f0 f1 f3 f4 f5⟩
  self := fun A i s Q E st h => wpAny_pyIter_revIter st.2 h
def iRev (K : PySem.W.Frag) (ta : TA) : TI := fun σ H R => ta σ H fun vs H1 => ∃ (a : Addr) (xs : List V), vs = [.ref a] ∧ SqL K H1 a xs ∧ R (Itv K a xs.length) H1
section
variable {X : Cx} {tg : Expr}
theorem pi_reversed {e : Expr} {ta : TA} {p pos : Pos} (hg : Gl X "reversed") (hm : X.mg "reversed" = none) (ha : PA X [e] ta) (hs : starEach [e] X.env = [(false, eval e X.env)] := by rfl) : PI X tg (.Call (.Name "reversed" p) [e] [] pos) (iRev X.K ta) := by
  intro pins s σ H R I h
  refine Call_ (ld_blt I hg hm boot_reversed5 (PyProof.Rows.callWith_type1 (thn (ha pos pins s σ H _ I h) fun us s1 ⟨vs, H1, I1, r1, q1⟩ => ?_) hs rfl))
  obtain ⟨a, xs, e, hq, q⟩ := q1
  subst e
  cases r1 with
  | cons r rr =>
    cases rr
    cases r
    obtain ⟨its, rv, p', hz⟩ := I1.list hq
    have hl := rv.length
    have e1 : ((its.toArray.size : Nat) : Int) - 1 = (xs.length : Int) - 1 - ((0 : Nat) : Int) := by simp only [List.size_toArray]; omega
    refine call_reversed_list p'.isList (wpAny_pyIter_revIter (l := a) (i := ((its.toArray.size : Nat) : Int) - 1) ⟨_, Heap.get?_push_size _ rfl, rfl, rfl⟩ ?_)
    refine pi_one (tk := s1.toks) I1 _ (turn_rev a _ xs.length) ⟨Nat.zero_le _, ?_⟩ q
    rw [← e1]
    exact ⟨_, Heap.get?_push_size _ rfl, rfl, rfl⟩
end
section
variable {prog : Program} {w : World} {A : Around} {E : Value → Shared → Prop} {s : Shared}
theorem iter_keys {d : Addr} {o : Obj} {es : Array DictEntry} {ep : Nat} {Q : Value → Shared → Prop} (hd : (d == sysModules) = false) (ho : s.heap.get? d = some o) (hc : o.ExactDict) (hdat : o.data = .dict es ep)
    (hQ : Q (.ref s.heap.objs.size) { s with heap := s.heap.push { cls := .type "dict_keyiterator", data := .fields #[.ref d, .int 0 0, .int es.size 0, .int ep 0] } }) :
    wpAny (model prog w) A (pyIter (.ref d)) Q E s := by
  have hT : s.TypeIs (.ref d) "dict" := ⟨o, ho, hc.1⟩
  refine wpAny_pyIter_slot hT F.slot_dict_iter (wpAny_call_entry F.slot_dict_iter hT F.entry_dict_iter ?_ (F.args_dict_iter_1 _))
  unfold Builtin.«dict.__iter__»
  refine wpAny_bind ?_
  unfold Builtin.Dict.dictSlotNone
  refine wpAny_bind (wpAny_notOrdered_dict hT ?_)
  show wpAny _ _ (pure (Value.ref d)) _ _ s
  refine wpAny_pure ?_
  show wpAny _ _ (Builtin.Dict.showsAll d >>= _) _ _ s
  unfold Builtin.Dict.showsAll
  rw [if_neg (by rw [hd]; exact Bool.false_ne_true)]
  refine wpAny_bind (wpAny_pure ?_)
  refine wpAny_bind (wpAny_dictEntries ho hdat ?_)
  refine wpAny_bind (wpAny_dictEpoch ho hdat ?_)
  refine wpAny_bind (wpAny_newObj_type (wpAny_pure ⟨_, rfl, "dict_keyiterator", _, ⟨_, Heap.get?_push_size _ rfl, rfl⟩, F.slot_dict_keyiterator_next.lookup, ?_⟩))
  simpa [rawInt] using hQ
theorem next_key_item {it d : Addr} {i n ep : Nat} {od : Obj} {es : Array DictEntry} {en : DictEntry} {Q : Option Value → Shared → Prop} (hit : s.heap.IsKeyIter it d i n ep) (hod : s.heap.get? d = some od) (hdd : od.data = .dict es ep)
    (hsz : es.size = n) (hx : es[i]? = some en) (hQ : ∀ h', h'.IsKeyIter it d (i + 1) n ep → Heap.SameBut it s.heap h' → Q (some en.key) { s with heap := h' }) : wpAny (model prog w) A (pyNext (.ref it)) Q E s := by
  obtain ⟨o, ho, hc, hd⟩ := id hit
  unfold pyNext
  refine wpAny_bind (wpAny_attempt (wpAny_callSpecial?_slot (name := Str.ofString "__next__") hit.typeIs F.slot_dict_keyiterator_next
    (wpAny_call_entry F.slot_dict_keyiterator_next hit.typeIs F.entry_dict_keyiterator_next ?_ (F.args_dict_keyiterator_next_1 _))))
  refine wpAny_bind (wpAny_pure ?_)
  refine wpAny_bind ?_
  refine wpAny_bind ?_
  first | refine wpAny_bind (wpAny_typeNameOfWhole_keyiter hit.typeIs (wpAny_pure ?_)) | refine wpAny_bind (wpAny_typeNameOf_keyiter hit.typeIs (wpAny_pure ?_))
  refine wpAny_bind (wpAny_fieldsOf ho hd ?_)
  have hown : Builtin.Dict_items.ownsTuple "dict_keyiterator" = false := by decide
  simp only [hown, Bool.false_eq_true, if_false]
  show wpAny _ _ (if (Value.ref d == Value.none) = true then _ else _) _ _ s
  rw [if_neg (show ¬ ((Value.ref d == Value.none) = true) from Bool.false_ne_true)]
  refine wpAny_bind (wpAny_pure ?_)
  refine wpAny_bind (wpAny_dictEntries hod hdd ?_)
  rw [if_neg (by rw [hsz]; simp)]
  refine wpAny_bind (wpAny_pure ?_)
  refine wpAny_bind (wpAny_dictEpoch hod hdd ?_)
  rw [if_neg (by simp)]
  refine wpAny_pure ?_
  obtain ⟨hlt', hen⟩ := Array.getElem?_eq_some_iff.mp hx
  simp only [show ¬ ((i : Int) < 0) from by omega, if_false, Int.toNat_natCast, Array.getElem?_eq_getElem hlt']
  refine wpAny_bind ?_
  first | refine wpAny_bind (wpAny_typeNameOfWhole_keyiter hit.typeIs (wpAny_pure ?_)) | refine wpAny_bind (wpAny_typeNameOf_keyiter hit.typeIs (wpAny_pure ?_))
  refine wpAny_bind (wpAny_isOneOf_keyiter hit.typeIs ?_)
  show wpAny _ _ (setField (.ref it) 1 (rawInt ((i : Int) + 1)) >>= _) _ _ s
  refine wpAny_bind (wpAny_setField ho hd (by simp) ?_)
  have hit' : (s.heap.update it (Obj.mapFields (·.setIfInBounds 1 (rawInt ((i : Int) + 1))))).IsKeyIter it d (i + 1) n ep :=
    ⟨_, Heap.get?_update_self _ ho (Obj.isFreed_of_fields (Obj.data_mapFields hd _)), (Obj.cls_mapFields ..).trans hc, by rw [Obj.data_mapFields hd]; simp [rawInt]⟩
  refine wpAny_bind (wpAny_holding ?_)
  refine wpAny_bind (wpAny_isOneOf_keyiter (s := { s with heap := s.heap.update it (Obj.mapFields (·.setIfInBounds 1 (rawInt ((i : Int) + 1)))) }) hit'.typeIs ?_)
  show wpAny _ _ (pure es[i].key) _ _ _
  rw [hen]
  exact wpAny_pure (wpAny_pure ⟨_, rfl, wpAny_pure (hQ _ hit' (Heap.SameBut.update ..))⟩)
theorem next_key_end {it d : Addr} {i n ep : Nat} {od : Obj} {es : Array DictEntry} {Q : Option Value → Shared → Prop} (hh : A.handled = none) (hit : s.heap.IsKeyIter it d i n ep) (hod : s.heap.get? d = some od) (hdd : od.data = .dict es ep)
    (hsz : es.size = n) (hge : n ≤ i) (hQ : ∀ h', Heap.ExtBut it s.heap h' → Q none { s with heap := h' }) : wpAny (model prog w) A (pyNext (.ref it)) Q E s := by
  obtain ⟨o, ho, hc, hd⟩ := id hit
  unfold pyNext
  refine wpAny_bind (wpAny_attempt (wpAny_callSpecial?_slot (name := Str.ofString "__next__") hit.typeIs F.slot_dict_keyiterator_next
    (wpAny_call_entry F.slot_dict_keyiterator_next hit.typeIs F.entry_dict_keyiterator_next ?_ (F.args_dict_keyiterator_next_1 _))))
  refine wpAny_bind (wpAny_pure ?_)
  refine wpAny_bind ?_
  refine wpAny_bind ?_
  first | refine wpAny_bind (wpAny_typeNameOfWhole_keyiter hit.typeIs (wpAny_pure ?_)) | refine wpAny_bind (wpAny_typeNameOf_keyiter hit.typeIs (wpAny_pure ?_))
  refine wpAny_bind (wpAny_fieldsOf ho hd ?_)
  have hown : Builtin.Dict_items.ownsTuple "dict_keyiterator" = false := by decide
  simp only [hown, Bool.false_eq_true, if_false]
  show wpAny _ _ (if (Value.ref d == Value.none) = true then _ else _) _ _ s
  rw [if_neg (show ¬ ((Value.ref d == Value.none) = true) from Bool.false_ne_true)]
  refine wpAny_bind (wpAny_pure ?_)
  refine wpAny_bind (wpAny_dictEntries hod hdd ?_)
  rw [if_neg (by rw [hsz]; simp)]
  refine wpAny_bind (wpAny_pure ?_)
  refine wpAny_bind (wpAny_dictEpoch hod hdd ?_)
  rw [if_neg (by simp)]
  refine wpAny_pure ?_
  have hge' : es.size ≤ i := by rw [hsz]; exact hge
  simp only [show ¬ ((i : Int) < 0) from by omega, if_false, Int.toNat_natCast, Array.getElem?_eq_none hge']
  refine wpAny_bind ?_
  first | refine wpAny_bind (wpAny_typeNameOfWhole_keyiter hit.typeIs (wpAny_pure ?_)) | refine wpAny_bind (wpAny_typeNameOf_keyiter hit.typeIs (wpAny_pure ?_))
  show wpAny _ _ (setField (.ref it) 0 .none >>= _) _ _ s
  refine wpAny_bind (wpAny_setField ho hd (by simp) ?_)
  show wpAny _ _ (newExc (.type "StopIteration") [] >>= _) _ _ _
  refine wpAny_bind ?_
  simp only [newExc, newTuple]
  refine wpAny_bind (wpAny_newObj_type ?_ (by size_fits))
  refine wpAny_bind (m := firstArgMember _ _) (wpAny_of_eq (a := Value.none) (by first | rfl | (simp only [firstArgMember]; rfl)) ?_)
  refine wpAny_newObj_type ?_ (by size_fits)
  simp only [raiseNew]
  refine wpAny_bind (wpAny_handled ?_)
  rw [show A.in1.handled = none from hh]
  refine wpAny_bind (wpAny_pure (wpAny_throw ?_))
  refine wpAny_bind (wpAny_isInstance (T := "StopIteration") (b := true) ⟨_, Heap.get?_push_size _ rfl, rfl⟩ isSubtype_stop ?_)
  exact wpAny_pure (hQ _ (((Heap.SameBut.update ..).extBut.push _).push _))
end
theorem kv_get {κ : Type} {kvs : List (κ × V)} {vs : List (κ × Value)} (h : KV kvs vs) : ∀ {i : Nat} {k : κ} {v : V}, kvs[i]? = some (k, v) → ∃ u, vs[i]? = some (k, u) ∧ RelV v u := by
  unfold KV at h
  induction h with
  | nil => intro i k v e; simp at e
  | @cons a b l₁ l₂ r t ih =>
    intro i k v e
    cases i with
    | zero =>
      simp only [List.getElem?_cons_zero, Option.some.injEq] at e
      subst e
      refine ⟨b.2, ?_, r.2⟩
      simp only [List.getElem?_cons_zero]
      exact congrArg some (Prod.ext r.1.symm rfl)
    | succ j =>
      simp only [List.getElem?_cons_succ] at e ⊢
      exact ih e
theorem paired_get {α β : Type} {G : α → β → Prop} {l₁ : List α} {l₂ : List β} (h : Paired G l₁ l₂) : ∀ {i : Nat} {a : α}, l₁[i]? = some a → ∃ b, l₂[i]? = some b ∧ G a b := by
  induction h with
  | nil => intro i a e; simp at e
  | @cons a b l₁ l₂ r t ih =>
    intro i a' e
    cases i with
    | zero =>
      simp only [List.getElem?_cons_zero, Option.some.injEq] at e
      subst e
      exact ⟨b, rfl, r⟩
    | succ j =>
      simp only [List.getElem?_cons_succ] at e ⊢
      exact ih e
theorem relV_key {k : Key} {u : Value} (h : keyIs k u = true) : RelV (kV k) u := by
  rcases keyIs_shape h with ⟨i, t, rfl, rfl⟩ | ⟨x, t, rfl, rfl⟩
  · exact ⟨t, rfl⟩
  · exact ⟨t, rfl⟩
section
variable {X : Cx} {pins : List (Addr × Obj)} {σ : St} {H : Hp} {s : Shared} {d : Addr} {o : Obj}
theorem Inv.frzK {kvs : List (Key × V)} (I : Inv X pins σ H s) (h : H d = some (.frz o (.dK kvs))) :
    (d == sysModules) = false ∧ s.heap.get? d = some o ∧ o.ExactDict ∧ ∃ (es : Array DictEntry) (ep : Nat) (vs : List (Key × Value)), o.data = .dict es ep ∧ es.size = kvs.length ∧ KV kvs vs ∧ s.heap.DictAt (mixKind X.prog X.w) d vs ep := by
  obtain ⟨hd, z, hs, vs, kv, o', es, ep, ho, hx, hdt, r⟩ := I.hok d _ h
  rw [hd] at ho
  cases ho
  refine ⟨hs, hd, hx, es, ep, vs, hdt, ?_, kv, o, es, hd, hx, hdt, r⟩
  have l1 := r.2.1.length
  have l2 : kvs.length = vs.length := Paired.length kv
  rw [Array.length_toList] at l1
  omega
/-- the same for tuple keys -/
theorem Inv.frzT {kvs : List (List Key × V)} (I : Inv X pins σ H s) (h : H d = some (.frz o (.dT kvs))) :
    (d == sysModules) = false ∧ s.heap.get? d = some o ∧ o.ExactDict ∧ ∃ (es : Array DictEntry) (ep : Nat), o.data = .dict es ep ∧ es.size = kvs.length ∧
      ∀ (i : Nat) (k : List Key) (v : V), kvs[i]? = some (k, v) → ∃ (en : DictEntry) (q : Addr), es[i]? = some en ∧ en.key = .ref q ∧ H q = some (.tup (k.map kV)) := by
  obtain ⟨hd, z, hs, xs, pr, o', es, ep, ho, hx, hdt, he, _⟩ := I.hok d _ h
  rw [hd] at ho
  cases ho
  refine ⟨hs, hd, hx, es, ep, hdt, ?_, fun i k v e => ?_⟩
  · have l1 : es.size = xs.length := size_of_entries he
    have l2 : kvs.length = xs.length := Paired.length pr
    omega
  · obtain ⟨b, hb, e1, e2, _⟩ := paired_get pr e
    have q := entry_at he i
    rw [hb] at q
    exact ⟨_, b.2.1, q, rfl, e2⟩
end
/-- the keys of the locked dict at d, in their order -/
def Itk (d : Addr) (o : Obj) (kvs : List (Key × V)) : It :=
  ⟨fun i H => H d = some (.frz o (.dK kvs)) ∧ i < kvs.length, fun i H x H' => H' = H ∧ ∃ k v, kvs[i]? = some (k, v) ∧ x = kV k, fun i H => H d = some (.frz o (.dK kvs)) ∧ kvs.length ≤ i⟩
/-- .. of tuple keys: the key's own tuple -/
def Itkt (d : Addr) (o : Obj) (kvs : List (List Key × V)) : It :=
  ⟨fun i H => H d = some (.frz o (.dT kvs)) ∧ i < kvs.length, fun i H x H' => H' = H ∧ ∃ (k : List Key) (v : V) (q : Addr), kvs[i]? = some (k, v) ∧ x = .ref q ∧ H q = some (.tup (k.map kV)), fun i H => H d = some (.frz o (.dT kvs)) ∧ kvs.length ≤ i⟩
theorem dict_ep {o : Obj} {es es' : Array DictEntry} {ep ep' : Nat} (h : o.data = .dict es ep) (h' : o.data = .dict es' ep') : es' = es ∧ ep' = ep := by
  rw [h] at h'
  cases h'
  exact ⟨rfl, rfl⟩
section
variable {P : Program} {w : World} {K : PySem.W.Frag} {tg : Expr} {d : Addr} {o : Obj} {es : Array DictEntry} {ep : Nat}
theorem turn_keys {kvs : List (Key × V)} (it : Addr) (hod : o.data = .dict es ep) : Turn P w K tg (Itk d o kvs) [it] it (fun i h => h.IsKeyIter it d i kvs.length ep) where
  mem := by simp
  obj := fun i h st b hb => by
    have e : b = it := by simpa using hb
    subst e
    obtain ⟨oi, e, c, dd⟩ := st
    exact ⟨oi, e, fun v z => by rw [dd] at z; cases z⟩
  keep := fun i h h' st k => st.at fun oi e => k it (by simp) oi e
  item := by
    intro X hP hw hK hc i pins s σ H E I hf st hg
    subst hP hw hK
    obtain ⟨hd, hi⟩ := hg
    obtain ⟨f0, f1, f2, f3, f4, f5⟩ := hf it (by simp)
    obtain ⟨hs, hgd, hx, es', ep', vs, hdt, hsz, kv, hm⟩ := I.frzK hd
    obtain ⟨rfl, rfl⟩ := dict_ep hod hdt
    obtain ⟨⟨k, v⟩, hkv⟩ : ∃ p, kvs[i]? = some p := ⟨kvs[i], List.getElem?_eq_getElem hi⟩
    obtain ⟨u, hu, ru⟩ := kv_get kv hkv
    have hl : kvs.length = vs.length := Paired.length kv
    rw [hl] at st
    refine wpAny_pyNext_dict_item st hm hu fun key h' hkey st' sb => ?_
    have I1 : Inv X pins σ H { s with heap := h' } := I.turned (t' := s.toks) (fun b ob hb e => (sb.2 b hb).trans e) f0 f1 f3 f4 f5
    obtain ⟨oi, e, c, dd⟩ := id st'
    refine ⟨key, rfl, go_of (s := { s with heap := h' }) e c dd (by decide) ⟨kV k, H, I1, relV_key (show keyIs k key = true from hkey), ⟨rfl, k, v, hkv, rfl⟩, ?_, fun b hb => (hf b hb).1⟩⟩
    show h'.IsKeyIter it d (i + 1) kvs.length _
    rw [hl]
    exact st'
  done := by
    intro X hP hw hK hc i pins s σ H E I hf st hg
    subst hP hw hK
    obtain ⟨hd, hi⟩ := hg
    obtain ⟨f0, f1, f2, f3, f4, f5⟩ := hf it (by simp)
    obtain ⟨hs, hgd, hx, es', ep', vs, hdt, hsz, kv, hm⟩ := I.frzK hd
    obtain ⟨rfl, rfl⟩ := dict_ep hod hdt
    exact next_key_end (I.ok.hd hc) st hgd hdt hsz hi fun h' eb => ⟨rfl, I.turned (t' := s.toks) (fun b ob hb e => eb b ob hb e) f0 f1 f3 f4 f5⟩
  self := fun A i s Q E st h => wpAny_pyIter_keyiter st h
theorem turn_keysT {kvs : List (List Key × V)} (it : Addr) (hod : o.data = .dict es ep) : Turn P w K tg (Itkt d o kvs) [it] it (fun i h => h.IsKeyIter it d i kvs.length ep) where
  mem := by simp
  obj := fun i h st b hb => by
    have e : b = it := by simpa using hb
    subst e
    obtain ⟨oi, e, c, dd⟩ := st
    exact ⟨oi, e, fun v z => by rw [dd] at z; cases z⟩
  keep := fun i h h' st k => st.at fun oi e => k it (by simp) oi e
  item := by
    intro X hP hw hK hc i pins s σ H E I hf st hg
    subst hP hw hK
    obtain ⟨hd, hi⟩ := hg
    obtain ⟨f0, f1, f2, f3, f4, f5⟩ := hf it (by simp)
    obtain ⟨hs, hgd, hx, es', ep', hdt, hsz, ent⟩ := I.frzT hd
    obtain ⟨rfl, rfl⟩ := dict_ep hod hdt
    obtain ⟨⟨k, v⟩, hkv⟩ : ∃ p, kvs[i]? = some p := ⟨kvs[i], List.getElem?_eq_getElem hi⟩
    obtain ⟨en, q, hen, hkey, hq⟩ := ent i k v hkv
    refine next_key_item st hgd hdt hsz hen fun h' st' sb => ?_
    have I1 : Inv X pins σ H { s with heap := h' } := I.turned (t' := s.toks) (fun b ob hb e => (sb.2 b hb).trans e) f0 f1 f3 f4 f5
    obtain ⟨oi, e, c, dd⟩ := id st'
    exact ⟨en.key, rfl, go_of (s := { s with heap := h' }) e c dd (by decide) ⟨.ref q, H, I1, hkey, ⟨rfl, k, v, q, hkv, rfl, hq⟩, st', fun b hb => (hf b hb).1⟩⟩
  done := by
    intro X hP hw hK hc i pins s σ H E I hf st hg
    subst hP hw hK
    obtain ⟨hd, hi⟩ := hg
    obtain ⟨f0, f1, f2, f3, f4, f5⟩ := hf it (by simp)
    obtain ⟨hs, hgd, hx, es', ep', hdt, hsz, ent⟩ := I.frzT hd
    obtain ⟨rfl, rfl⟩ := dict_ep hod hdt
    exact next_key_end (I.ok.hd hc) st hgd hdt hsz hi fun h' eb => ⟨rfl, I.turned (t' := s.toks) (fun b ob hb e => eb b ob hb e) f0 f1 f3 f4 f5⟩
  self := fun A i s Q E st h => by
    refine wpAny_pyIter_slot st.typeIs F.slot_dict_keyiterator_iter (wpAny_call_entry F.slot_dict_keyiterator_iter st.typeIs F.entry_dict_keyiterator_iter ?_ (F.args_dict_keyiterator_iter_1 _))
    show wpAny _ _ (ret (.ref it)) _ _ s
    exact wpAny_pure ⟨_, rfl, "dict_keyiterator", _, st.typeIs, F.slot_dict_keyiterator_next.lookup, h⟩
end
/-- the dict is locked (tLock, or by the caller) -/
def iKeys (td : TE) : TI := fun σ H R => td σ H fun x H1 => ∃ d o, x = .ref d ∧ ((∃ kvs, H1 d = some (.frz o (.dK kvs)) ∧ R (Itk d o kvs) H1) ∨ ∃ kvs, H1 d = some (.frz o (.dT kvs)) ∧ R (Itkt d o kvs) H1)
section
variable {X : Cx} {tg e : Expr} {td : TE} {apos cpos : Pos}
theorem pi_keys (he : PE X e td) : PI X tg e (iKeys td) := by
  intro pins s σ H R I h
  refine thn (he pins s σ H _ I h) fun u s1 ⟨x, H1, I1, rx, d, o, ex, q⟩ => ?_
  subst ex
  obtain rfl : u = Value.ref d := rx
  rcases q with ⟨kvs, hd, q⟩ | ⟨kvs, hd, q⟩
  · obtain ⟨hs, hgd, hx, es, ep, vs, hdt, hsz, kv, hm⟩ := I1.frzK hd
    refine iter_keys hs hgd hx hdt (pi_one (tk := s1.toks) I1 _ (turn_keys _ hdt) ⟨_, Heap.get?_push_size _ rfl, rfl, ?_⟩ q)
    rw [hsz] <;> rfl
  · obtain ⟨hs, hgd, hx, es, ep, hdt, hsz, ent⟩ := I1.frzT hd
    refine iter_keys hs hgd hx hdt (pi_one (tk := s1.toks) I1 _ (turn_keysT _ hdt) ⟨_, Heap.get?_push_size _ rfl, rfl, ?_⟩ q)
    rw [hsz] <;> rfl
end
end L2
section 
namespace Bits
open PySem PyProof.Rows
end Bits
end 
section 
namespace TL
open PySem PySem.Builtin PySem.Builtin.Str PySem.StrLaws
end TL
end 
namespace L2
open PySem PySem.Spec PyProof.Rows
end L2
namespace L2
open PySem PySem.Spec PyProof.Rows
end L2
namespace Att
open PySem PySem.W PySem.Calls PyProof.Rows
section
variable {prog : Program} {w : World} {A : Around} {E : Value → Shared → Prop} {s : Shared} {K : Frag}
/-- a def of the module, or a method (qual 'C.m'), entered: the frame is the next address; cells behind it -/
theorem call_fn {R : Result → Shared → Prop} {name qual : Str} {params : Arguments} {body : List Stmt} {scope : Scope} {dV kV doc pm cdv ct oc : Value} {an od : Option Addr} {osl : Array (Option Value)} {f : Addr} {args : Args} {binds : List (Str × Value)}
    (X : K.In s.heap) (hlim : s.heap.NoLimit) (ho : K.lookup f = some ⟨oc, od, .func (fnOf name qual params body scope dV kV doc pm an cdv ct), osl⟩) (hcd : codeIn K cdv qual = true) (hroom : A.depth < recursionLimit)
    (hbind : BindsTo s (fnOf name qual params body scope dV kV doc pm an cdv ct) args binds)
    (hkind : (binds.all fun y => scope.names.lookup y.1 == some .local || scope.names.lookup y.1 == some .cell) = true)
    (h : ∀ s₁, InCallC s s.heap.objs.size (bindL (envOfC qual scope s.heap.objs.size f cdv).kindOf binds fun _ => none) (cellsFrom (s.heap.objs.size + 1) scope.names [])
        (bindC (envOfC qual scope s.heap.objs.size f cdv).kindOf binds fun _ => none) s₁ →
      wpAny (model prog w) (A.deeper (envOfC qual scope s.heap.objs.size f cdv)) (execs body (envOfC qual scope s.heap.objs.size f cdv))
        (fun fl s' => R (.ok (.ret (match fl with | .ret v => v | _ => .none))) s')
        (fun e s' => wpAny (model prog w) (A.deeper (envOfC qual scope s.heap.objs.size f cdv)) (leaving (envOfC qual scope s.heap.objs.size f cdv) e) (fun _ s'' => R (.error e) s'') (fun e' s'' => R (.error e') s'') s') s₁)
    (hco : scope.isCoroutine = false) (hgen : scope.isGenerator = false) (hk : scope.kind = .function) : codeAny (model prog w) A (.call (.ref f) args) R s := by
  refine codeAny_call_function hroom (X _ _ ho) rfl hco hgen rfl (codeRec_of X hcd) (hbind _ _ _ _ ?_)
  refine wpAny_newFunctionEnv_cells hk (kindsX hkind _) fun env he s₁ x => ?_
  subst he
  exact ⟨hlim.keeps x.toInCall.keep, codeAny_func (h s₁ x)⟩
def noObjs (h : Heap) : Heap := { h with objs := #[] }
theorem noObjs_get (h : Heap) (b : Addr) : (noObjs h).get? b = none := by
  cases e : (noObjs h).get? b with
  | none => rfl
  | some o => exact absurd (Heap.lt_size e) (Nat.not_lt_zero _)
theorem fr_all {h : Heap} {L : Addr} {m : Str → Option Value} (n : h.Ns L m) : Fr (noObjs h) L h m :=
  ⟨n, fun b o e => (by rw [noObjs_get] at e; cases e), Nat.zero_le _⟩
end
end Att
namespace L2
open PySem PySem.Spec PyProof.Rows
end L2
namespace L2
open PySem PySem.Spec PyProof.Rows
end L2
/- THE LAST THEOREM (shape; LID, My.* are yours):
   My.Adr: a structure of the addresses that your layer names (classes, functions); My.Txt K t: a structure (Prop) of the equations over K;
   My.txt_mk : {K} {implicit addresses ..} (e1 : nsIn K mainGlobals "law" = some (some (.ref f))) (e2 : K.lookup f = some ⟨oc, od, .func (fnOf "law" "law" params body scope dV kV doc pm an cdv ct), sl⟩) (e3 : codeIn K cdv "law" = true) .. : ∃ t, My.Txt K t

set_option maxRecDepth 100000 in
set_option maxHeartbeats 0 in
theorem PySem.Challenge.cw_LID_holds : PySem.Challenge.rw_LID.Holds := by
  w_on; o_law; k_head; (case hw => w_witness2)
  k_fill
  refine L2.walk_of (l := PySem.Challenge.rw_LID) (n := 63) (k := 40) (x := "script") (CX := fun w => ..) (sp := fun _ => My.sp_law) rfl (by decide) rfl ⟨rfl, by decide, by decide⟩ (fun w h Y => PySem.W.kIn_of Y) ?F ?S ?C
  case F =>
    intro w mg fa h KX G hmg
    have T : ∃ t, My.Txt (L2.KOf KX) t := by
      dsimp only [L2.KOf]                          -- K must stand as «<heap const> w.params» for k_is
      refine' My.txt_mk ?e1 ?e2 ?e3 ..
      (case e1 => PySem.W.k_is)                    -- in the order: a name -> its address -> its object -> its parts
      (case e2 => PySem.W.k_is)
      ..
    obtain ⟨t, T⟩ := T
    have e0 := hmg.symm.trans (PySem.W.mg_of KX G T.law)
    cases e0                                       -- fa is the law's own address
    exact ⟨_, fun s u => .of_eq rfl, fun base kb nb => My.law_fn T kb nb⟩     -- if «.of_eq rfl» comes too early: refine' ⟨_, ?b, fun base kb nb => My.law_fn T kb nb⟩; exact fun s u => .of_eq rfl
  case S => exact fun w H a ns hl hO hS => ..
  case C => exact ..
(the tactic k_is has no namespace: write k_is) -/
namespace L2
open PySem PySem.Spec PyProof.Rows
/-- the j-th statement of a class's body -/
def inClass (s : Stmt) (j : Nat) : Stmt := match s with
  | .ClassDef _ _ _ body _ _ _ _ _ _ _ => body.getD j (.Pass ⟨0, 0, 0, 0⟩)
  | _ => .Pass ⟨0, 0, 0, 0⟩
def defArgs (s : Stmt) : Arguments := match s with
  | .FunctionDef _ a _ _ _ _ _ _ _ _ => a
  | _ => { posonlyargs := [], args := [], vararg := none, kwonlyargs := [], kw_defaults := [], kwarg := none, defaults := [] }
def defBody (s : Stmt) : List Stmt := match s with
  | .FunctionDef _ _ b _ _ _ _ _ _ _ => b
  | _ => []
def defScope (s : Stmt) : Scope := match s with
  | .FunctionDef _ _ _ _ _ _ sc _ _ _ => sc
  | _ => { kind := .function, names := [], isGenerator := false, isCoroutine := false }
abbrev CX0 : CXT := fun _ _ _ _ _ _ => False
abbrev E0 : XK := fun _ _ _ => False
theorem pass0 {X : Cx} : Passes CX0 X E0 := fun _ _ _ _ _ _ _ h => h.elim
structure Fun (K : PySem.W.Frag) (x qual : Str) (st : Stmt) (f : Addr) (fd : FuncData) : Prop where
  ex : ∃ (oc : Value) (od : Option Addr) (kV doc pm : Value) (an : Option Addr) (cdv ct : Value) (osl : Array (Option Value)),
    fd = PySem.W.fnOf x qual (defArgs st) (defBody st) (defScope st) .none kV doc pm an cdv ct ∧ K.lookup f = some ⟨oc, od, .func fd, osl⟩ ∧ PySem.W.codeIn K cdv qual = true
  kp : PySem.W.keepIn K (.ref f) = true
section
variable {P : Program} {w : World} {K : PySem.W.Frag} {mg : Str → Option Value} {base : Heap}
/-- THE RULE for a def: its body as a term of rules, and the reading of that term -/
theorem Fun.ok {x qual : Str} {st : Stmt} {f : Addr} {fd : FuncData} {N ps : List Str} {k : Nat} {sp : Sp} (F : Fun K x qual st f fd) (S : FnScope N ps (defScope st)) (len : ∀ vs H Q E, sp vs H Q E → vs.length = ps.length)
    (hbody : ∀ (cdv : Value) (A : Around) (outer : List Env) (s : Shared) (H : Hp) (vs : List V) (Q : VK) (E : XK), Room k (A.deeper (envOfC qual (defScope st) s.heap.objs.size f cdv)) → sp vs H Q E →
      ∃ t, PSs (cxOf CX0 P w K mg base N qual (defScope st) f cdv A outer s H E).nox (defBody st) t ∧ t { nx := fun _ H' => Q .non H', rt := Q } (start N vs) H) : FnOk P w K mg base CX0 (k + 1) f fd ps sp := by
  obtain ⟨oc, od, kV, doc, pm, an, cdv, ct, osl, rfl, lk, hcd⟩ := F.ex
  refine fn_of lk hcd S len fun A outer s H vs Q E hr hsp => ?_
  obtain ⟨t, h, q⟩ := hbody cdv A outer s H vs Q E hr hsp
  exact ⟨t, h.nox, q⟩
/-- how its arguments bind (no defaults): h is «fun _ _ _ _ _ _ us hl => match us, hl with | [_, _], _ => rfl», one _ a parameter -/
theorem Fun.binds {x qual : Str} {st : Stmt} {f : Addr} {fd : FuncData} {ps : List Str} (F : Fun K x qual st f fd)
    (h : ∀ (kV doc pm : Value) (an : Option Addr) (cdv ct : Value) (us : List Value), us.length = ps.length → bindArgs (PySem.W.fnOf x qual (defArgs st) (defBody st) (defScope st) .none kV doc pm an cdv ct) ⟨us, []⟩ = pure (ps.zip us)) : Binds K fd ps [] := by
  obtain ⟨oc, od, kV, doc, pm, an, cdv, ct, osl, rfl, lk, hcd⟩ := F.ex
  exact .all (h kV doc pm an cdv ct)
theorem fun_mk {x qual : Str} {st : Stmt} {f : Addr} {oc : Value} {od an : Option Addr} {osl : Array (Option Value)} {kV doc pm cdv ct : Value} (l : K.lookup f = some ⟨oc, od, .func (PySem.W.fnOf x qual (defArgs st) (defBody st) (defScope st) .none kV doc pm an cdv ct), osl⟩)
    (c : PySem.W.codeIn K cdv qual = true) (k : PySem.W.keepIn K (.ref f) = true) : Fun K x qual st f (PySem.W.fnOf x qual (defArgs st) (defBody st) (defScope st) .none kV doc pm an cdv ct) := ⟨⟨oc, od, kV, doc, pm, an, cdv, ct, osl, rfl, l, c⟩, k⟩
end
theorem hu_of {A : Around} {k : Nat} (hr : Room k A) : A.units + 1 < cLine := Nat.lt_of_le_of_lt (Nat.add_le_add_left (by decide : 1 ≤ 64) _) hr.units
theorem small1000 {n : Nat} (h : n ≤ 1000) : n < sizeLine := Nat.lt_of_le_of_lt h (by decide)
section
variable {X : Cx}
theorem pv (i : Nat) {x : Str} {pos : Pos} (hN : X.N[i]? = some x := by rfl) (hv : Vis X.env.scope x := by first | exact Or.inl rfl | exact Or.inr (Or.inl rfl) | exact Or.inr (Or.inr rfl)) (hd : (x == ("__debug__" : Str)) = false := by decide)
    (hcd : (x == ("__classdict__" : Str)) = false := by decide) : PE X (.Name x pos) (tVar i) := pe_var hN hv hd hcd
/-- len of a dict -/
theorem call_lenD : CallR X (.builtin "len") (fun xs H Q => ∃ a kvs, xs = [V.ref a] ∧ H a = some (.dK kvs) ∧ Q (.int kvs.length) H) := by
  intro pins s σ H xs us Q I r h
  obtain ⟨a, kvs, rfl, ha, q⟩ := h
  obtain ⟨u, rfl, ru⟩ := vals1 r
  cases ru
  exact d_len I (.inl ha) fun t s' I' => ⟨.int kvs.length, H, I', ⟨t, rfl⟩, q⟩
end
theorem iteF {A B : Prop} (h : B) : if false = true then A else B := by
  rw [if_neg Bool.false_ne_true]
  exact h
theorem iteT {A B : Prop} (h : A) : if true = true then A else B := by
  rw [if_pos rfl]
  exact h
theorem ite2 {c A B : Prop} [Decidable c] (h1 : c → A) (h2 : ¬ c → B) : if c then A else B := by
  by_cases h : c
  · rw [if_pos h]
    exact h1 h
  · rw [if_neg h]
    exact h2 h
/-- all that was tracked is as it was -/
def Same (H H' : Hp) : Prop := ∀ b o, H b = some o → H' b = some o
theorem Same.refl (H : Hp) : Same H H := fun _ _ h => h
theorem Same.trans {H H1 H2 : Hp} (a : Same H H1) (b : Same H1 H2) : Same H H2 := fun c o h => b c o (a c o h)
theorem Same.free {H H' : Hp} (e : Same H H') {l : Addr} (h : H' l = Option.none) : H l = Option.none := by
  cases q : H l with
  | none => rfl
  | some o =>
    rw [e l o q] at h
    cases h
theorem Same.seq {K : PySem.W.Frag} {H H' : Hp} {a : Addr} {xs : List V} (e : Same H H') (h : SqL K H a xs) : SqL K H' a xs := by
  rcases h with (h | ⟨o, h⟩) | h
  · exact .inl (.inl (e _ _ h))
  · exact .inl (.inr ⟨o, e _ _ h⟩)
  · exact .inr h
theorem at_of {xs : List V} {z : Int} {j : Nat} {v : V} (e : z = (j : Int)) (h : xs[j]? = some v) : atI xs z = some v := by
  rw [e]
  exact atI_nat h
end L2

section
set_option Elab.async false
set_option linter.all false
set_option maxRecDepth 100000
set_option maxHeartbeats 2000000
namespace L2
open PySem PySem.Spec PyProof.Rows
open PySem.W (WData Codec OpenSpec Well WellAll ReadsW ReadsAllW)
/-! ### an answer as data -/
mutual
/-- x stands for the datum d, lists and tuples all the way -/
inductive Dw (K : PySem.W.Frag) (H : Hp) : V → WData → Prop
  | non : Dw K H .non .none
  | bl (b : Bool) : Dw K H (.bl b) (.bool b)
  | int (i : Int) : Dw K H (.int i) (.int i)
  | str (x : Str) : Dw K H (.str x) (.str x)
  | byt (b : Array UInt8) : Dw K H (.byt b) (.bytes b.toList)
  | lst {a : Addr} {xs : List V} {ds : List WData} : SqL K H a xs → DwAll K H xs ds → Dw K H (.ref a) (.list ds)
  | tup {a : Addr} {xs : List V} {ds : List WData} : SqT K H a xs → DwAll K H xs ds → Dw K H (.ref a) (.tuple ds)
inductive DwAll (K : PySem.W.Frag) (H : Hp) : List V → List WData → Prop
  | nil : DwAll K H [] []
  | cons {v : V} {vs : List V} {d : WData} {ds : List WData} : Dw K H v d → DwAll K H vs ds → DwAll K H (v :: vs) (d :: ds)
end
theorem dw_ints {K : PySem.W.Frag} {H : Hp} : ∀ ns : List Int, DwAll K H (ns.map V.int) (ns.map WData.int)
  | [] => .nil
  | n :: r => .cons (.int n) (dw_ints r)
theorem ints_dw {K : PySem.W.Frag} {H : Hp} : ∀ (ns : List Int) (xs : List V), DwAll K H xs (ns.map WData.int) → xs = ns.map V.int
  | [], xs, h => by
    cases h
    rfl
  | n :: r, xs, h => by
    cases h with
    | cons h1 h2 =>
      cases h1
      rw [ints_dw r _ h2] <;> rfl
section
variable {P : Program} {w : World} {K : PySem.W.Frag} {H : Hp} {h : Heap} {R : PySem.W.WRecords} {cl : Str → Option Addr}
theorem sqL_at {a : Addr} {xs : List V} (hok : HOk P w H h) (KX : K.In h) (q : SqL K H a xs) : ∃ (its : List Value) (o : Obj) (n : Nat), Vals xs its ∧ h.get? a = some o ∧ o.cls = .type "list" ∧ o.data = .seq its.toArray n := by
  rcases q with q | ⟨o, its, n, e, hc, _, hd, _, hv⟩
  · obtain ⟨_, its, n, hv, e⟩ := (show ObjOk P w H h a (.lst xs) from q.ok hok)
    exact ⟨its, _, n, hv, e, rfl, rfl⟩
  · exact ⟨its.toList, o, n, hv, KX _ _ e, hc, by simp [hd]⟩
theorem sqT_at {a : Addr} {xs : List V} (hok : HOk P w H h) (KX : K.In h) (q : SqT K H a xs) : ∃ (its : List Value) (o : Obj) (n : Nat), Vals xs its ∧ h.get? a = some o ∧ o.cls = .type "tuple" ∧ o.data = .seq its.toArray n := by
  rcases q with q | ⟨o, its, n, e, hc, hd, _, hv⟩
  · obtain ⟨_, its, hv, o, e, hc, n, hd⟩ := (show ObjOk P w H h a (.tup xs) from q.ok hok)
    exact ⟨its, o, n, hv, e, hc, hd⟩
  · exact ⟨its.toList, o, n, hv, KX _ _ e, hc, by simp [hd]⟩
mutual
theorem Dw.reads (hok : HOk P w H h) (KX : K.In h) : ∀ (d : WData) (v : V) (u : Value), Dw K H v d → RelV v u → ∃ as, ReadsW R cl h u d as
  | .none, _, _, x, r => by
    cases x
    cases r
    exact ⟨_, ReadsW.none⟩
  | .bool b, _, _, x, r => by
    cases x
    cases r
    exact ⟨_, ReadsW.bool b⟩
  | .int i, _, _, x, r => by
    cases x
    obtain ⟨t, rfl⟩ := r
    exact ⟨_, ReadsW.int i t⟩
  | .str s, _, _, x, r => by
    cases x
    obtain ⟨t, rfl⟩ := r
    exact ⟨_, ReadsW.str s t⟩
  | .bytes b, _, _, x, r => by
    cases x
    obtain ⟨t, rfl⟩ := r
    exact ⟨_, ReadsW.bytes _ t⟩
  | .list ds, _, _, x, r => by
    cases x with
    | lst hs ha =>
      cases r
      obtain ⟨its, o, n, rv, ho, hc, hd⟩ := sqL_at hok KX hs
      obtain ⟨as, hr⟩ := Dw.readsAll hok KX ds _ its ha rv
      exact ⟨_, ReadsW.list ho hc hd hr⟩
  | .tuple ds, _, _, x, r => by
    cases x with
    | tup hs ha =>
      cases r
      obtain ⟨its, o, n, rv, ho, hc, hd⟩ := sqT_at hok KX hs
      obtain ⟨as, hr⟩ := Dw.readsAll hok KX ds _ its ha rv
      exact ⟨_, ReadsW.tuple ho hc hd hr⟩
  | .float _, _, _, x, _ => by cases x
  | .dict _, _, _, x, _ => by cases x
  | .bytearray _, _, _, x, _ => by cases x
  | .set _, _, _, x, _ => by cases x
  | .frozenset _, _, _, x, _ => by cases x
  | .obj _ _, _, _, x, _ => by cases x
theorem Dw.readsAll (hok : HOk P w H h) (KX : K.In h) : ∀ (ds : List WData) (vs : List V) (us : List Value), DwAll K H vs ds → Vals vs us → ∃ as, ReadsAllW R cl h us ds as
  | [], _, _, x, r => by
    cases x
    cases r
    exact ⟨_, ReadsAllW.nil⟩
  | d :: ds, _, _, x, r => by
    cases x with
    | cons h1 h2 =>
      cases r with
      | cons r1 r2 =>
        obtain ⟨as, q1⟩ := Dw.reads hok KX d _ _ h1 r1
        obtain ⟨bs, q2⟩ := Dw.readsAll hok KX ds _ _ h2 r2
        exact ⟨_, ReadsAllW.cons q1 q2⟩
end
end
/-! ### the arguments -/
mutual
/-- data that a codec tells -/
def plW : WData → Bool
  | .none => true
  | .bool _ => true
  | .int _ => true
  | .str _ => true
  | .bytes _ => true
  | .list xs => plWs xs
  | .tuple xs => plWs xs
  | _ => false
def plWs : List WData → Bool
  | [] => true
  | x :: r => plW x && plWs r
end
theorem plWs_map {α : Type} {f : α → WData} (h : ∀ a, plW (f a) = true) : ∀ l : List α, plWs (l.map f) = true
  | [] => rfl
  | x :: r => by
    show (plW (f x) && plWs (r.map f)) = true
    rw [h x, plWs_map h r] <;> rfl
theorem pl_enc : ∀ (c : Codec) (a : c.denote), plW (c.enc a) = true
  | .unit, _ => rfl
  | .bool, _ => rfl
  | .int _ _, _ => rfl
  | .nat _ _, _ => rfl
  | .u8, _ => rfl
  | .bytes _ _, _ => rfl
  | .text _ _ _ _, _ => rfl
  | .list _ _ c, a => plWs_map (fun x => pl_enc c x) a
  | .pair c d, a => by
    show (plW (c.enc a.1) && (plW (d.enc a.2) && true)) = true
    rw [pl_enc c a.1, pl_enc d a.2] <;> rfl
  | .triple c d e, a => by
    show (plW (c.enc a.1) && (plW (d.enc a.2.1) && (plW (e.enc a.2.2) && true))) = true
    rw [pl_enc c a.1, pl_enc d a.2.1, pl_enc e a.2.2] <;> rfl
  | .option c, none => rfl
  | .option c, some x => pl_enc c x
theorem pl_encAll : ∀ (cs : List Codec) (a : Codec.denoteAll cs), plWs (Codec.encAll cs a) = true
  | [], _ => rfl
  | c :: cs, a => by
    show (plW (c.enc a.1) && plWs (Codec.encAll cs a.2)) = true
    rw [pl_enc c a.1, pl_encAll cs a.2] <;> rfl
theorem weight_mem : ∀ {xs : List WData} {d : WData}, d ∈ xs → d.weight ≤ WData.weightAll xs
  | [], d, h => absurd h (by simp)
  | x :: r, d, h => by
    show d.weight ≤ x.weight + 1 + WData.weightAll r
    rcases List.mem_cons.mp h with e | m
    · rw [e]
      omega
    · have z := weight_mem m
      omega
def toV : Value → V
  | .none => .non
  | .bool b => .bl b
  | .int i _ => .int i
  | .str x _ => .str x
  | .bytes b _ => .byt b
  | .ref a => .ref a
  | _ => .non
/-- a value of the arguments, its objects among A -/
def OkU (A : List Addr) : Value → Prop
  | .none => True
  | .bool _ => True
  | .int _ _ => True
  | .str _ _ => True
  | .bytes _ _ => True
  | .ref a => a ∈ A
  | _ => False
theorem OkU.mono {A B : List Addr} (h : ∀ a ∈ A, a ∈ B) : ∀ {u : Value}, OkU A u → OkU B u := fun {u} x => by
  cases u with
  | ref a => exact h a x
  | none => trivial
  | bool b => trivial
  | int i t => trivial
  | str s t => trivial
  | bytes b t => trivial
  | _ => exact False.elim x
theorem relV_toV {A : List Addr} {u : Value} (x : OkU A u) : RelV (toV u) u := by
  cases u with
  | ref a => rfl
  | none => rfl
  | bool b => rfl
  | int i t => exact ⟨t, rfl⟩
  | str s t => exact ⟨t, rfl⟩
  | bytes b t => exact ⟨t, rfl⟩
  | _ => exact False.elim x
theorem vals_toV {A : List Addr} : ∀ {vs : List Value}, (∀ u ∈ vs, OkU A u) → Vals (vs.map toV) vs
  | [], _ => .nil
  | u :: r, h => .cons (relV_toV (h u (List.mem_cons_self ..))) (vals_toV fun x hx => h x (List.mem_cons_of_mem _ hx))
/-- an object of the arguments -/
def ArgOb (h : Heap) (A : List Addr) (a : Addr) : Prop := ∃ vs : List Value, vs.length ≤ sizeLine ∧ (∀ u ∈ vs, OkU A u) ∧
  (h.get? a = some { cls := .type "list", data := .seq vs.toArray } ∨ h.get? a = some { cls := .type "tuple", data := .seq vs.toArray })
theorem ArgOb.mono {h : Heap} {A B : List Addr} {a : Addr} (k : ∀ a ∈ A, a ∈ B) (x : ArgOb h A a) : ArgOb h B a := by
  obtain ⟨vs, h1, h2, h3⟩ := x
  exact ⟨vs, h1, fun u hu => (h2 u hu).mono k, h3⟩
theorem wellAll_len {P : Params} {h : Heap} : ∀ {vs : List Value} {ds : List WData}, WellAll P h vs ds → vs.length = ds.length
  | _, _, .nil => rfl
  | _, _, .cons _ b => by
    show _ + 1 = _ + 1
    rw [wellAll_len b]
theorem well_list {P : Params} {h : Heap} {v : Value} {ds : List WData} (x : Well P h v (.list ds)) : ∃ (a : Addr) (vs : List Value), v = .ref a ∧ h.get? a = some { cls := .type "list", data := .seq vs.toArray } ∧ WellAll P h vs ds := by
  cases x with
  | list ho hall => exact ⟨_, _, rfl, ho, hall⟩
theorem well_tuple {P : Params} {h : Heap} {v : Value} {ds : List WData} (x : Well P h v (.tuple ds)) : ∃ (a : Addr) (vs : List Value), v = .ref a ∧ h.get? a = some { cls := .type "tuple", data := .seq vs.toArray } ∧ WellAll P h vs ds := by
  cases x with
  | tuple ho hall => exact ⟨_, _, rfl, ho, hall⟩
theorem well_cons {P : Params} {h : Heap} {us : List Value} {d : WData} {ds : List WData} (x : WellAll P h us (d :: ds)) : ∃ (v : Value) (vs : List Value), us = v :: vs ∧ Well P h v d ∧ WellAll P h vs ds := by
  cases x with
  | cons a b => exact ⟨_, _, rfl, a, b⟩
theorem line_of {n : Nat} (h : n ≤ 1048576) : n ≤ sizeLine := Nat.le_trans h (by decide)
section
variable {P : Params} {h : Heap}
mutual
theorem area_one : ∀ (d : WData) (v : Value), Well P h v d → plW d = true → d.weight ≤ 1048576 → ∃ A : List Addr, OkU A v ∧ ∀ a ∈ A, ArgOb h A a
  | .none, _, x, _, _ => by
    cases x
    exact ⟨[], trivial, fun a m => absurd m (by simp)⟩
  | .bool b, _, x, _, _ => by
    cases x
    exact ⟨[], trivial, fun a m => absurd m (by simp)⟩
  | .int i, _, x, _, _ => by
    cases x
    exact ⟨[], trivial, fun a m => absurd m (by simp)⟩
  | .str s, _, x, _, _ => by
    cases x
    exact ⟨[], trivial, fun a m => absurd m (by simp)⟩
  | .bytes b, _, x, _, _ => by
    cases x
    exact ⟨[], trivial, fun a m => absurd m (by simp)⟩
  | .list ds, _, x, p, z => by
    obtain ⟨a, vs, rfl, ho, hall⟩ := well_list x
    have z2 : WData.weightAll ds ≤ 1048576 := z
    obtain ⟨A, h1, h2⟩ := area_all ds _ hall p fun d hd => Nat.le_trans (weight_mem hd) z2
    have k : ∀ b ∈ A, b ∈ a :: A := fun b hb => List.mem_cons_of_mem _ hb
    refine ⟨a :: A, List.mem_cons_self .., fun b hb => ?_⟩
    rcases List.mem_cons.mp hb with e | m
    · rw [e]
      exact ⟨vs, line_of (by rw [wellAll_len hall]; exact Nat.le_trans (PySem.W.length_le_weightAllW ds) z2), fun u hu => (h1 u hu).mono k, .inl ho⟩
    · exact (h2 b m).mono k
  | .tuple ds, _, x, p, z => by
    obtain ⟨a, vs, rfl, ho, hall⟩ := well_tuple x
    have z2 : WData.weightAll ds ≤ 1048576 := z
    obtain ⟨A, h1, h2⟩ := area_all ds _ hall p fun d hd => Nat.le_trans (weight_mem hd) z2
    have k : ∀ b ∈ A, b ∈ a :: A := fun b hb => List.mem_cons_of_mem _ hb
    refine ⟨a :: A, List.mem_cons_self .., fun b hb => ?_⟩
    rcases List.mem_cons.mp hb with e | m
    · rw [e]
      exact ⟨vs, line_of (by rw [wellAll_len hall]; exact Nat.le_trans (PySem.W.length_le_weightAllW ds) z2), fun u hu => (h1 u hu).mono k, .inr ho⟩
    · exact (h2 b m).mono k
  | .float _, _, _, p, _ => Bool.noConfusion (show false = true from p)
  | .dict _, _, _, p, _ => Bool.noConfusion (show false = true from p)
  | .bytearray _, _, _, p, _ => Bool.noConfusion (show false = true from p)
  | .set _, _, _, p, _ => Bool.noConfusion (show false = true from p)
  | .frozenset _, _, _, p, _ => Bool.noConfusion (show false = true from p)
  | .obj _ _, _, _, p, _ => Bool.noConfusion (show false = true from p)
theorem area_all : ∀ (ds : List WData) (vs : List Value), WellAll P h vs ds → plWs ds = true → (∀ d ∈ ds, d.weight ≤ 1048576) → ∃ A : List Addr, (∀ u ∈ vs, OkU A u) ∧ ∀ a ∈ A, ArgOb h A a
  | [], _, x, _, _ => by
    cases x
    exact ⟨[], fun u m => absurd m (by simp), fun a m => absurd m (by simp)⟩
  | d :: ds, _, x, p, z => by
    obtain ⟨v, vs, rfl, x1, x2⟩ := well_cons x
    have q : plW d = true ∧ plWs ds = true := Bool.and_eq_true_iff.mp p
    obtain ⟨A, a1, a2⟩ := area_one d v x1 q.1 (z d (List.mem_cons_self ..))
    obtain ⟨B, b1, b2⟩ := area_all ds vs x2 q.2 fun e he => z e (List.mem_cons_of_mem _ he)
    have kA : ∀ b ∈ A, b ∈ A ++ B := fun b hb => List.mem_append.mpr (.inl hb)
    have kB : ∀ b ∈ B, b ∈ A ++ B := fun b hb => List.mem_append.mpr (.inr hb)
    refine ⟨A ++ B, fun u hu => ?_, fun b hb => ?_⟩
    · rcases List.mem_cons.mp hu with e | m
      · rw [e]
        exact a1.mono kA
      · exact (b1 u m).mono kB
    · rcases List.mem_append.mp hb with m | m
      · exact (a2 b m).mono kA
      · exact (b2 b m).mono kB
end
end
/-- what is tracked of an argument's object -/
def hoOf (o : Obj) : Option HO := match o.data with
  | .seq vs _ => if (o.cls == Value.type "list") = true then some (.frz o (.lst (vs.toList.map toV))) else some (.frz o (.tup (vs.toList.map toV)))
  | _ => none
def argH (K : PySem.W.Frag) (h : Heap) (A : List Addr) : Hp := fun b => if b ∈ A then (if (K.lookup b).isNone = true then (h.get? b).bind hoOf else none) else none
/-- nothing is tracked but what is known to the object -/
def OnlyF (H : Hp) : Prop := ∀ b, H b = none ∨ ∃ o u, H b = some (.frz o u)
theorem hoOf_lst (vs : List Value) : hoOf { cls := .type "list", data := .seq vs.toArray } = some (.frz { cls := .type "list", data := .seq vs.toArray } (.lst (vs.map toV))) := by
  show (if (Value.type "list" == Value.type "list") = true then some (HO.frz { cls := .type "list", data := .seq vs.toArray } (.lst (vs.toArray.toList.map toV))) else some (HO.frz { cls := .type "list", data := .seq vs.toArray } (.tup (vs.toArray.toList.map toV)))) = _
  rw [if_pos (beq_self_eq_true _)]
theorem hoOf_tup (vs : List Value) : hoOf { cls := .type "tuple", data := .seq vs.toArray } = some (.frz { cls := .type "tuple", data := .seq vs.toArray } (.tup (vs.map toV))) := by
  show (if (Value.type "tuple" == Value.type "list") = true then some (HO.frz { cls := .type "tuple", data := .seq vs.toArray } (.lst (vs.toArray.toList.map toV))) else some (HO.frz { cls := .type "tuple", data := .seq vs.toArray } (.tup (vs.toArray.toList.map toV)))) = _
  rw [if_neg (by decide)]
section
variable {P : Program} {w : World} {K : PySem.W.Frag} {h : Heap} {A : List Addr}
theorem argH_at {b : Addr} {o : Obj} (hb : b ∈ A) (hk : K.lookup b = none) (e : h.get? b = some o) : argH K h A b = hoOf o := by
  unfold argH
  rw [if_pos hb, hk, if_pos (show (none : Option Obj).isNone = true from rfl), e] <;> rfl
theorem of_argH {b : Addr} {u : HO} (q : argH K h A b = some u) : b ∈ A ∧ K.lookup b = none := by
  unfold argH at q
  by_cases hb : b ∈ A
  · rw [if_pos hb] at q
    cases hk : K.lookup b with
    | none => exact ⟨hb, rfl⟩
    | some o =>
      rw [hk, if_neg (by simp)] at q
      cases q
  · rw [if_neg hb] at q
    cases q
/-- what stands tracked -/
theorem argH_is (ar : ∀ a ∈ A, ArgOb h A a) {b : Addr} {u : HO} (q : argH K h A b = some u) : K.lookup b = none ∧ ∃ vs : List Value, vs.length ≤ sizeLine ∧ (∀ u ∈ vs, OkU A u) ∧
    ((h.get? b = some { cls := .type "list", data := .seq vs.toArray } ∧ u = .frz { cls := .type "list", data := .seq vs.toArray } (.lst (vs.map toV))) ∨
     (h.get? b = some { cls := .type "tuple", data := .seq vs.toArray } ∧ u = .frz { cls := .type "tuple", data := .seq vs.toArray } (.tup (vs.map toV)))) := by
  obtain ⟨hb, hk⟩ := of_argH q
  obtain ⟨vs, h1, h2, h3⟩ := ar b hb
  refine ⟨hk, vs, h1, h2, ?_⟩
  rcases h3 with e | e
  · rw [argH_at hb hk e, hoOf_lst] at q
    exact .inl ⟨e, (Option.some.inj q).symm⟩
  · rw [argH_at hb hk e, hoOf_tup] at q
    exact .inr ⟨e, (Option.some.inj q).symm⟩
theorem argH_only (ar : ∀ a ∈ A, ArgOb h A a) : OnlyF (argH K h A) := fun b => by
  cases q : argH K h A b with
  | none => exact .inl rfl
  | some u =>
    obtain ⟨_, vs, _, _, ⟨_, e⟩ | ⟨_, e⟩⟩ := argH_is ar q
    · exact .inr ⟨_, _, by rw [e]⟩
    · exact .inr ⟨_, _, by rw [e]⟩
theorem argH_ok (ar : ∀ a ∈ A, ArgOb h A a) : HOk P w (argH K h A) h := fun b u q => by
  obtain ⟨_, vs, h1, h2, ⟨e, rfl⟩ | ⟨e, rfl⟩⟩ := argH_is ar q
  · exact ⟨e, by rw [List.length_map]; exact h1, vs, _, vals_toV h2, e⟩
  · exact ⟨e, by rw [List.length_map]; exact h1, vs, vals_toV h2, _, e, rfl, _, rfl⟩
theorem seq_inj {c c' : Value} {vs us : List Value} (e : (some { cls := c, data := .seq vs.toArray } : Option Obj) = some { cls := c', data := .seq us.toArray }) : c = c' ∧ vs = us := by
  have e1 := Option.some.inj e
  have e2 : c = c' := congrArg Obj.cls e1
  have e3 : Data.seq vs.toArray = Data.seq us.toArray := congrArg Obj.data e1
  injection e3 with e4
  refine ⟨e2, ?_⟩
  have e5 := congrArg Array.toList e4
  simpa using e5
/-- a list argument -/
theorem argL (KX : K.In h) (ar : ∀ a ∈ A, ArgOb h A a) {a : Addr} {vs : List Value} (ha : a ∈ A) (e : h.get? a = some { cls := .type "list", data := .seq vs.toArray }) : (∀ u ∈ vs, OkU A u) ∧ SqL K (argH K h A) a (vs.map toV) := by
  obtain ⟨us, h1, h2, h3⟩ := ar a ha
  have hu : us = vs := by
    rcases h3 with q | q
    · rw [e] at q
      exact (seq_inj q).2.symm
    · rw [e] at q
      exact absurd (Value.type.inj (seq_inj q).1) (by decide)
  subst hu
  refine ⟨h2, ?_⟩
  cases hk : K.lookup a with
  | none => exact .inl (.inr ⟨_, by rw [argH_at ha hk e, hoOf_lst]⟩)
  | some o =>
    have e2 := KX a o hk
    rw [e] at e2
    obtain rfl := Option.some.inj e2
    exact .inr ⟨_, us.toArray, _, hk, rfl, rfl, rfl, by rw [List.size_toArray]; exact h1, by simpa using vals_toV h2⟩
theorem argT (KX : K.In h) (ar : ∀ a ∈ A, ArgOb h A a) {a : Addr} {vs : List Value} (ha : a ∈ A) (e : h.get? a = some { cls := .type "tuple", data := .seq vs.toArray }) : (∀ u ∈ vs, OkU A u) ∧ SqT K (argH K h A) a (vs.map toV) := by
  obtain ⟨us, h1, h2, h3⟩ := ar a ha
  have hu : us = vs := by
    rcases h3 with q | q
    · rw [e] at q
      exact absurd (Value.type.inj (seq_inj q).1) (by decide)
    · rw [e] at q
      exact (seq_inj q).2.symm
  subst hu
  refine ⟨h2, ?_⟩
  cases hk : K.lookup a with
  | none => exact .inl (.inr ⟨_, by rw [argH_at ha hk e, hoOf_tup]⟩)
  | some o =>
    have e2 := KX a o hk
    rw [e] at e2
    obtain rfl := Option.some.inj e2
    exact .inr ⟨_, us.toArray, _, hk, rfl, rfl, by rw [List.size_toArray]; exact h1, by simpa using vals_toV h2⟩
mutual
theorem dw_one {Pm : Params} (KX : K.In h) (ar : ∀ a ∈ A, ArgOb h A a) : ∀ (d : WData) (v : Value), Well Pm h v d → plW d = true → OkU A v → Dw K (argH K h A) (toV v) d
  | .none, _, x, _, _ => by
    cases x
    exact .non
  | .bool b, _, x, _, _ => by
    cases x
    exact .bl b
  | .int i, _, x, _, _ => by
    cases x
    exact .int i
  | .str s, _, x, _, _ => by
    cases x
    exact .str s
  | .bytes b, _, x, _, _ => by
    cases x
    have z := Dw.byt (K := K) (H := argH K h A) b.toArray
    exact z
  | .list ds, _, x, p, hu => by
    obtain ⟨a, vs, rfl, ho, hall⟩ := well_list x
    obtain ⟨h2, hs⟩ := argL KX ar hu ho
    exact .lst hs (dw_all KX ar ds _ hall p h2)
  | .tuple ds, _, x, p, hu => by
    obtain ⟨a, vs, rfl, ho, hall⟩ := well_tuple x
    obtain ⟨h2, hs⟩ := argT KX ar hu ho
    exact .tup hs (dw_all KX ar ds _ hall p h2)
  | .float _, _, _, p, _ => Bool.noConfusion (show false = true from p)
  | .dict _, _, _, p, _ => Bool.noConfusion (show false = true from p)
  | .bytearray _, _, _, p, _ => Bool.noConfusion (show false = true from p)
  | .set _, _, _, p, _ => Bool.noConfusion (show false = true from p)
  | .frozenset _, _, _, p, _ => Bool.noConfusion (show false = true from p)
  | .obj _ _, _, _, p, _ => Bool.noConfusion (show false = true from p)
theorem dw_all {Pm : Params} (KX : K.In h) (ar : ∀ a ∈ A, ArgOb h A a) : ∀ (ds : List WData) (vs : List Value), WellAll Pm h vs ds → plWs ds = true → (∀ u ∈ vs, OkU A u) → DwAll K (argH K h A) (vs.map toV) ds
  | [], _, x, _, _ => by
    cases x
    exact .nil
  | d :: ds, _, x, p, hu => by
    obtain ⟨v, vs, rfl, x1, x2⟩ := well_cons x
    have q : plW d = true ∧ plWs ds = true := Bool.and_eq_true_iff.mp p
    exact .cons (dw_one KX ar d v x1 q.1 (hu _ (List.mem_cons_self ..))) (dw_all KX ar ds vs x2 q.2 fun u m => hu u (List.mem_cons_of_mem _ m))
end
end
/-! ### the call -/
theorem spec_call {P : Program} {w : World} {K : PySem.W.Frag} {mg mb : Str → Option Value} {CX : CXT} {k : Nat} {fa : Addr} {fd : FuncData} {ps : List Str} {sp : Sp} {s₁ : Shared} {vals : List Value} {ds : List WData} {R : PySem.W.WRecords} {cl : Str → Option Addr} {d0 : WData}
    (KX : K.In s₁.heap) (hns : s₁.heap.Ns mainGlobals mg) (hb : s₁.heap.Ns builtinsNs mb) (hbb : ∀ x : Str, x ≠ "__name__" → mb x = bootBuiltins x) (hlim : s₁.heap.NoLimit) (hg : s₁.gens = #[])
    (hwl : WellAll w.params s₁.heap vals ds) (hpl : plWs ds = true) (hwt : ∀ d ∈ ds, d.weight ≤ 1048576) (hr : Room k callerA)
    (F : ∀ base : Heap, K.In base → base.Ns mainGlobals mg → FnOk P w K mg base CX k fa fd ps sp) (hbind : ∀ (s : Shared) (us : List Value), us.length = ps.length → BindsTo s fd ⟨us, []⟩ (ps.zip us)) (hlen : ds.length = ps.length)
    (hsp : ∀ (H : Hp) (xs : List V), OnlyF H → DwAll K H xs ds → sp xs H (fun v H' => Dw K H' v d0) fun _ _ _ => False)
    (hCX : ∀ H e s', CX [] H s₁ (fun _ _ _ => False) e s' → False) :
    codeAny (model P w) callerA (.call (.ref fa) ⟨vals, []⟩) (fun r s' => ∃ u as, r = .ok (.ret u) ∧ ReadsW R cl s'.heap u d0 as ∧ OldK s₁.heap s'.heap ∧ s'.os = s₁.os ∧ AllBare s'.gens) s₁ := by
  obtain ⟨A, ho, ar⟩ := area_all ds vals hwl hpl hwt
  have hO : OnlyF (argH K s₁.heap A) := argH_only ar
  have hok : HOk P w (argH K s₁.heap A) s₁.heap := argH_ok ar
  have hS := dw_all KX ar ds vals hwl hpl ho
  have hV := vals_toV ho
  have hK : ∀ b u, argH K s₁.heap A b = some u → K.lookup b = none := fun b u q => (argH_is ar q).1
  have noA : ∀ {b : Addr} {o : Obj} {es : Array DictEntry} {ep : Nat}, s₁.heap.get? b = some o → o.data = .dict es ep → argH K s₁.heap A b = none := fun {b o es ep} e d => by
    cases q : argH K s₁.heap A b with
    | none => rfl
    | some u =>
      obtain ⟨_, vs, _, _, ⟨e2, _⟩ | ⟨e2, _⟩⟩ := argH_is ar q
      · rw [e2] at e
        cases e
        have d' : Data.seq vs.toArray _ = Data.dict es ep := d
        cases d'
      · rw [e2] at e
        cases e
        have d' : Data.seq vs.toArray _ = Data.dict es ep := d
        cases d'
  generalize argH K s₁.heap A = H at hO hok hS hK noA
  have base_of : ∀ {b : Addr} {o : Obj}, s₁.heap.get? b = some o → H b = none → (hidT s₁.heap H).get? b = some o := fun e n => hidT_get e n
  have nsK : ∀ {b : Addr} {m : Str → Option Value}, s₁.heap.Ns b m → (hidT s₁.heap H).Ns b m := fun {b m} ⟨o, es, ep, e, d, r⟩ => ⟨o, es, ep, base_of e (noA e d), d, r⟩
  have nK : ∀ b o, K.lookup b = some o → H b = none := fun b o e => by
    cases q : H b with
    | none => rfl
    | some u =>
      rw [hK b u q] at e
      cases e
  have hKb : K.In (hidT s₁.heap H) := fun b o e => base_of (KX b o e) (nK b o e)
  have hM : Mod K mg (hidT s₁.heap H) := ⟨hKb, nsK hns, ⟨mb, nsK hb, hbb⟩, let ⟨mc, h1, h2⟩ := hlim; ⟨mc, nsK h1, h2⟩⟩
  have e0 : Env0 P w K mg (hidT s₁.heap H) callerA [] s₁ H := ⟨rfl, hM, fun b o e => of_hidT e, Nat.le_of_eq (hidT_size _ _), trivial, fun b hb => absurd (show b ∈ ([] : List Addr) from hb) (by simp), hok, .of_eq hg⟩
  have hl : vals.length = ps.length := by rw [wellAll_len hwl]; exact hlen
  refine codeAny_mono ((F _ hKb (nsK hns)).run callerA [] s₁ H ⟨vals, []⟩ vals (vals.map toV) _ _ hr e0 (hbind s₁ vals hl) hV (hsp H _ hO hS)) fun r s' x => ?_
  cases r with
  | error e => exact (hCX H e s' x).elim
  | ok fl =>
    cases fl with
    | next => exact False.elim x
    | brk => exact False.elim x
    | cont => exact False.elim x
    | ret u =>
      obtain ⟨v, H', os, bare, un, hok', r', q⟩ := x
      have kept : ∀ b o, s₁.heap.get? b = some o → s'.heap.get? b = some o := fun b o e => by
        cases q2 : H b with
        | none => exact un.keep b o e q2 (by intro z; exact absurd (show b ∈ ([] : List Addr) from z) (by simp)) (by simp)
        | some u2 =>
          rcases hO b with z | ⟨ob, u3, z⟩
          · rw [q2] at z
            cases z
          · have z2 := un.frzs b ob _ z
            obtain ⟨e1, _⟩ := hok b _ z
            obtain ⟨e2, _⟩ := hok' b _ z2
            rw [e] at e1
            cases e1
            exact e2
      have KX' : K.In s'.heap := fun b o e => kept b o (KX b o e)
      obtain ⟨as, hrd⟩ := Dw.reads (R := R) (cl := cl) hok' KX' d0 v u q r'
      exact ⟨u, as, rfl, hrd, OldK.of_keep kept, os, bare⟩
/-! ### the row -/
theorem layable_weight {ds : List WData} (h : WData.layableAll ds = true) : ∀ d ∈ ds, d.weight ≤ 1048576 := fun d hd =>
  (PySem.W.layableW_iff.mp (List.all_eq_true.mp h d hd)).2.2
theorem encAll_len : ∀ (cs : List Codec) (a : Codec.denoteAll cs), (Codec.encAll cs a).length = cs.length
  | [], _ => rfl
  | c :: cs, a => by
    show (Codec.encAll cs a.2).length + 1 = cs.length + 1
    rw [encAll_len cs a.2]
/-- the goal that k_headS leaves (case hc), from the promise of the row's def: whatever the arguments that the codecs let and the row asks for, the def gives what stands for enc (f ..) -/
theorem walk_spec {r : OpenSpec} {k : Nat} {q : Program} {loose : List Str} {XP : (Str → Option Value) → Heap → Prop} {YP : World → Heap → Prop} {d : DefRec} {K : Params → PySem.W.Frag} {CX : World → CXT} {ps : List Str} {sp : World → Sp}
    (hwell : r.wellSaid = true) (hdf : d.params.defaults = []) (hlen : r.args.length = ps.length) (hr : Room k callerA)
    (hY : ∀ (w : World) (h : Heap), YP w h → (K w.params).In h)
    (F : ∀ (w : World) (mg : Str → Option Value) (fa : Addr) (h : Heap), YP w h → (K w.params).In h → h.Ns mainGlobals mg → mg d.name = some (.ref fa) →
      ∃ fd : FuncData, (∀ (s : Shared) (us : List Value), us.length = ps.length → BindsTo s fd ⟨us, []⟩ (ps.zip us)) ∧
        ∀ base : Heap, (K w.params).In base → base.Ns mainGlobals mg → FnOk r.prog w (K w.params) mg base (CX w) k fa fd ps (sp w))
    (hsp : ∀ (w : World) (H : Hp) (xs : List V) (a : Codec.denoteAll r.args), OnlyF H → Codec.withinAll r.args a = true → Codec.app r.args r.asked a = true → DwAll (K w.params) H xs (Codec.encAll r.args a) →
      sp w xs H (fun v H' => Dw (K w.params) H' v (r.ret.enc (Codec.app r.args r.f a))) fun _ _ _ => False)
    (hCX : ∀ (w : World) (H : Hp) (s : Shared) (e : Value) (s' : Shared), CX w [] H s (fun _ _ _ => False) e s' → False) :
    PySem.W.WalkOS q loose XP YP r d [] (fun f vs => PySem.call f vs) := by
  intro w s_0 s₁ mg mb G Y fa o pm cd doc dV kV ho hd hcd hD hmg hg args vals as hpre hlay hrd hwl hlo
  obtain ⟨a, e1, e2⟩ := PySem.W.os_pre_some hpre
  obtain ⟨e3, hwi⟩ := Codec.encAll_of_decAll r.args args a e1
  subst e3
  have KX := hY w _ Y
  obtain ⟨fd, hb, hF⟩ := F w mg fa _ Y KX G.T.g hmg
  refine PySem.W.enter_call (codeAny_mono (spec_call (R := []) (cl := classAt s_0.heap) (d0 := r.ret.enc (Codec.app r.args r.f a)) KX G.T.g G.T.b G.T.builtins G.T.nolimit hg hwl (pl_encAll _ _) (layable_weight hlay) hr hF hb (by rw [encAll_len]; exact hlen)
    (fun H xs hO hS => hsp w H xs a hO hwi e2 hS) fun H e s' => hCX w H s₁ e s') fun r' s' hq => ?_)
  obtain ⟨u, as', rfl, h1, h2, h3, h4⟩ := hq
  exact ⟨.inl ⟨u, _, as', rfl, fun _ => rfl, h1, (OpenSpec.post_iff hwell hwi _ _).mpr rfl, fun z => Bool.noConfusion (show false = true from z)⟩, h2, h3, h4⟩
/-- the same where the promise hangs on the written part alone -/
theorem walk_specK {r : OpenSpec} {k : Nat} {q : Program} {loose : List Str} {XP : (Str → Option Value) → Heap → Prop} {YP : World → Heap → Prop} {d : DefRec} {K : Params → PySem.W.Frag} {CX : CXT} {ps : List Str} {sp : PySem.W.Frag → Sp}
    (hwell : r.wellSaid = true) (hdf : d.params.defaults = []) (hlen : r.args.length = ps.length) (hr : Room k callerA)
    (hY : ∀ (w : World) (h : Heap), YP w h → (K w.params).In h)
    (F : ∀ (w : World) (mg : Str → Option Value) (fa : Addr) (h : Heap), YP w h → (K w.params).In h → h.Ns mainGlobals mg → mg d.name = some (.ref fa) →
      ∃ fd : FuncData, (∀ (s : Shared) (us : List Value), us.length = ps.length → BindsTo s fd ⟨us, []⟩ (ps.zip us)) ∧
        ∀ base : Heap, (K w.params).In base → base.Ns mainGlobals mg → FnOk r.prog w (K w.params) mg base CX k fa fd ps (sp (K w.params)))
    (hsp : ∀ (K : PySem.W.Frag) (H : Hp) (xs : List V) (a : Codec.denoteAll r.args), OnlyF H → Codec.withinAll r.args a = true → Codec.app r.args r.asked a = true → DwAll K H xs (Codec.encAll r.args a) →
      sp K xs H (fun v H' => Dw K H' v (r.ret.enc (Codec.app r.args r.f a))) fun _ _ _ => False)
    (hCX : ∀ (H : Hp) (s : Shared) (e : Value) (s' : Shared), CX [] H s (fun _ _ _ => False) e s' → False) :
    PySem.W.WalkOS q loose XP YP r d [] (fun f vs => PySem.call f vs) :=
  walk_spec (K := K) (CX := fun _ => CX) (sp := fun w => sp (K w.params)) hwell hdf hlen hr hY F (fun w H xs a h1 h2 h3 h4 => hsp (K w.params) H xs a h1 h2 h3 h4) fun _ H s e s' => hCX H s e s'
end L2
-- rests on (row put in by the clerk, for the bench that shows a file only what it spells): KE.SpHead KE.OsShapes
end

/-! Rules that the hand layer lacks: a module's int constant, set(xs) and its len, sorted by a key; and the reading of a comprehension whose parts only read. -/
set_option Elab.async false
set_option linter.all false
set_option maxRecDepth 100000
namespace L2
open PySem PySem.Spec PyProof.Rows

theorem pe_gint {X : Cx} {x : Str} {i : Int} {pos : Pos} (hg : Gl X x) (hm : ∃ u, X.mg x = some (.int i u)) (hd : (x == ("__debug__" : Str)) = false := by decide) : PE X (.Name x pos) (tC (.int i)) := by
  obtain ⟨u, hm⟩ := hm
  exact pe_glob hg hm ⟨u, rfl⟩ hd

/-! ### the rules that read K, K told -/
section
variable {X : Cx} {K : PySem.W.Frag}
theorem pe_fldK {e : Expr} {f : Str} {pos : Pos} {ta : TE} (he : PE X e ta) (hK : X.K = K := by rfl) (hb : attributeBase e f X.env (eval e X.env) = eval e X.env := by rfl) : PE X (.Attribute e f pos) (tFld K ta f) := by
  subst hK; exact pe_fld he hb
theorem ps_fldK {o value : Expr} {f : Str} {pos pos' : Pos} {ta tv : TE} (ha : PE X o ta) (hv : PE X value tv) (hK : X.K = K := by rfl) (hs : swapsWith value (some (.Attribute o f pos')) pos.line X.env = pure false := by rfl) : PS X (.Assign [.Attribute o f pos'] value pos) (sFld K ta tv f) := by
  subst hK; exact ps_fld ha hv hs
theorem ix_listK (hK : X.K = K := by rfl) : IxR X (rIxL K) := by subst hK; exact ix_list
theorem ix_tupK (hK : X.K = K := by rfl) : IxR X (rIxT K) := by subst hK; exact ix_tup
theorem op_in_seqK (hK : X.K = K := by rfl) : OpR X (compareOp .In) (rIn K false) := by subst hK; exact op_in_seq
theorem op_notIn_seqK (hK : X.K = K := by rfl) : OpR X (compareOp .NotIn) (rIn K true) := by subst hK; exact op_notIn_seq
theorem call_len_seqK (hK : X.K = K := by rfl) : CallR X (.builtin "len") (fun xs H Q => ∃ p ys, xs = [.ref p] ∧ (SqL K H p ys ∨ SqT K H p ys) ∧ Q (.int ys.length) H) := by subst hK; exact call_len_seq
theorem call_list_ofK (hK : X.K = K := by rfl) : CallR X (.type "list") (fun xs H Q => ∃ p ys, xs = [.ref p] ∧ (SqL K H p ys ∨ SqT K H p ys) ∧ ∀ l, H l = none → Q (.ref l) (upd H l (.lst ys))) := by subst hK; exact call_list_of
theorem cr_anyK (hc : X.calm = true := by rfl) (hK : X.K = K := by rfl) : CallR X (.builtin "any") (rAny K) := by subst hK; exact cr_any hc
theorem cr_allK (hc : X.calm = true := by rfl) (hK : X.K = K := by rfl) : CallR X (.builtin "all") (rAll K) := by subst hK; exact cr_all hc
theorem sl_listK (hK : X.K = K := by rfl) : SlR X (rSlL K) := by subst hK; exact sl_list
theorem pi_listK {tg l : Expr} {tl : TE} (hl : PE X l tl) (hK : X.K = K := by rfl) : PI X tg l (iList K tl) := by subst hK; exact pi_list hl
theorem pi_reversedK {tg e : Expr} {ta : TA} {p pos : Pos} (hm : X.mg "reversed" = none) (ha : PA X [e] ta) (hK : X.K = K := by rfl) (hg : Gl X "reversed" := by rfl) (hs : starEach [e] X.env = [(false, eval e X.env)] := by rfl) : PI X tg (.Call (.Name "reversed" p) [e] [] pos) (iRev K ta) := by
  subst hK; exact pi_reversed hg hm ha hs
end
/-! ### a op1 b op2 c op3 d -/
def tChain3 (r r' r'' : R2) (ta tb tc td : TE) : TE := fun σ H Q => ta σ H fun x H1 => tb σ H1 fun y H2 => r x y H2 fun z H3 => ∃ k, z = .bl k ∧
  (if k = true then tc σ H3 fun y2 H4 => r' y y2 H4 fun z2 H5 => ∃ k2, z2 = .bl k2 ∧ (if k2 = true then td σ H5 fun y3 H6 => r'' y2 y3 H6 Q else Q (.bl false) H5) else Q (.bl false) H3)
theorem pe_chain3 {X : Cx} {a b c d : Expr} {ta tb tc td : TE} {pos : Pos} {op op' op'' : CmpOp} {r r' r'' : R2} (ho : OpR X (compareOp op) r) (ho' : OpR X (compareOp op') r') (ho'' : OpR X (compareOp op'') r'') (ha : PE X a ta) (hb : PE X b tb) (hc : PE X c tc) (hd : PE X d td)
    (hm : lastMarks [op, op', op''] [b, c, d] = false := by with_unfolding_all rfl) : PE X (.Compare a [op, op', op''] [b, c, d] pos) (tChain3 r r' r'' ta tb tc td) := by
  intro pins s σ H Q I h
  refine Compare_chain (thn (ha pins s σ H _ I h) fun v s1 ⟨x, H1, I1, r1, q1⟩ => chain_link (thn (hb pins s1 σ H1 _ I1 q1) fun u s2 ⟨y, H2, I2, r2, q2⟩ =>
    thn (ho pins s2 σ H2 x y v u _ I2 r1 r2 q2) fun d s3 ⟨z, H3, I3, r3, k, e, q3⟩ => ?_)) hm
  subst e
  cases r3
  refine wpAny_truthy_bool ?_
  cases k with
  | false => exact ite_ff ⟨.bl false, H3, I3, rfl, q3⟩
  | true =>
    refine ite_tt (chain_link (thn (hc pins s3 σ H3 _ I3 q3) fun w' s4 ⟨z', H4, I4, r4, q4⟩ => thn (ho' pins s4 σ H4 y z' u w' _ I4 r2 r4 q4) fun d2 s5 ⟨z2, H5, I5, r5, k2, e2, q5⟩ => ?_))
    subst e2
    cases r5
    refine wpAny_truthy_bool ?_
    cases k2 with
    | false => exact ite_ff ⟨.bl false, H5, I5, rfl, q5⟩
    | true => exact ite_tt (chain_last (thn (hd pins s5 σ H5 _ I5 q5) fun w3 s6 ⟨z3, H6, I6, r6, q6⟩ => ho'' pins s6 σ H6 z' z3 w' w3 Q I6 r4 r6 q6))

/-! ### set(xs), len of it -/
def dedup (ns : List Int) : List Int := ns.foldl step_dedup []
theorem range_get (ns : List Int) : (List.range ns.length).map (fun i => ns.getD i 0) = ns := by
  refine List.ext_getElem (by simp) fun i h1 h2 => ?_
  simp [List.getElem?_eq_getElem h2]
theorem firstMet_all (ns : List Int) (n : Nat) (h : n = ns.length) : firstMet (fun i => ns.getD i 0) n = dedup ns := by
  subst h
  unfold firstMet dedup
  rw [range_get]
def rSetOf (K : PySem.W.Frag) : List V → Hp → VK → Prop := fun vs H Q => ∃ (a : Addr) (ns : List Int), vs = [V.ref a] ∧ SqL K H a (ns.map V.int) ∧ ns.length < 100 ∧
  ∀ (S : Int → Bool) (p : Addr), H p = none → Q (.ref p) (upd H p (.set S (dedup ns).length))
theorem call_setL {X : Cx} {K : PySem.W.Frag} (hc : X.calm = true := by rfl) (hK : X.K = K := by rfl) : CallR X (.type "set") (rSetOf K) := by
  subst hK
  intro pins s σ H vs us Q I r h
  obtain ⟨a, ns, rfl, hs, hlen, q⟩ := h
  obtain ⟨its, rv, hl, _⟩ := I.list hs
  rw [Vals.ref1 r]
  have hi := rv.ints
  have hlen' : its.length = ns.length := hi.length
  refine PySem.call_set_list (ns := ns) (I.ok.hd hc) hl.isList (by simpa using hi) (by rw [List.size_toArray, hlen']; unfold scanBound; omega) fun h' tk hS hk => ?_
  rw [firstMet_all ns _ (by rw [List.size_toArray]; exact hlen')] at hS
  exact ⟨.ref _, upd H s.heap.objs.size (.set _ (dedup ns).length), I.laid (t' := tk) (fun b u e => hk b u (Heap.lt_size e) e) (Nat.le_refl _) hS, rfl, q _ _ (I.hok.fresh (Nat.le_refl _))⟩
theorem call_lenSet {X : Cx} : CallR X (.builtin "len") (fun xs H Q => ∃ a S n, xs = [V.ref a] ∧ H a = some (.set S n) ∧ Q (.int (n : Nat)) H) := by
  intro pins s σ H xs us Q I r h
  obtain ⟨a, S, n, rfl, ha, q⟩ := h
  rw [Vals.ref1 r]
  obtain ⟨o, es, ep, t, ho, hex, hd, _, _, hb, hf, hn⟩ := (show s.heap.SetOf (intKind X.prog X.w) a S n from I.hok a _ ha)
  have hz : (es.size : Int) < 2 ^ 63 := by unfold scanBound at hb; omega
  refine PySem.call_len_set ho hex hd hf hz ?_
  rw [hn]
  exact ⟨.int (n : Nat), H, I.tok _, ⟨_, rfl⟩, q⟩

/-! ### what only reads -/
/-- an expression yields v, and the heap only grows -/
def Yl (t : TE) (σ : St) (H : Hp) (v : V) : Prop := ∀ Q : VK, (∀ H', Same H H' → Q v H') → t σ H Q
def YlT (t : TT) (σ : St) (H : Hp) (b : Bool) : Prop := ∀ Q : Bool → Hp → Prop, (∀ H', Same H H' → Q b H') → t σ H Q
theorem Same.new {H : Hp} {p : Addr} {o : HO} (h : H p = none) : Same H (upd H p o) := fun b u e => by rw [upd_ne (ne_of_none e h)]; exact e
theorem Same.after {H H' : Hp} {p : Addr} {o : HO} (s : Same H H') (h : H p = none) : Same H (upd H' p o) := fun b u e => by rw [upd_ne (ne_of_none e h)]; exact s b u e
theorem yl_var {i : Nat} {σ : St} {H : Hp} {v : V} (h : σ[i]? = some (some v)) : Yl (tVar i) σ H v := fun Q q => ⟨v, h, q H (Same.refl H)⟩
theorem take_succ_map {α β : Type} {l : List α} {i : Nat} {x : α} (h : l[i]? = some x) : l.take (i + 1) = l.take i ++ [x] := by
  rw [List.take_succ, h]; rfl
theorem filter_len {α : Type} (p : α → Bool) (l : List α) : (l.filter p).length ≤ l.length := List.length_filter_le _ _
/-- [g(x) for x in xs if p(x)], what p and g do only reads -/
theorem lc_reads {K : PySem.W.Frag} {α : Type} {l : List α} {val : α → V} {p : α → Bool} {g : α → V} {a : Addr} {j : Nat} {tt : TT} {te : TE} {vs : List Nat} {σ : St} {H1 : Hp} {D : Addr} {Qd : Hp → Prop}
    (hD : H1 D = none) (hl : SqL K H1 a (l.map val)) (hz : l.length < sizeLine) (hw : ∀ x ∈ l, wipe ((wipe σ vs).set j (some (val x))) vs = wipe σ vs)
    (ht : ∀ x ∈ l, ∀ H, Same H1 H → YlT tt ((wipe σ vs).set j (some (val x))) H (p x)) (he : ∀ x ∈ l, p x = true → ∀ H, Same H1 H → Yl te ((wipe σ vs).set j (some (val x))) H (g x))
    (hd : ∀ H', Same H1 H' → H' D = some (.lst ((l.filter p).map g)) → Qd H') :
    ∃ W : Nat → Nat → Hp → Prop, (∃ m, W 0 m (upd H1 D (.lst []))) ∧ ∀ i m H, W i m H →
      ((Itl K a).stop i H ∧ Qd H) ∨ ((Itl K a).go i H ∧ ∃ Nx : Hp → Prop, (∀ H', Nx H' → ∃ m', m' < m ∧ W (i + 1) m' H') ∧ ∀ x H', (Itl K a).yld i H x H' → (gName j) x (wipe σ vs) H' fun σ2 H2 => wipe σ2 vs = wipe σ vs ∧ tt σ2 H2 fun b H3 =>
        if b = true then te σ2 H3 fun y H4 => ∃ acc, H4 D = some (.lst acc) ∧ acc.length < sizeLine ∧ Nx (upd H4 D (.lst (acc ++ [y]))) else Nx H3) := by
  refine lc_list (xs := l.map val) (fun i H => Same H1 H ∧ H D = some (.lst (((l.take i).filter p).map g))) ⟨Same.new hD, upd_same⟩ (fun i H _ q => q.1.seq hl) (fun i x H hi q => ?_) (fun H q => ?_)
  · obtain ⟨s1, hDl⟩ := q
    rw [List.getElem?_map] at hi
    cases ex : l[i]? with
    | none => rw [ex] at hi; cases hi
    | some y =>
      rw [ex] at hi
      have exy : val y = x := Option.some.inj hi
      subst exy
      have hm : y ∈ l := List.mem_of_getElem? ex
      refine ⟨hw y hm, ht y hm H s1 _ fun H2 s2 => ?_⟩
      cases hp : p y with
      | true =>
        refine iteT (he y hm hp H2 (s1.trans s2) _ fun H3 s3 => ?_)
        refine ⟨_, s3 _ _ (s2 _ _ hDl), ?_, ?_⟩
        · rw [List.length_map]
          refine Nat.lt_of_le_of_lt (filter_len _ _) (Nat.lt_of_le_of_lt ?_ hz)
          rw [List.length_take]; exact Nat.min_le_right _ _
        · refine ⟨((s1.trans s2).trans s3).after hD, ?_⟩
          rw [upd_same, take_succ_map (β := V) ex, List.filter_append, List.filter_cons_of_pos hp, List.map_append]
          rfl
      | false =>
        refine iteF ⟨s1.trans s2, ?_⟩
        rw [take_succ_map (β := V) ex, List.filter_append, List.filter_cons_of_neg (by simp [hp]), List.filter_nil, List.append_nil]
        exact s2 _ _ hDl
  · obtain ⟨s1, hDl⟩ := q
    rw [List.length_map, List.take_length] at hDl
    exact hd H s1 hDl

/-! ### sorted(xs, key=f) -/
theorem ObjOk.ex {P : Program} {w : World} {H : Hp} {h : Heap} {a : Addr} {o : HO} (x : ObjOk P w H h a o) : ∃ ob, h.get? a = some ob := by
  cases o with
  | lst xs => obtain ⟨_, _, _, _, e⟩ := x; exact ⟨_, e⟩
  | tup xs => obtain ⟨_, _, _, ob, e, _⟩ := x; exact ⟨_, e⟩
  | dK kvs => obtain ⟨_, _, _, _, o, _, _, e, _⟩ := x; exact ⟨_, e⟩
  | dT kvs => obtain ⟨_, _, _, _, o, _, _, e, _⟩ := x; exact ⟨_, e⟩
  | set S n => obtain ⟨o, _, _, _, e, _⟩ := x; exact ⟨_, e⟩
  | ins C dx fs => obtain ⟨_, _, _, e, _⟩ := x; exact ⟨_, e⟩
  | own y => exact x
  | xd fs => obtain ⟨_, ⟨_, _, _, e, _⟩, _⟩ := x; exact ⟨_, e⟩
  | rng lo hi => obtain ⟨_, _, _, e⟩ := x; exact ⟨_, e⟩
  | frz ob u => obtain ⟨e, _⟩ := x; exact ⟨_, e⟩
  | tbl ps => exact ⟨_, (show h.get? a = some _ from x)⟩
  | met f y => exact ⟨_, (show h.get? a = some _ from x)⟩
  | ext φ => obtain ⟨_, e, _⟩ := x; exact e
theorem ns_unique {h : Heap} {a : Addr} {m m' : Str → Option Value} (x : h.Ns a m) (y : h.Ns a m') : m = m' := by
  obtain ⟨o, es, ep, e, d, _, r⟩ := x
  obtain ⟨o', es', ep', e', d', _, r'⟩ := y
  rw [e] at e'; cases e'
  rw [d] at d'; cases d'
  funext n
  rw [← r n, ← r' n]
/-- a def that may be a key: called with one value it gives an int, and every object stays -/
def KeyOk (P : Program) (w : World) (K : PySem.W.Frag) (f : Addr) (R : V → Int → Hp → Prop) : Prop :=
  ∀ (A : Around) (s : Shared) (H : Hp) (x : V) (v : Value) (k : Int), K.In s.heap → s.heap.NoLimit → HOk P w H s.heap → A.depth < recursionLimit → RelV x v → R x k H →
    wpAny (model P w) A (call (.ref f) [v]) (fun u s' => ∃ h' tk t', s' = { s with heap := h', toks := tk } ∧ u = .int k t' ∧ ∀ b o, s.heap.get? b = some o → h'.get? b = some o) (fun _ _ => False) s
theorem vals_keyed (key : V → Int) : ∀ {xs : List V} {us : List Value}, Vals xs us → ∀ (ps : List (Int × Value)), ps.Perm ((xs.map key).zip us) →
    ∃ zs : List V, Vals zs (ps.map Prod.snd) ∧ ps.map Prod.fst = zs.map key := by
  intro xs us r ps hp
  have hall : ∀ q ∈ (xs.map key).zip us, ∃ z, RelV z q.2 ∧ q.1 = key z := by
    clear hp
    induction r with
    | nil => intro q hq; simp at hq
    | cons h t ih =>
      intro q hq
      rw [List.map_cons, List.zip_cons_cons] at hq
      rcases List.mem_cons.mp hq with rfl | hq
      · exact ⟨_, h, rfl⟩
      · exact ih q hq
  have hps : ∀ q ∈ ps, ∃ z, RelV z q.2 ∧ q.1 = key z := fun q hq => hall q (hp.mem_iff.mp hq)
  clear hp hall
  induction ps with
  | nil => exact ⟨[], .nil, rfl⟩
  | cons q ps ih =>
    obtain ⟨z, h1, h2⟩ := hps q List.mem_cons_self
    obtain ⟨zs, h3, h4⟩ := ih fun c hc => hps c (List.mem_cons_of_mem _ hc)
    exact ⟨z :: zs, .cons h1 h3, by rw [List.map_cons, List.map_cons, h2, h4]⟩
theorem vals_filter (key : V → Int) (c : Int) : ∀ (ps : List (Int × Value)) (zs : List V), Vals zs (ps.map Prod.snd) → ps.map Prod.fst = zs.map key →
    Vals (zs.filter fun y => key y == c) ((ps.filter fun q => q.1 == c).map Prod.snd)
  | [], zs, r, _ => by
    cases r
    exact .nil
  | q :: ps, zs, r, e => by
    cases r with
    | @cons z _ zs _ h1 h2 =>
      obtain ⟨e1, e2⟩ := List.cons.inj (show q.1 :: ps.map Prod.fst = key z :: zs.map key from e)
      have ih := vals_filter key c ps zs h2 e2
      by_cases hc : key z = c
      · rw [List.filter_cons_of_pos (by simp [hc]), List.filter_cons_of_pos (by simp [e1, hc])]
        exact .cons h1 ih
      · rw [List.filter_cons_of_neg (by simp [hc]), List.filter_cons_of_neg (by simp [e1, hc])]
        exact ih
theorem pairwise_keys (key : V → Int) : ∀ (ps : List (Int × Value)) (zs : List V), ps.map Prod.fst = zs.map key → ps.Pairwise (fun p q => p.1 ≤ q.1) → zs.Pairwise (fun y z => key y ≤ key z) := by
  intro ps zs e h
  have h1 : (ps.map Prod.fst).Pairwise (fun a b : Int => a ≤ b) := List.pairwise_map.mpr h
  rw [e] at h1
  exact List.pairwise_map.mp h1
section
variable {X : Cx}
/-- the result: the list that is sorted by the keys and stable -/
def rSortK (K : PySem.W.Frag) (R : V → Int → Hp → Prop) : V → Hp → VK → Prop := fun x H Q => ∃ (a : Addr) (xs : List V) (key : V → Int), x = .ref a ∧ SqL K H a xs ∧ (∀ y ∈ xs, R y (key y) H) ∧
  ∀ (ys : List V) (p : Addr), ys.Pairwise (fun y z => key y ≤ key z) → (∀ z, ys.filter (fun y => key y == z) = xs.filter (fun y => key y == z)) → H p = none → Q (.ref p) (upd H p (.lst ys))
theorem sorted_key {R : V → Int → Hp → Prop} {fk : Addr} {pins : List (Addr × Obj)} {σ : St} {H : Hp} {s : Shared} {x : V} {v : Value} {Q : VK} (hk : KeyOk X.prog X.w X.K fk R) (hdp : X.A.depth + 5 < recursionLimit)
    (I : Inv X pins σ H s) (rx : RelV x v) (h : rSortK X.K R x H Q) : wpAny (model X.prog X.w) X.A (call (.builtin "sorted") [v] [(Str.ofString "key", .ref fk)]) (EP X pins σ Q) X.xe s := by
  obtain ⟨a, xs, key, rfl, hs, hR, q⟩ := h
  cases rx
  obtain ⟨its, rv, hl, hz⟩ := I.list hs
  obtain ⟨m, hn, hloc⟩ := id I.loc
  have hlen := rv.length
  -- every object of s but the frame's own stands in the ledger
  have old : ∀ {h' : Heap} {own : List (Addr × Obj)}, News (Att.noObjs s.heap) X.env.locals h' (allNews (Att.noObjs s.heap) s.heap X.env.locals ++ own) → ∀ b o, b ≠ X.env.locals → s.heap.get? b = some o → h'.get? b = some o :=
    fun {h' own} N b o hb e => (N (b, o) (List.mem_append_left _ (mem_allNews hb (Att.noObjs_get _ _) e))).1
  have baseNe : ∀ b o, X.base.get? b = some o → b ≠ X.env.locals := fun b o e => Nat.ne_of_lt (Nat.lt_of_lt_of_le (Heap.lt_size e) (Nat.le_trans I.ok.bsz I.ok.above))
  have hokOf : ∀ {h' : Heap}, (∀ b o, b ≠ X.env.locals → s.heap.get? b = some o → h'.get? b = some o) → HOk X.prog X.w H h' := fun {h'} k b u e =>
    (I.hok b u e).stay (fun c w' hc z => k c w' (by
      rcases hc with y | y
      · rw [y]; exact ne_of_none e I.free
      · exact ne_of_none y I.free) z) (fun _ z => z) fun _ _ z => z
  refine ksk_sortedSt (prog := X.prog) (w := X.w) (A := X.A) (E := X.xe) (b := false) (h₀ := Att.noObjs s.heap) (L := X.env.locals) (m := m) (news := allNews (Att.noObjs s.heap) s.heap X.env.locals) (kz := xs.map key) (f := .ref fk)
    (Att.fr_all hn) news_all hl.isList (by rw [List.length_map]; exact hlen) (by rw [← hlen]; exact hz) (ksk_s1 _ _) (fun y => ksk_l1 _ _) (fun y => ksk_t1 _ _) (fun i v k hv hkk h' tk own F N => ?_) (fun D h' tk out c F N hlt ko => ?_)
  · -- the key of one item
    have kk := old N
    obtain ⟨y, hy, ry⟩ : ∃ y, xs[i]? = some y ∧ RelV y v := by
      cases e : xs[i]? with
      | none => rw [Vals.none_of rv e] at hv; cases hv
      | some y =>
        obtain ⟨u, hu, ru⟩ := rv.get e
        rw [hv] at hu; cases hu
        exact ⟨y, rfl, ru⟩
    rw [List.getElem?_map, hy] at hkk
    have ek : key y = k := Option.some.inj hkk
    subst ek
    have kb : ∀ b o, X.base.get? b = some o → h'.get? b = some o := fun b o e => kk b o (baseNe b o e) (I.bk b o e)
    refine wpAny_mono (hk X.A.in1.in1 { s with heap := h', toks := tk } H y v (key y) (I.ok.mod.kin.keeps kb) (I.ok.mod.nolimit.keeps kb) (hokOf kk) (by show X.A.depth < recursionLimit; omega) ry (hR y (List.mem_of_getElem? hy))) (fun u s' hq => ?_) fun _ _ z => z
    obtain ⟨h2, tk2, t', rfl, rfl, k2⟩ := hq
    exact ⟨h2, tk2, t', rfl, rfl, F.kept k2, N.grown k2⟩
  · -- behind it
    have kk : ∀ b o, b ≠ X.env.locals → s.heap.get? b = some o → h'.get? b = some o := fun b o hb e => (N (b, o) (List.mem_cons_of_mem _ (mem_allNews hb (Att.noObjs_get _ _) e))).1
    obtain ⟨ps, hp, ho, hs1, hst⟩ := ko
    obtain ⟨zs, vz, ez⟩ := vals_keyed key rv ps hp
    have hD0 := N (D, seqObj "list" out c) List.mem_cons_self
    have hD : H D = none := by
      cases e : H D with
      | none => rfl
      | some u =>
        have dne : D ≠ X.env.locals := ne_of_none e I.free
        obtain ⟨od, hod⟩ := (I.hok D u e).ex
        exact absurd (hlt (D, od) (mem_allNews dne (Att.noObjs_get _ _) hod)) (Nat.lt_irrefl _)
    have neD : ∀ b o, s.heap.get? b = some o → b ≠ D := fun b o e z => by
      by_cases hb : b = X.env.locals
      · exact hD0.2.1 (z.symm.trans hb)
      · exact absurd (show b < D from hlt (b, o) (mem_allNews hb (Att.noObjs_get _ _) e)) (by rw [z]; exact Nat.lt_irrefl _)
    have hlz : zs.length = xs.length := by
      have h1 := vz.length
      rw [List.length_map, hp.length_eq, List.length_zip, List.length_map, hlen, Nat.min_self] at h1
      rw [h1, hlen]
    have hok : HOk X.prog X.w (upd H D (.lst zs)) h' := fun b u e => by
      by_cases hb : b = D
      · subst hb
        rw [upd_same] at e
        cases e
        refine ⟨by rw [hlz]; exact hz, out.toList, c, by rw [ho]; exact vz, ?_⟩
        rw [Array.toArray_toList]
        exact hD0.1
      · rw [upd_ne hb] at e
        exact (hokOf kk b u e).stay (fun _ _ _ z => z) (fun c z => by rw [upd_ne (ne_of_none z hD)]; exact z) fun c xs z => by rw [upd_ne (ne_of_none z hD)]; exact z
    have I' : Inv X pins σ (upd H D (.lst zs)) { s with heap := h', toks := tk } := I.step (g' := s.gens) (d' := s.drawn) (ch := []) (fun _ z => nomatch z) (fun b o hL _ _ e _ => kk b o hL e) (fun b o hL _ _ e _ => ⟨o.slots, kk b o hL e⟩)
      (fun b o _ e n => by rw [upd_ne (neD b o e)]; exact n) (fun b o _ e => by
        by_cases hb : b = X.env.locals
        · obtain ⟨o', _, _, e', _⟩ := F.ns
          exact ⟨o', by rw [hb]; exact e'⟩
        · exact ⟨o, kk b o hb e⟩)
      (fun b xs e => by rw [upd_ne (ne_of_none e hD)]; exact e) (fun b o u e => by rw [upd_ne (ne_of_none e hD)]; exact e) (fun b ps e => ⟨#[], by rw [upd_ne (ne_of_none e hD), e]; simp⟩)
      (fun m' hm' => by rw [ns_unique hm' hn]; exact F.ns) hok I.bare
    refine ⟨.ref D, upd H D (.lst zs), I', rfl, q zs D (pairwise_keys key ps zs ez (hs1.imp fun {p q} h => by simpa using h)) (fun z => ?_) hD⟩
    have f1 := vals_filter key z ps zs vz ez
    have f2 := vals_filter key z ((xs.map key).zip its) xs (by rw [List.map_snd_zip (by rw [List.length_map]; omega)]; exact rv) (by rw [List.map_fst_zip (by rw [List.length_map]; omega)])
    rw [hst z] at f1
    exact Vals.inj f1 f2
theorem pe_sortedK {K : PySem.W.Frag} {R : V → Int → Hp → Prop} {fk : Addr} {kx : Str} {e : Expr} {te : TE} {p p2 pos kpos : Pos} (hk : KeyOk X.prog X.w K fk R) (hdp : X.A.depth + 5 < recursionLimit) (hg : Gl X "sorted") (hm : X.mg "sorted" = none) (hgk : Gl X kx) (hmk : X.mg kx = some (.ref fk))
    (he : PE X e te) (hK : X.K = K := by rfl) (hkd : (kx == ("__debug__" : Str)) = false := by decide) (hst : starEach [e] X.env = (false, eval e X.env) :: starEach [] X.env := by rfl)
    (h1 : backTo pos (starEach [e] X.env) = (false, eval e X.env) :: backTo pos (starEach [] X.env) := by rfl) (h2 : (backTo pos (starEach [e] X.env)).any (·.1) = false := by rfl)
    (h3 : (backToKw pos (keywordEach [⟨some "key", .Name kx p2, kpos⟩] X.env)).all (·.1.isSome) = true := by rfl) (h4 : (backToKw pos (keywordEach [⟨some "key", .Name kx p2, kpos⟩] X.env)).any (·.1.isNone) = false := by rfl)
    (h5 : (backToKw pos (keywordEach [⟨some "key", .Name kx p2, kpos⟩] X.env)).filterMap (·.1) = [("key" : Str)] := by rfl) :
    PE X (.Call (.Name "sorted" p) [e] [⟨some "key", .Name kx p2, kpos⟩] pos) (fun σ H Q => te σ H fun x H1 => ∃ y, [x] = [y] ∧ rSortK K R y H1 Q) := by
  subst hK
  intro pins s σ H Q I h
  refine wpAny_Call_Name_kw (ld_blt I hg hm PyProof.Rows.boot_sorted ?_)
  have ha := pa_cons he (pa_nil (X := X)) hst
  have hkw : PK X [⟨some "key", .Name kx p2, kpos⟩] (tCons (tC (.ref fk)) tNil) := pk_cons (pe_glob hgk hmk rfl hkd) pk_nil
  have h' : (tCons te tNil) σ H (fun vs H1 => ∃ x, vs = [x] ∧ rSortK X.K R x H1 Q) := h
  refine PyProof.Rows.callWith_kw (thn (ha pos pins s σ H (fun vs H1 => ∃ x, vs = [x] ∧ rSortK X.K R x H1 Q) I h') fun us s1 hq => ?_) h1 h2 h3 h4
  · obtain ⟨vs, H1, I1, r, x, rfl, q⟩ := hq
    refine thn (hkw pos pins s1 σ H1 (fun zs H2 => zs = [.ref fk] ∧ H2 = H1) I1 ⟨rfl, rfl⟩) fun ws s2 hz => ?_
    obtain ⟨zs, H2, I2, rz, rfl, rfl⟩ := hz
    rw [h5, Vals.ref1 rz]
    obtain ⟨u, rfl, ru⟩ := vals1 r
    exact sorted_key hk hdp I2 ru q
end
end L2

/-! A for over reversed(xs). -/
set_option Elab.async false
set_option linter.all false
namespace L2
open PySem PySem.Spec PyProof.Rows
theorem for_rev {K : PySem.W.Frag} {a : Addr} {xs : List V} {g : TG} {tb : TS} {D : Ends} {σ : St} {H : Hp} (Pv : Nat → St → Hp → Prop) (h0 : Pv 0 σ H) (hl : ∀ i σ H, i ≤ xs.length → Pv i σ H → SqL K H a xs)
    (hs : ∀ i x σ H, i < xs.length → xs[xs.length - 1 - i]? = some x → Pv i σ H → g x σ H fun σ2 H2 => tb { D with nx := Pv (i + 1), ct := Pv (i + 1), bk := D.nx } σ2 H2) (hd : ∀ σ H, Pv xs.length σ H → D.nx σ H) :
    ∃ W : Nat → Nat → St → Hp → Prop, (∃ m, W 0 m σ H) ∧ ∀ i m σ H, W i m σ H →
      ((Itv K a xs.length).stop i H ∧ D.nx σ H) ∨ ((Itv K a xs.length).go i H ∧ ∃ N : St → Hp → Prop, (∀ σ' H', N σ' H' → ∃ m', m' < m ∧ W (i + 1) m' σ' H') ∧ ∀ x H', (Itv K a xs.length).yld i H x H' → g x σ H' fun σ2 H2 => tb { D with nx := N, ct := N, bk := D.nx } σ2 H2) := by
  refine ⟨fun i m σ H => m = xs.length - i ∧ i ≤ xs.length ∧ Pv i σ H, ⟨xs.length, by simp, Nat.zero_le _, h0⟩, ?_⟩
  rintro i m σ H ⟨rfl, hi, p⟩
  have q := hl i σ H hi p
  by_cases hlt : i < xs.length
  · have hj : xs.length - 1 - i < xs.length := by omega
    refine .inr ⟨⟨hlt, xs, xs[xs.length - 1 - i], q, by simp [hj]⟩, Pv (i + 1), fun σ' H' p' => ⟨xs.length - (i + 1), by omega, rfl, hlt, p'⟩, fun x H' y => ?_⟩
    obtain ⟨e, y⟩ := y
    subst e
    exact hs i x σ _ hlt (y xs q) p
  · have e : i = xs.length := by omega
    subst e
    exact .inl ⟨Nat.le_refl _, hd σ H p⟩
/-- a comprehension over a range with a step -/
theorem lc_rangeC {lo c : Int} {n : Nat} {g : TG} {tt : TT} {te : TE} {vs : List Nat} {σ : L2.St} {H1 : Hp} {D : Addr} {Qd : Hp → Prop} (Pv : Nat → Hp → Prop) (h0 : Pv 0 (upd H1 D (.lst [])))
    (hs : ∀ i H, i < n → Pv i H → g (.int (lo + (i : Nat) * c)) (wipe σ vs) H fun σ2 H2 => wipe σ2 vs = wipe σ vs ∧ tt σ2 H2 fun b H3 =>
      if b = true then te σ2 H3 fun y H4 => ∃ acc, H4 D = some (.lst acc) ∧ acc.length < sizeLine ∧ Pv (i + 1) (upd H4 D (.lst (acc ++ [y]))) else Pv (i + 1) H3) (hd : ∀ H, Pv n H → Qd H) :
    ∃ W : Nat → Nat → Hp → Prop, (∃ m, W 0 m (upd H1 D (.lst []))) ∧ ∀ i m H, W i m H →
      ((Itc lo c n).stop i H ∧ Qd H) ∨ ((Itc lo c n).go i H ∧ ∃ Nx : Hp → Prop, (∀ H', Nx H' → ∃ m', m' < m ∧ W (i + 1) m' H') ∧ ∀ x H', (Itc lo c n).yld i H x H' → g x (wipe σ vs) H' fun σ2 H2 => wipe σ2 vs = wipe σ vs ∧ tt σ2 H2 fun b H3 =>
        if b = true then te σ2 H3 fun y H4 => ∃ acc, H4 D = some (.lst acc) ∧ acc.length < sizeLine ∧ Nx (upd H4 D (.lst (acc ++ [y]))) else Nx H3) := by
  refine ⟨fun i m H => m = n - i ∧ i ≤ n ∧ Pv i H, ⟨n, by simp, Nat.zero_le _, h0⟩, ?_⟩
  rintro i m H ⟨rfl, hi, p⟩
  by_cases hlt : i < n
  · refine .inr ⟨hlt, Pv (i + 1), fun H' p' => ⟨n - (i + 1), by omega, rfl, hlt, p'⟩, fun x H' y => ?_⟩
    obtain ⟨e, y⟩ := y
    subst e y
    exact hs i _ hlt p
  · have e : i = n := by omega
    subst e
    exact .inl ⟨Nat.le_refl _, hd H p⟩
end L2

/-! More rules: list.remove of ints, list.insert at the front, min, list.index, a comprehension over a dict's keys. -/
set_option Elab.async false
set_option linter.all false
set_option maxRecDepth 100000
namespace L2
open PySem PySem.Spec PyProof.Rows
section
variable {X : Cx} {K : PySem.W.Frag}
theorem cr_minK (hc : X.calm = true := by rfl) (hK : X.K = K := by rfl) : CallR X (.builtin "min") (rMin K) := by subst hK; exact cr_min hc
theorem mt_indexK (hK : X.K = K := by rfl) : MtR X "list.index" (rIndex K) := by subst hK; exact mt_index
theorem mem_eqGives {k : Int} {t : Tok} : ∀ {ns : List Int} {us : List Value}, Vals (ns.map V.int) us → ∀ u ∈ us, MeetsSeq.EqGives u (.int k t) (eqU (.int k) u)
  | [], us, r, u, hu => by
    cases r
    cases hu
  | n :: ns, us, r, u, hu => by
    cases r with
    | cons h t' =>
      obtain ⟨tk, rfl⟩ := h
      rcases List.mem_cons.mp hu with rfl | hu
      · exact MeetsSeq.EqGives.int _ _ _ _
      · exact mem_eqGives t' u hu
theorem map_erase {α β : Type} (f : α → β) : ∀ (l : List α) (j : Nat), (l.eraseIdx j).map f = (l.map f).eraseIdx j
  | [], _ => rfl
  | _ :: _, 0 => rfl
  | a :: l, j + 1 => by
    show f a :: (l.eraseIdx j).map f = f a :: (l.map f).eraseIdx j
    rw [map_erase f l j]
def rRemove : V → List V → Hp → VK → Prop := fun x vs H Q => ∃ (l : Addr) (ns : List Int) (k : Int) (j : Nat), x = .ref l ∧ vs = [.int k] ∧ H l = some (.lst (ns.map V.int)) ∧ ns[j]? = some k ∧ (∀ m, m < j → ns[m]? ≠ some k) ∧ Q .non (upd H l (.lst ((ns.eraseIdx j).map V.int)))
theorem mt_remove : MtM X "list.remove" rRemove := by
  intro pins s σ H x vs v us Q I rx rv h
  obtain ⟨l, ns, k, j, rfl, rfl, hH, hj, hno, q⟩ := h
  cases rx
  obtain ⟨u, rfl, ru⟩ := rv.one
  obtain ⟨t, rfl⟩ := ru
  obtain ⟨z, its, n, r, hl, e⟩ := I.lstM hH
  have hlen : ns.length = its.length := by rw [← hl, List.length_map]
  have at_ : ∀ (m : Nat) (hm : m < its.toArray.size) (y : Int), ns[m]? = some y → eqU (.int k) its.toArray[m] = (y == k) := fun m hm y hy => by
    obtain ⟨u2, hu2, ru2⟩ := r.get (i := m) (x := .int y) (by rw [List.getElem?_map, hy]; rfl)
    obtain ⟨_, hme⟩ := List.getElem?_eq_some_iff.mp hu2
    have e1 : its.toArray[m] = u2 := by simpa using hme
    rw [e1, eqU_of ru2 rfl]
    rfl
  obtain ⟨hjl, hje⟩ := List.getElem?_eq_some_iff.mp hj
  refine call_meets PySem.F.slot_list_remove ⟨_, e, rfl⟩ PySem.F.entry_list_remove (PySem.F.args_list_remove_2 _ _)
    (MeetsSeq.list_remove l its.toArray n (.int k t) (eqU (.int k)) (fun y hy => mem_eqGives r y (by simpa using hy)) j (by rw [List.size_toArray]; omega) ?_ ?_ (by rw [List.size_toArray]; rw [← hl]; exact z)) ⟨e, ?_⟩
  · rw [at_ j _ k hj]
    simp
  · intro m hm hmj
    have hm' : m < ns.length := by rw [List.size_toArray] at hm; omega
    have hy : ns[m]? = some ns[m] := List.getElem?_eq_getElem hm'
    rw [at_ m hm ns[m] hy]
    have : ns[m] ≠ k := fun w => hno m hmj (by rw [hy, w])
    simpa using this
  · refine ⟨.non, _, I.lset (its' := its.eraseIdx j) hH e ?_ ?_ ?_, rfl, q⟩
    · show its.toArray.eraseIdxIfInBounds j = (its.eraseIdx j).toArray
      rw [List.eraseIdxIfInBounds_toArray]
    · have : (ns.eraseIdx j).map V.int = (ns.map V.int).eraseIdx j := (map_erase V.int ns j)
      rw [this]
      exact r.eraseIdx j
    · rw [List.length_map]
      rw [List.length_map] at z
      have := len_erase ns j
      omega
def rInsert0 : V → List V → Hp → VK → Prop := fun x vs H Q => ∃ l xs y, x = .ref l ∧ vs = [.int 0, y] ∧ H l = some (.lst xs) ∧ xs.length < sizeLine ∧ Q .non (upd H l (.lst (y :: xs)))
theorem mt_insert : MtM X "list.insert" rInsert0 := by
  intro pins s σ H x vs v us Q I rx rv h
  obtain ⟨l, xs, y, rfl, rfl, hH, hz, q⟩ := h
  cases rx
  cases rv with
  | cons r0 rt =>
    obtain ⟨t, rfl⟩ := r0
    obtain ⟨u, rfl, ru⟩ := Vals.one rt
    obtain ⟨z, its, n, r, hl, e⟩ := I.lstM hH
    refine call_meets PySem.F.slot_list_insert ⟨_, e, rfl⟩ PySem.F.entry_list_insert (PySem.F.args_list_insert_3 _ _ _) (AutoSeq1.list_insert_list_int_val_1 l its.toArray n 0 t u (by decide) (by rw [List.size_toArray, ← hl]; exact z)) ⟨e, ?_⟩
    refine ⟨.non, _, I.lset (its' := u :: its) hH e ?_ (.cons ru r) ?_, rfl, q⟩
    · simp
    · rw [List.length_cons]
      omega
end
/-- [g(k) for k in d if p(k)], the dict locked, what p and g do only reads -/
theorem lc_readsK {α : Type} {l : List α} {kvs : List (Key × V)} {key : α → Key} {p : α → Bool} {g : α → V} {d : Addr} {o : Obj} {j : Nat} {tt : TT} {te : TE} {vs : List Nat} {σ : St} {H1 : Hp} {D : Addr} {Qd : Hp → Prop}
    (hkv : kvs.map (·.1) = l.map key) (hD : H1 D = none) (hl : H1 d = some (.frz o (.dK kvs))) (hz : l.length < sizeLine) (hw : ∀ x ∈ l, wipe ((wipe σ vs).set j (some (kV (key x)))) vs = wipe σ vs)
    (ht : ∀ x ∈ l, ∀ H, Same H1 H → YlT tt ((wipe σ vs).set j (some (kV (key x)))) H (p x)) (he : ∀ x ∈ l, p x = true → ∀ H, Same H1 H → Yl te ((wipe σ vs).set j (some (kV (key x)))) H (g x))
    (hd : ∀ H', Same H1 H' → H' D = some (.lst ((l.filter p).map g)) → Qd H') :
    ∃ W : Nat → Nat → Hp → Prop, (∃ m, W 0 m (upd H1 D (.lst []))) ∧ ∀ i m H, W i m H →
      ((Itk d o kvs).stop i H ∧ Qd H) ∨ ((Itk d o kvs).go i H ∧ ∃ Nx : Hp → Prop, (∀ H', Nx H' → ∃ m', m' < m ∧ W (i + 1) m' H') ∧ ∀ x H', (Itk d o kvs).yld i H x H' → (gName j) x (wipe σ vs) H' fun σ2 H2 => wipe σ2 vs = wipe σ vs ∧ tt σ2 H2 fun b H3 =>
        if b = true then te σ2 H3 fun y H4 => ∃ acc, H4 D = some (.lst acc) ∧ acc.length < sizeLine ∧ Nx (upd H4 D (.lst (acc ++ [y]))) else Nx H3) := by
  have hlen : kvs.length = l.length := by
    have := congrArg List.length hkv
    rw [List.length_map, List.length_map] at this
    exact this
  refine ⟨fun i m H => m = l.length - i ∧ i ≤ l.length ∧ Same H1 H ∧ H D = some (.lst (((l.take i).filter p).map g)), ⟨l.length, by simp, Nat.zero_le _, Same.new hD, upd_same⟩, ?_⟩
  rintro i m H ⟨rfl, hi, s1, hDl⟩
  by_cases hlt : i < l.length
  · refine .inr ⟨⟨s1 _ _ hl, by omega⟩, fun H' => Same H1 H' ∧ H' D = some (.lst (((l.take (i + 1)).filter p).map g)), fun H' p' => ⟨l.length - (i + 1), by omega, rfl, hlt, p'⟩, fun x H' y => ?_⟩
    obtain ⟨e, k, v, hk, ex⟩ := y
    subst e ex
    have ey : l[i]? = some l[i] := List.getElem?_eq_getElem hlt
    have hm : l[i] ∈ l := List.getElem_mem hlt
    have ek : k = key l[i] := by
      have h1 : (kvs.map (·.1))[i]? = some k := by rw [List.getElem?_map, hk]; rfl
      rw [hkv, List.getElem?_map, ey] at h1
      exact (Option.some.inj h1).symm
    subst ek
    refine ⟨hw _ hm, ht _ hm H' s1 _ fun H2 s2 => ?_⟩
    cases hp : p l[i] with
    | true =>
      refine iteT (he _ hm hp H2 (s1.trans s2) _ fun H3 s3 => ?_)
      refine ⟨_, s3 _ _ (s2 _ _ hDl), ?_, ?_⟩
      · rw [List.length_map]
        refine Nat.lt_of_le_of_lt (filter_len _ _) (Nat.lt_of_le_of_lt ?_ hz)
        rw [List.length_take]; exact Nat.min_le_right _ _
      · refine ⟨((s1.trans s2).trans s3).after hD, ?_⟩
        rw [upd_same, take_succ_map (β := V) ey, List.filter_append, List.filter_cons_of_pos hp, List.map_append]
        rfl
    | false =>
      refine iteF ⟨s1.trans s2, ?_⟩
      rw [take_succ_map (β := V) ey, List.filter_append, List.filter_cons_of_neg (by simp [hp]), List.filter_nil, List.append_nil]
      exact s2 _ _ hDl
  · have e : i = l.length := by omega
    subst e
    rw [List.take_length] at hDl
    exact .inl ⟨⟨s1 _ _ hl, by omega⟩, hd H s1 hDl⟩
/-- [g(i) for i in range(n) if p(i)], what p and g do only reads -/
theorem lc_readsR {n : Nat} {p : Nat → Bool} {g : Nat → V} {j : Nat} {tt : TT} {te : TE} {vs : List Nat} {σ : St} {H1 : Hp} {D : Addr} {Qd : Hp → Prop}
    (hD : H1 D = none) (hz : n < sizeLine) (hw : ∀ x, x < n → wipe ((wipe σ vs).set j (some (.int ((0 : Int) + (x : Nat))))) vs = wipe σ vs)
    (ht : ∀ x, x < n → ∀ H, Same H1 H → YlT tt ((wipe σ vs).set j (some (.int ((0 : Int) + (x : Nat))))) H (p x)) (he : ∀ x, x < n → p x = true → ∀ H, Same H1 H → Yl te ((wipe σ vs).set j (some (.int ((0 : Int) + (x : Nat))))) H (g x))
    (hd : ∀ H', Same H1 H' → H' D = some (.lst (((List.range n).filter p).map g)) → Qd H') :
    ∃ W : Nat → Nat → Hp → Prop, (∃ m, W 0 m (upd H1 D (.lst []))) ∧ ∀ i m H, W i m H →
      ((Itr 0 n).stop i H ∧ Qd H) ∨ ((Itr 0 n).go i H ∧ ∃ Nx : Hp → Prop, (∀ H', Nx H' → ∃ m', m' < m ∧ W (i + 1) m' H') ∧ ∀ x H', (Itr 0 n).yld i H x H' → (gName j) x (wipe σ vs) H' fun σ2 H2 => wipe σ2 vs = wipe σ vs ∧ tt σ2 H2 fun b H3 =>
        if b = true then te σ2 H3 fun y H4 => ∃ acc, H4 D = some (.lst acc) ∧ acc.length < sizeLine ∧ Nx (upd H4 D (.lst (acc ++ [y]))) else Nx H3) := by
  refine ⟨fun i m H => m = n - i ∧ i ≤ n ∧ Same H1 H ∧ H D = some (.lst (((List.range i).filter p).map g)), ⟨n, by simp, Nat.zero_le _, Same.new hD, upd_same⟩, ?_⟩
  rintro i m H ⟨rfl, hi, s1, hDl⟩
  by_cases hlt : i < n
  · refine .inr ⟨hlt, fun H' => Same H1 H' ∧ H' D = some (.lst (((List.range (i + 1)).filter p).map g)), fun H' p' => ⟨n - (i + 1), by omega, rfl, hlt, p'⟩, fun x H' y => ?_⟩
    obtain ⟨e, ex⟩ := y
    subst e ex
    refine ⟨hw _ hlt, ht _ hlt H' s1 _ fun H2 s2 => ?_⟩
    cases hp : p i with
    | true =>
      refine iteT (he _ hlt hp H2 (s1.trans s2) _ fun H3 s3 => ?_)
      refine ⟨_, s3 _ _ (s2 _ _ hDl), ?_, ?_⟩
      · rw [List.length_map]
        refine Nat.lt_of_le_of_lt (filter_len _ _) (Nat.lt_of_le_of_lt ?_ hz)
        rw [List.length_range]; exact hi
      · refine ⟨((s1.trans s2).trans s3).after hD, ?_⟩
        rw [upd_same, List.range_succ, List.filter_append, List.filter_cons_of_pos hp, List.map_append]
        rfl
    | false =>
      refine iteF ⟨s1.trans s2, ?_⟩
      rw [List.range_succ, List.filter_append, List.filter_cons_of_neg (by simp [hp]), List.filter_nil, List.append_nil]
      exact s2 _ _ hDl
  · have e : i = n := by omega
    subst e
    exact .inl ⟨Nat.le_refl _, hd H s1 hDl⟩
end L2

/-! The mathematics of the queue, apart from the program: the order as a stable sort, who is passed, numbers that are told. -/
set_option Elab.async false
namespace Ag
open Vamrqg

/-! ### a stable sort is one list -/
theorem stable_unique {α : Type} (key : α → Int) : ∀ (A B : List α), A.Pairwise (fun a b => key a ≤ key b) → B.Pairwise (fun a b => key a ≤ key b) →
    (∀ z, A.filter (fun a => key a == z) = B.filter (fun a => key a == z)) → A = B
  | [], [], _, _, _ => rfl
  | [], b :: B, _, _, h => by
    have := h (key b)
    simp at this
  | a :: A, [], _, _, h => by
    have := h (key a)
    simp at this
  | a :: A, b :: B, hA, hB, h => by
    obtain ⟨a1, a2⟩ := List.pairwise_cons.mp hA
    obtain ⟨b1, b2⟩ := List.pairwise_cons.mp hB
    have e1 : key b ≤ key a := by
      have m : a ∈ (b :: B).filter (fun x => key x == key a) := by
        rw [← h (key a)]
        exact List.mem_filter.mpr ⟨List.mem_cons_self, by simp⟩
      rcases List.mem_cons.mp (List.mem_filter.mp m).1 with e | m
      · subst e; exact Int.le_refl _
      · exact b1 a m
    have e2 : key a ≤ key b := by
      have m : b ∈ (a :: A).filter (fun x => key x == key b) := by
        rw [h (key b)]
        exact List.mem_filter.mpr ⟨List.mem_cons_self, by simp⟩
      rcases List.mem_cons.mp (List.mem_filter.mp m).1 with e | m
      · subst e; exact Int.le_refl _
      · exact a1 b m
    have e : key a = key b := Int.le_antisymm e2 e1
    have ab : a = b := by
      have := h (key a)
      rw [List.filter_cons_of_pos (by simp), List.filter_cons_of_pos (by simp [e])] at this
      exact (List.cons.inj this).1
    subst ab
    refine congrArg (List.cons a) (stable_unique key A B a2 b2 fun z => ?_)
    have := h z
    by_cases hz : key a = z
    · rw [List.filter_cons_of_pos (by simp [hz]), List.filter_cons_of_pos (by simp [hz])] at this
      exact (List.cons.inj this).2
    · rw [List.filter_cons_of_neg (by simp [hz]), List.filter_cons_of_neg (by simp [hz])] at this
      exact this

/-! ### the order -/
def pkey (x : Item) : Int := -(x.prio : Int)
theorem insert_urgent (s : State) (x : Item) : ∀ (U R : List Item), (∀ y ∈ U, urgent s y = true) → insert s x (U ++ R) = U ++ insert s x R
  | [], R, _ => rfl
  | u :: U, R, h => by
    have hu : keepsPlace s u x = true := by
      unfold keepsPlace
      rw [h u List.mem_cons_self, Bool.true_or]
    show (if keepsPlace s u x = true then u :: insert s x (U ++ R) else x :: u :: (U ++ R)) = u :: (U ++ insert s x R)
    rw [if_pos hu, insert_urgent s x U R fun y hy => h y (List.mem_cons_of_mem _ hy)]
theorem insert_first (s : State) (x : Item) (hx : urgent s x = true) : ∀ (R : List Item), (∀ y ∈ R, urgent s y = false) → insert s x R = x :: R
  | [], _ => rfl
  | y :: R, h => by
    have hy : ¬ keepsPlace s y x = true := by
      unfold keepsPlace
      rw [h y List.mem_cons_self, hx]
      simp
    show (if keepsPlace s y x = true then y :: insert s x R else x :: y :: R) = x :: y :: R
    rw [if_neg hy]
theorem insert_mem (s : State) (x y : Item) : ∀ (R : List Item), y ∈ insert s x R ↔ y = x ∨ y ∈ R
  | [] => by show y ∈ [x] ↔ _; simp
  | z :: R => by
    show y ∈ (if keepsPlace s z x = true then z :: insert s x R else x :: z :: R) ↔ _
    split
    · rw [List.mem_cons, insert_mem s x y R, List.mem_cons]
      constructor
      · rintro (h | h | h)
        · exact .inr (.inl h)
        · exact .inl h
        · exact .inr (.inr h)
      · rintro (h | h | h)
        · exact .inr (.inl h)
        · exact .inl h
        · exact .inr (.inr h)
    · rw [List.mem_cons]
theorem keeps_plain (s : State) {x y : Item} (hx : urgent s x = false) (hy : urgent s y = false) : keepsPlace s y x = decide (x.prio ≤ y.prio) := by
  unfold keepsPlace
  rw [hx, hy]
  simp
theorem insert_pairwise (s : State) (x : Item) (hx : urgent s x = false) : ∀ (R : List Item), (∀ y ∈ R, urgent s y = false) → R.Pairwise (fun a b => pkey a ≤ pkey b) →
    (insert s x R).Pairwise (fun a b => pkey a ≤ pkey b)
  | [], _, _ => List.pairwise_singleton _ _
  | y :: R, h, hp => by
    obtain ⟨p1, p2⟩ := List.pairwise_cons.mp hp
    have hy := h y List.mem_cons_self
    show (if keepsPlace s y x = true then y :: insert s x R else x :: y :: R).Pairwise _
    rw [keeps_plain s hx hy]
    by_cases c : x.prio ≤ y.prio
    · rw [if_pos (decide_eq_true c)]
      refine List.pairwise_cons.mpr ⟨fun z hz => ?_, insert_pairwise s x hx R (fun z hz => h z (List.mem_cons_of_mem _ hz)) p2⟩
      rcases (insert_mem s x z R).mp hz with e | hz
      · subst e; unfold pkey; omega
      · exact p1 z hz
    · rw [if_neg (by simpa using c)]
      refine List.pairwise_cons.mpr ⟨fun z hz => ?_, hp⟩
      rcases List.mem_cons.mp hz with e | hz
      · subst e; unfold pkey; omega
      · have := p1 z hz
        unfold pkey at this ⊢
        omega
theorem insert_filter (s : State) (x : Item) (hx : urgent s x = false) (p : Int) : ∀ (R : List Item), (∀ y ∈ R, urgent s y = false) → R.Pairwise (fun a b => pkey a ≤ pkey b) →
    (insert s x R).filter (fun a => pkey a == p) = R.filter (fun a => pkey a == p) ++ [x].filter (fun a => pkey a == p)
  | [], _, _ => rfl
  | y :: R, h, hp => by
    obtain ⟨p1, p2⟩ := List.pairwise_cons.mp hp
    have hy := h y List.mem_cons_self
    show (if keepsPlace s y x = true then y :: insert s x R else x :: y :: R).filter _ = _
    rw [keeps_plain s hx hy]
    by_cases c : x.prio ≤ y.prio
    · rw [if_pos (decide_eq_true c), List.filter_cons, List.filter_cons, insert_filter s x hx p R (fun z hz => h z (List.mem_cons_of_mem _ hz)) p2]
      split <;> rfl
    · rw [if_neg (by simpa using c)]
      by_cases q : pkey x = p
      · have none : (y :: R).filter (fun a => pkey a == p) = [] := by
          rw [List.filter_eq_nil_iff]
          intro z hz
          have : pkey y ≤ pkey z := by
            rcases List.mem_cons.mp hz with e | hz
            · subst e; exact Int.le_refl _
            · exact p1 z hz
          have c2 : ¬ pkey z = p := by
            unfold pkey at *
            omega
          simpa using c2
        rw [none, List.filter_cons_of_pos (by simp [q]), none, List.filter_cons_of_pos (by simp [q])] <;> rfl
      · rw [List.filter_cons_of_neg (by simp [q]), List.filter_cons_of_neg (l := []) (by simp [q]), List.filter_nil, List.append_nil]
structure Ordered (s : State) (l R : List Item) : Prop where
  all : ∀ y ∈ R, urgent s y = false
  pw : R.Pairwise (fun a b => pkey a ≤ pkey b)
  eq : ∀ p, R.filter (fun a => pkey a == p) = (l.filter fun x => !urgent s x).filter (fun a => pkey a == p)
theorem fold_ordered (s : State) : ∀ (l done : List Item) (R : List Item), Ordered s done R →
    ∃ R', l.foldl (fun l x => insert s x l) (done.filter (urgent s) ++ R) = (done ++ l).filter (urgent s) ++ R' ∧ Ordered s (done ++ l) R'
  | [], done, R, h => ⟨R, by rw [List.append_nil]; rfl, by rw [List.append_nil]; exact h⟩
  | x :: l, done, R, h => by
    have e1 : insert s x (done.filter (urgent s) ++ R) = done.filter (urgent s) ++ insert s x R := insert_urgent s x _ R fun y hy => (List.mem_filter.mp hy).2
    rw [List.foldl_cons, e1]
    have ea : done ++ x :: l = (done ++ [x]) ++ l := by simp
    cases hx : urgent s x with
    | true =>
      rw [insert_first s x hx R h.all]
      have e2 : done.filter (urgent s) ++ x :: R = (done ++ [x]).filter (urgent s) ++ R := by
        rw [List.filter_append, List.filter_cons_of_pos hx, List.filter_nil]; simp
      rw [e2, ea]
      refine fold_ordered s l (done ++ [x]) R ⟨h.all, h.pw, fun p => ?_⟩
      rw [h.eq p, List.filter_append, List.filter_cons_of_neg (l := []) (by simp [hx]), List.filter_nil, List.append_nil]
    | false =>
      have e2 : done.filter (urgent s) ++ insert s x R = (done ++ [x]).filter (urgent s) ++ insert s x R := by
        rw [List.filter_append, List.filter_cons_of_neg (by simp [hx]), List.filter_nil, List.append_nil]
      rw [e2, ea]
      refine fold_ordered s l (done ++ [x]) (insert s x R) ⟨fun y hy => ?_, insert_pairwise s x hx R h.all h.pw, fun p => ?_⟩
      · rcases (insert_mem s x y R).mp hy with e | hy
        · subst e; exact hx
        · exact h.all y hy
      · rw [insert_filter s x hx p R h.all h.pw, h.eq p, List.filter_append (l₁ := done), List.filter_cons_of_pos (p := fun x => !urgent s x) (by simp [hx]), List.filter_nil, List.filter_append]
/-- THE ORDER: the urgent ones as they came, then any stable sort of the others -/
theorem order_is (s : State) (R : List Item) (hp : R.Pairwise (fun a b => pkey a ≤ pkey b))
    (he : ∀ z, R.filter (fun a => pkey a == z) = ((s.waiting.filter (ready s)).filter fun x => !urgent s x).filter (fun a => pkey a == z)) :
    order s = (s.waiting.filter (ready s)).filter (urgent s) ++ R := by
  obtain ⟨R', e, o⟩ := fold_ordered s (s.waiting.filter (ready s)) [] [] ⟨by simp, List.Pairwise.nil, fun _ => rfl⟩
  unfold order
  rw [List.nil_append] at e o
  have e' : (s.waiting.filter (ready s)).foldl (fun l x => insert s x l) [] = (s.waiting.filter (ready s)).filter (urgent s) ++ R' := e
  rw [e', stable_unique pkey R R' hp o.pw fun z => (he z).trans (o.eq z).symm]
/-- .. and there is such a sort -/
theorem order_split (s : State) : ∃ R, order s = (s.waiting.filter (ready s)).filter (urgent s) ++ R ∧ R.Pairwise (fun a b => pkey a ≤ pkey b) ∧
    ∀ z, R.filter (fun a => pkey a == z) = ((s.waiting.filter (ready s)).filter fun x => !urgent s x).filter (fun a => pkey a == z) := by
  obtain ⟨R', e, o⟩ := fold_ordered s (s.waiting.filter (ready s)) [] [] ⟨by simp, List.Pairwise.nil, fun _ => rfl⟩
  rw [List.nil_append] at e o
  exact ⟨R', e, o.pw, o.eq⟩
theorem insert_perm (s : State) (x : Item) : ∀ (R : List Item), (insert s x R).Perm (x :: R)
  | [] => List.Perm.refl _
  | y :: R => by
    show (if keepsPlace s y x = true then y :: insert s x R else x :: y :: R).Perm _
    split
    · exact ((insert_perm s x R).cons y).trans (List.Perm.swap x y R)
    · exact List.Perm.refl _
theorem fold_perm (s : State) : ∀ (l acc : List Item), (l.foldl (fun l x => insert s x l) acc).Perm (acc ++ l)
  | [], acc => by simp
  | x :: l, acc => by
    rw [List.foldl_cons]
    refine (fold_perm s l (insert s x acc)).trans ?_
    have h1 : (insert s x acc ++ l).Perm ((x :: acc) ++ l) := (insert_perm s x acc).append_right l
    exact h1.trans (List.perm_middle.symm)
theorem order_perm (s : State) : (order s).Perm (s.waiting.filter (ready s)) := by
  have := fold_perm s (s.waiting.filter (ready s)) []
  exact this
theorem order_mem {s : State} {x : Item} (h : x ∈ order s) : x ∈ s.waiting ∧ ready s x = true := List.mem_filter.mp ((order_perm s).mem_iff.mp h)

/-! ### who is passed -/
def bump (x : Item) : Item := ⟨x.id, x.prio, x.cls, x.needs, x.passed + 1⟩
theorem ids_cons (x : Item) (l : List Item) : idsOf (x :: l) = x.id :: idsOf l := rfl
theorem mem_ids {x : Item} {l : List Item} (h : x ∈ l) : x.id ∈ idsOf l := List.mem_map.mpr ⟨x, h, rfl⟩
theorem ids_inj : ∀ {l : List Item}, (idsOf l).Nodup → ∀ {x y : Item}, x ∈ l → y ∈ l → x.id = y.id → x = y
  | [], _, _, _, hx, _, _ => by cases hx
  | a :: l, nd, x, y, hx, hy, e => by
    rw [ids_cons] at nd
    obtain ⟨n1, n2⟩ := List.nodup_cons.mp nd
    rcases List.mem_cons.mp hx with h1 | h1
    · rcases List.mem_cons.mp hy with h2 | h2
      · rw [h1, h2]
      · exact absurd (show a.id ∈ idsOf l by rw [← h1, e]; exact mem_ids h2) n1
    · rcases List.mem_cons.mp hy with h2 | h2
      · exact absurd (show a.id ∈ idsOf l by rw [← h2, ← e]; exact mem_ids h1) n1
      · exact ids_inj n2 h1 h2 e
theorem hasId_iff {l : List Item} {i : Nat} : hasId l i = true ↔ i ∈ idsOf l := by
  unfold hasId idsOf
  rw [List.any_eq_true, List.mem_map]
  constructor
  · rintro ⟨x, hx, e⟩; exact ⟨x, hx, of_decide_eq_true e⟩
  · rintro ⟨x, hx, e⟩; exact ⟨x, hx, decide_eq_true e⟩
theorem any_sub {α : Type} (p q : α → Bool) : ∀ (w : List α), (∀ y ∈ w, q y = true → p y = true) → w.any q = (w.filter p).any q
  | [], _ => rfl
  | y :: w, h => by
    have ih := any_sub p q w fun z hz => h z (List.mem_cons_of_mem _ hz)
    cases hp : p y with
    | true => rw [List.filter_cons_of_pos hp, List.any_cons, List.any_cons, ih]
    | false =>
      have hq : q y = false := by
        cases hq : q y with
        | false => rfl
        | true => rw [h y List.mem_cons_self hq] at hp; cases hp
      rw [List.filter_cons_of_neg (by simp [hp]), List.any_cons, hq, Bool.false_or, ih]
theorem any_other (q : Item → Bool) (i : Nat) : ∀ (w : List Item), ¬ i ∈ idsOf w → w.any (fun y => q y && !decide (y.id = i)) = w.any q
  | [], _ => rfl
  | y :: w, h => by
    rw [ids_cons, List.mem_cons] at h
    have h1 : ¬ y.id = i := fun e => h (.inl e.symm)
    rw [List.any_cons, List.any_cons, any_other q i w fun z => h (.inr z), decide_eq_false h1]
    simp
theorem later_aux (p q : Item → Bool) (x : Item) : ∀ (w pre post : List Item), (idsOf w).Nodup → (∀ y ∈ w, q y = true → p y = true) → w.filter p = pre ++ x :: post →
    (w.dropWhile fun y => !decide (y.id = x.id)).any (fun y => q y && !decide (y.id = x.id)) = post.any q
  | [], pre, post, _, _, h => by simp at h
  | y :: w, pre, post, nd, hq, h => by
    rw [ids_cons] at nd
    obtain ⟨n1, n2⟩ := List.nodup_cons.mp nd
    have hq' : ∀ z ∈ w, q z = true → p z = true := fun z hz => hq z (List.mem_cons_of_mem _ hz)
    have skip : ∀ pre', w.filter p = pre' ++ x :: post →
        ((y :: w).dropWhile fun y => !decide (y.id = x.id)).any (fun y => q y && !decide (y.id = x.id)) = post.any q := by
      intro pre' h'
      have hx : x ∈ w := (List.mem_filter.mp (h' ▸ List.mem_append_right _ List.mem_cons_self : x ∈ w.filter p)).1
      have ne : ¬ y.id = x.id := fun e => n1 (e ▸ mem_ids hx)
      rw [List.dropWhile_cons_of_pos (by simp [ne])]
      exact later_aux p q x w pre' post n2 hq' h'
    cases hp : p y with
    | false =>
      rw [List.filter_cons_of_neg (by simp [hp])] at h
      exact skip pre h
    | true =>
      rw [List.filter_cons_of_pos hp] at h
      cases pre with
      | nil =>
        obtain ⟨e1, e2⟩ := List.cons.inj (show y :: w.filter p = x :: post from h)
        subst e1
        rw [List.dropWhile_cons_of_neg (by simp), List.any_cons, any_other q y.id w n1, any_sub p q w hq', e2]
        simp
      | cons a pre' =>
        obtain ⟨e1, e2⟩ := List.cons.inj (show y :: w.filter p = a :: (pre' ++ x :: post) from h)
        exact skip pre' e2
theorem later_is {s : State} {b pre post : List Item} {x : Item} (nd : (idsOf s.waiting).Nodup) (hb : ∀ y ∈ b, y ∈ s.waiting ∧ ready s y = true)
    (hs : s.waiting.filter (ready s) = pre ++ x :: post) : laterIn s b x.id = post.any fun y => hasId b y.id := by
  unfold laterIn
  refine later_aux (ready s) (fun y => hasId b y.id) x s.waiting pre post nd (fun y hy h => ?_) hs
  obtain ⟨z, hz, e⟩ := List.mem_map.mp (hasId_iff.mp h)
  obtain ⟨z1, z2⟩ := hb z hz
  rw [← ids_inj nd z1 hy e]
  exact z2
theorem aged_ready {s : State} {b pre post : List Item} {x : Item} (nd : (idsOf s.waiting).Nodup) (hb : ∀ y ∈ b, y ∈ s.waiting ∧ ready s y = true)
    (hs : s.waiting.filter (ready s) = pre ++ x :: post) : aged s b x = if (post.any fun y => hasId b y.id) = true then bump x else x := by
  have hx : ready s x = true := (List.mem_filter.mp (hs ▸ List.mem_append_right _ List.mem_cons_self : x ∈ s.waiting.filter (ready s))).2
  unfold aged
  rw [later_is nd hb hs]
  by_cases c : (post.any fun y => hasId b y.id) = true
  · rw [if_pos ⟨hx, c⟩, if_pos c] <;> rfl
  · rw [if_neg (fun z => c z.2), if_neg c]
theorem aged_idle {s : State} {b : List Item} {x : Item} (h : ready s x = false) : aged s b x = x := by
  unfold aged
  rw [if_neg (fun z => by rw [h] at z; cases z.1)]
theorem aged_id (s : State) (b : List Item) (x : Item) : (aged s b x).id = x.id := by
  unfold aged
  split <;> rfl
theorem aged_same (s : State) (b : List Item) (x : Item) : (aged s b x).prio = x.prio ∧ (aged s b x).cls = x.cls ∧ (aged s b x).needs = x.needs := by
  unfold aged
  split <;> exact ⟨rfl, rfl, rfl⟩
theorem batch_mem {s : State} {k : Nat} {x : Item} (h : x ∈ batchOf s k) : x ∈ s.waiting ∧ ready s x = true := order_mem (List.mem_of_mem_take h)

/-! ### windows, freezes, ends -/
theorem find_put {α : Type} (l : List (Nat × α)) (c : Nat) (w : α) (j : Nat) :
    ((l.filter fun x => !decide (x.1 = c)) ++ [(c, w)]).find? (fun x => decide (x.1 = j)) = if j = c then some (c, w) else l.find? fun x => decide (x.1 = j) := by
  rw [List.find?_append, List.find?_filter]
  by_cases e : j = c
  · subst e
    rw [if_pos rfl]
    have : l.find? (fun a => decide ((!decide (a.1 = j)) = true ∧ decide (a.1 = j) = true)) = none := by
      rw [List.find?_eq_none]
      intro x _
      by_cases z : x.1 = j <;> simp [z]
    rw [this]
    simp
  · rw [if_neg e]
    have : (fun a : Nat × α => decide ((!decide (a.1 = c)) = true ∧ decide (a.1 = j) = true)) = fun a => decide (a.1 = j) := by
      funext a
      by_cases z : a.1 = j
      · simp [z, e]
      · simp [z]
    rw [this]
    cases l.find? (fun a => decide (a.1 = j)) with
    | some x => rfl
    | none => simp [show ¬ c = j from fun q => e q.symm]
theorem contains_put (l : List Nat) (c : Nat) (on : Bool) (j : Nat) :
    ((l.filter fun x => !decide (x = c)) ++ (if on = true then [c] else [])).contains j = if j = c then on else l.contains j := by
  rw [Bool.eq_iff_iff, List.contains_iff_mem, List.mem_append, List.mem_filter]
  by_cases e : j = c
  · subst e
    rw [if_pos rfl]
    cases on <;> simp
  · rw [if_neg e, List.contains_iff_mem]
    cases on <;> simp [e]
theorem endOf_put {s : State} {w r : List Item} {i : Nat} {e : End} (h : endOf s i = none) (j : Nat) : endOf (s.with_ w r (s.ended ++ [(i, e)])) j = if j = i then some e else endOf s j := by
  unfold endOf at h ⊢
  show ((s.ended ++ [(i, e)]).find? _).map _ = _
  rw [List.find?_append]
  by_cases q : j = i
  · subst q
    rw [if_pos rfl]
    have h' : (s.ended.find? fun x => decide (x.1 = j)) = none := Option.map_eq_none_iff.mp h
    rw [h']
    simp
  · rw [if_neg q]
    cases s.ended.find? (fun x => decide (x.1 = j)) with
    | some x => rfl
    | none => simp [show ¬ i = j from fun z => q z.symm]
end Ag

/-! What holds of every state that is reached, and that each call keeps it; the calls of a request. -/
set_option Elab.async false
set_option linter.all false
namespace Ag
open Vamrqg
structure Good (s : State) : Prop where
  nd : (idsOf s.waiting ++ (idsOf s.running ++ s.ended.map (·.1))).Nodup
  few : s.waiting.length + s.running.length ≤ 40
  all : s.waiting.length + s.running.length + s.ended.length ≤ 400
  day : 1 ≤ s.day ∧ s.day ≤ 24
  lim : s.limit ≤ 20
  tim : s.time ≤ 1000000
  its : ∀ x ∈ s.waiting ++ s.running, x.cls ≤ 7 ∧ x.prio ≤ 9 ∧ x.id ≤ 999 ∧ x.needs.length ≤ 6
  wns : ∀ c, (windowsOf s c).length ≤ 4 ∧ ∀ w ∈ windowsOf s c, w.1 < w.2 ∧ w.2 ≤ s.day
theorem good_start : Good Vamrqg.start where
  nd := List.nodup_nil
  few := by decide
  all := by decide
  day := by decide
  lim := by decide
  tim := by decide
  its := fun x hx => by cases hx
  wns := fun c => ⟨Nat.zero_le _, fun w hw => by cases hw⟩
section
variable {s : State}
theorem Good.ndW (g : Good s) : (idsOf s.waiting).Nodup := (List.nodup_append.mp g.nd).1
theorem Good.ndR (g : Good s) : (idsOf s.running).Nodup := (List.nodup_append.mp (List.nodup_append.mp g.nd).2.1).1
theorem Good.ndE (g : Good s) : (s.ended.map (·.1)).Nodup := (List.nodup_append.mp (List.nodup_append.mp g.nd).2.1).2.1
theorem Good.wr (g : Good s) {i : Nat} (h : i ∈ idsOf s.waiting) : ¬ i ∈ idsOf s.running := fun z => (List.nodup_append.mp g.nd).2.2 i h i (List.mem_append_left _ z) rfl
theorem Good.we (g : Good s) {i : Nat} (h : i ∈ idsOf s.waiting) : ¬ i ∈ s.ended.map (·.1) := fun z => (List.nodup_append.mp g.nd).2.2 i h i (List.mem_append_right _ z) rfl
theorem Good.re (g : Good s) {i : Nat} (h : i ∈ idsOf s.running) : ¬ i ∈ s.ended.map (·.1) := fun z => (List.nodup_append.mp (List.nodup_append.mp g.nd).2.1).2.2 i h i z rfl
theorem endOf_isSome (i : Nat) : (endOf s i).isSome = true ↔ i ∈ s.ended.map (·.1) := by
  unfold endOf
  rw [Option.isSome_map, List.find?_isSome, List.mem_map]
  constructor
  · rintro ⟨x, hx, e⟩; exact ⟨x, hx, of_decide_eq_true e⟩
  · rintro ⟨x, hx, e⟩; exact ⟨x, hx, decide_eq_true e⟩
theorem endOf_none (i : Nat) : endOf s i = none ↔ ¬ i ∈ s.ended.map (·.1) := by
  rw [← endOf_isSome]
  cases endOf s i <;> simp
theorem known_iff (i : Nat) : known s i = true ↔ i ∈ idsOf s.waiting ∨ i ∈ idsOf s.running ∨ i ∈ s.ended.map (·.1) := by
  unfold known
  rw [Bool.or_eq_true, Bool.or_eq_true, hasId_iff, hasId_iff, endOf_isSome, or_assoc]
theorem known_false (i : Nat) : known s i = false ↔ ¬ i ∈ idsOf s.waiting ∧ ¬ i ∈ idsOf s.running ∧ ¬ i ∈ s.ended.map (·.1) := by
  rw [← Bool.not_eq_true, known_iff]
  simp only [not_or]
theorem nodup3 {a b c : List Nat} (ha : a.Nodup) (hb : b.Nodup) (hc : c.Nodup) (h1 : ∀ i ∈ a, ¬ i ∈ b) (h2 : ∀ i ∈ a, ¬ i ∈ c) (h3 : ∀ i ∈ b, ¬ i ∈ c) : (a ++ (b ++ c)).Nodup := by
  rw [List.nodup_append]
  refine ⟨ha, List.nodup_append.mpr ⟨hb, hc, fun i hi j hj e => h3 i hi (e ▸ hj)⟩, fun i hi j hj e => ?_⟩
  subst e
  rcases List.mem_append.mp hj with z | z
  · exact h1 i hi z
  · exact h2 i hi z
theorem good_config (g : Good s) {l d : Nat} (hl : l ≤ 20) (hd : 1 ≤ d ∧ d ≤ 24) (hw : s.waiting = []) (hr : s.running = []) : Good ⟨l, d, s.time, [], s.frozen, s.stopped, [], [], s.ended⟩ where
  nd := g.ndE
  few := Nat.zero_le _
  all := by
    have := g.all
    show 0 + 0 + s.ended.length ≤ 400
    omega
  day := hd
  lim := hl
  tim := g.tim
  its := fun x hx => by cases hx
  wns := fun c => ⟨Nat.zero_le _, fun w hw => by cases hw⟩
theorem good_add (g : Good s) {x : Item} (hk : known s x.id = false) (h1 : x.cls ≤ 7 ∧ x.prio ≤ 9 ∧ x.id ≤ 999 ∧ x.needs.length ≤ 6) (h2 : s.waiting.length + s.running.length < 40) (h3 : s.waiting.length + s.running.length + s.ended.length < 400) :
    Good (s.with_ (s.waiting ++ [x]) s.running s.ended) where
  nd := by
    obtain ⟨a, b, c⟩ := (known_false x.id).mp hk
    show (idsOf (s.waiting ++ [x]) ++ (idsOf s.running ++ s.ended.map (·.1))).Nodup
    have e : idsOf (s.waiting ++ [x]) = idsOf s.waiting ++ [x.id] := by unfold idsOf; rw [List.map_append]; rfl
    rw [e]
    refine nodup3 ?_ g.ndR g.ndE (fun i hi => ?_) (fun i hi => ?_) fun i hi => g.re hi
    · rw [List.nodup_append]
      refine ⟨g.ndW, by simp, fun i hi j hj e => ?_⟩
      rw [List.mem_singleton] at hj
      subst e hj
      exact a hi
    · rcases List.mem_append.mp hi with z | z
      · exact g.wr z
      · rw [List.mem_singleton] at z; subst z; exact b
    · rcases List.mem_append.mp hi with z | z
      · exact g.we z
      · rw [List.mem_singleton] at z; subst z; exact c
  few := by
    show (s.waiting ++ [x]).length + s.running.length ≤ 40
    rw [List.length_append, List.length_singleton]; omega
  all := by
    show (s.waiting ++ [x]).length + s.running.length + s.ended.length ≤ 400
    rw [List.length_append, List.length_singleton]; omega
  day := g.day
  lim := g.lim
  tim := g.tim
  its := fun y hy => by
    have hy' : y ∈ (s.waiting ++ [x]) ++ s.running := hy
    rcases List.mem_append.mp hy' with z | z
    · rcases List.mem_append.mp z with z | z
      · exact g.its y (List.mem_append_left _ z)
      · rw [List.mem_singleton] at z; subst z; exact h1
    · exact g.its y (List.mem_append_right _ z)
  wns := g.wns
theorem windowsOf_put (s : State) (l d m : Nat) (f : List Nat) (b : Bool) (w r : List Item) (e : List (Nat × End)) (c : Nat) (ws : List (Nat × Nat)) (j : Nat) :
    windowsOf ⟨l, d, m, (s.windows.filter fun x => !decide (x.1 = c)) ++ [(c, ws)], f, b, w, r, e⟩ j = if j = c then ws else windowsOf s j := by
  unfold windowsOf
  show (match ((s.windows.filter fun x => !decide (x.1 = c)) ++ [(c, ws)]).find? (fun x => decide (x.1 = j)) with | some x => x.2 | none => []) = _
  rw [find_put]
  by_cases h : j = c
  · rw [if_pos h, if_pos h]
  · rw [if_neg h, if_neg h]
    rfl
theorem hoursOf_good (d : Nat) : ∀ (l : List Int) (ws : List (Nat × Nat)), hoursOf d l = some ws → ∀ w ∈ ws, w.1 < w.2 ∧ w.2 ≤ d
  | [], ws, h, w, hw => by
    cases h
    cases hw
  | [_], ws, h, w, hw => by cases h
  | a :: b :: r, ws, h, w, hw => by
    have h' : (if 0 ≤ a ∧ a < b ∧ b ≤ (d : Int) then (hoursOf d r).map fun l => (a.toNat, b.toNat) :: l else none) = some ws := h
    by_cases c : 0 ≤ a ∧ a < b ∧ b ≤ (d : Int)
    · rw [if_pos c] at h'
      cases e : hoursOf d r with
      | none => rw [e] at h'; cases h'
      | some l =>
        rw [e] at h'
        have e' : (a.toNat, b.toNat) :: l = ws := Option.some.inj h'
        subst e'
        rcases List.mem_cons.mp hw with rfl | hw
        · show a.toNat < b.toNat ∧ b.toNat ≤ d
          omega
        · exact hoursOf_good d r l e w hw
    · rw [if_neg c] at h'; cases h'
theorem good_window (g : Good s) {c : Nat} {ws : List (Nat × Nat)} (h1 : ws.length ≤ 4) (h2 : ∀ w ∈ ws, w.1 < w.2 ∧ w.2 ≤ s.day) :
    Good ⟨s.limit, s.day, s.time, (s.windows.filter fun x => !decide (x.1 = c)) ++ [(c, ws)], s.frozen, s.stopped, s.waiting, s.running, s.ended⟩ where
  nd := g.nd
  few := g.few
  all := g.all
  day := g.day
  lim := g.lim
  tim := g.tim
  its := g.its
  wns := fun j => by
    rw [windowsOf_put]
    split
    · exact ⟨h1, h2⟩
    · exact g.wns j
theorem good_frost (g : Good s) (f : List Nat) (b : Bool) : Good ⟨s.limit, s.day, s.time, s.windows, f, b, s.waiting, s.running, s.ended⟩ := ⟨g.nd, g.few, g.all, g.day, g.lim, g.tim, g.its, g.wns⟩
theorem good_tick (g : Good s) {m : Nat} (h : m ≤ 1000000) : Good ⟨s.limit, s.day, m, s.windows, s.frozen, s.stopped, s.waiting, s.running, s.ended⟩ := ⟨g.nd, g.few, g.all, g.day, g.lim, h, g.its, g.wns⟩
theorem ids_filter (p : Nat → Bool) : ∀ l : List Item, idsOf (l.filter fun x => p x.id) = (idsOf l).filter p
  | [] => rfl
  | x :: l => by
    rw [ids_cons]
    cases h : p x.id with
    | true => rw [List.filter_cons_of_pos (by simpa using h), List.filter_cons_of_pos h, ids_cons, ids_filter p l]
    | false => rw [List.filter_cons_of_neg (by simpa using h), List.filter_cons_of_neg (by simpa using h), ids_filter p l]
theorem ids_aged (s : State) (b l : List Item) : idsOf (l.map (aged s b)) = idsOf l := by
  unfold idsOf
  rw [List.map_map]
  exact List.map_congr_left fun x _ => aged_id s b x
theorem ids_append (a b : List Item) : idsOf (a ++ b) = idsOf a ++ idsOf b := List.map_append
theorem batch_nodup (g : Good s) (k : Nat) : (idsOf (batchOf s k)).Nodup := by
  have h0 : (idsOf (s.waiting.filter (ready s))).Nodup := g.ndW.sublist (List.filter_sublist.map _)
  have hp : (idsOf (order s)).Perm (idsOf (s.waiting.filter (ready s))) := (order_perm s).map fun x : Item => x.id
  have h1 : (idsOf (order s)).Nodup := hp.nodup_iff.mpr h0
  unfold batchOf idsOf
  rw [List.map_take]
  exact h1.sublist (List.take_sublist _ _)
theorem batch_in (k : Nat) {i : Nat} (h : i ∈ idsOf (batchOf s k)) : i ∈ idsOf s.waiting := by
  obtain ⟨x, hx, e⟩ := List.mem_map.mp h
  subst e
  exact mem_ids (batch_mem hx).1
theorem served_waiting (k : Nat) : idsOf (served s k).waiting = (idsOf s.waiting).filter fun i => !hasId (batchOf s k) i := by
  show idsOf ((s.waiting.filter fun x => !hasId (batchOf s k) x.id).map (aged s (batchOf s k))) = _
  rw [ids_aged, ids_filter (fun i => !hasId (batchOf s k) i)]
theorem filter_out_length {α : Type} (p : α → Bool) : ∀ l : List α, (l.filter p).length + (l.filter fun x => !p x).length = l.length
  | [] => rfl
  | x :: l => by
    have := filter_out_length p l
    cases h : p x with
    | true => rw [List.filter_cons_of_pos h, List.filter_cons_of_neg (by simp [h]), List.length_cons, List.length_cons]; omega
    | false => rw [List.filter_cons_of_neg (by simp [h]), List.filter_cons_of_pos (by simp [h]), List.length_cons, List.length_cons]; omega
theorem nodup_len_le {α : Type} [DecidableEq α] : ∀ (a b : List α), a.Nodup → (∀ x ∈ a, x ∈ b) → a.length ≤ b.length
  | [], _, _, _ => Nat.zero_le _
  | x :: a, b, hn, h => by
    obtain ⟨n1, n2⟩ := List.nodup_cons.mp hn
    have hx := h x List.mem_cons_self
    have ih := nodup_len_le a (b.erase x) n2 fun y hy => (List.mem_erase_of_ne (fun e : y = x => n1 (by rw [← e]; exact hy))).mpr (h y (List.mem_cons_of_mem _ hy))
    rw [List.length_erase_of_mem hx] at ih
    have : 0 < b.length := List.length_pos_of_mem hx
    rw [List.length_cons]
    omega
theorem served_count (g : Good s) (k : Nat) : (served s k).waiting.length + (batchOf s k).length = s.waiting.length := by
  have e1 : (served s k).waiting.length = ((idsOf s.waiting).filter fun i => !hasId (batchOf s k) i).length := by
    rw [← served_waiting]; unfold idsOf; rw [List.length_map]
  have e2 : ((idsOf s.waiting).filter fun i => hasId (batchOf s k) i).length = (batchOf s k).length := by
    have l1 : (batchOf s k).length = (idsOf (batchOf s k)).length := by unfold idsOf; rw [List.length_map]
    rw [l1]
    refine Nat.le_antisymm (nodup_len_le _ _ (g.ndW.sublist List.filter_sublist) fun i hi => hasId_iff.mp (List.mem_filter.mp hi).2) (nodup_len_le _ _ (batch_nodup g k) fun i hi => List.mem_filter.mpr ⟨batch_in k hi, hasId_iff.mpr hi⟩)
  have e3 := filter_out_length (fun i => hasId (batchOf s k) i) (idsOf s.waiting)
  have e4 : (idsOf s.waiting).length = s.waiting.length := by unfold idsOf; rw [List.length_map]
  omega
theorem good_serve (g : Good s) {k : Nat} (h : s.time < 1000000) : Good (served s k) where
  nd := by
    show (idsOf (served s k).waiting ++ (idsOf (s.running ++ batchOf s k) ++ s.ended.map (·.1))).Nodup
    rw [served_waiting, ids_append]
    refine nodup3 (g.ndW.sublist List.filter_sublist) ?_ g.ndE (fun i hi z => ?_) (fun i hi => g.we (List.mem_filter.mp hi).1) (fun i hi => ?_)
    · rw [List.nodup_append]
      refine ⟨g.ndR, batch_nodup g k, fun i hi j hj e => ?_⟩
      subst e
      exact g.wr (batch_in k hj) hi
    · obtain ⟨h1, h2⟩ := List.mem_filter.mp hi
      rcases List.mem_append.mp z with z | z
      · exact g.wr h1 z
      · rw [hasId_iff.mpr z] at h2; cases h2
    · rcases List.mem_append.mp hi with z | z
      · exact g.re z
      · exact g.we (batch_in k z)
  few := by
    have := served_count g k
    have := g.few
    show (served s k).waiting.length + (s.running ++ batchOf s k).length ≤ 40
    rw [List.length_append]; omega
  all := by
    have := served_count g k
    have := g.all
    show (served s k).waiting.length + (s.running ++ batchOf s k).length + s.ended.length ≤ 400
    rw [List.length_append]; omega
  day := g.day
  lim := g.lim
  tim := by show s.time + 1 ≤ 1000000; omega
  its := fun x hx => by
    have hx' : x ∈ (s.waiting.filter fun x => !hasId (batchOf s k) x.id).map (aged s (batchOf s k)) ++ (s.running ++ batchOf s k) := hx
    rcases List.mem_append.mp hx' with z | z
    · obtain ⟨y, hy, e⟩ := List.mem_map.mp z
      have hg := g.its y (List.mem_append_left _ (List.mem_filter.mp hy).1)
      subst e
      rw [(aged_same s _ y).1, (aged_same s _ y).2.1, (aged_same s _ y).2.2, aged_id]
      exact hg
    · rcases List.mem_append.mp z with z | z
      · exact g.its x (List.mem_append_right _ z)
      · exact g.its x (List.mem_append_left _ (batch_mem z).1)
  wns := g.wns
end

/-! ### the loop that counts who is passed, from behind -/
def pas1 (p : Nat → Bool) (x : Item) (r : List Item) : Item := if p x.id = true then x else if (r.any fun y => p y.id) = true then bump x else x
def pas (p : Nat → Bool) : List Item → List Item
  | [] => []
  | x :: r => pas1 p x r :: pas p r
theorem pas1_id (p : Nat → Bool) (x : Item) (r : List Item) : (pas1 p x r).id = x.id := by
  unfold pas1
  split
  · rfl
  · split <;> rfl
theorem pas_ids (p : Nat → Bool) : ∀ r : List Item, idsOf (pas p r) = idsOf r
  | [] => rfl
  | x :: r => by
    show (pas1 p x r).id :: idsOf (pas p r) = x.id :: idsOf r
    rw [pas1_id, pas_ids p r]
theorem pas_mem (p : Nat → Bool) : ∀ (pre : List Item) (x : Item) (post : List Item), pas1 p x post ∈ pas p (pre ++ x :: post)
  | [], x, post => List.mem_cons_self
  | y :: pre, x, post => List.mem_cons_of_mem _ (pas_mem p pre x post)
/-- what becomes of an item that waits -/
theorem aged_pas {s : State} {b pre post : List Item} {x : Item} (nd : (idsOf s.waiting).Nodup) (hb : ∀ y ∈ b, y ∈ s.waiting ∧ ready s y = true)
    (hs : s.waiting.filter (ready s) = pre ++ x :: post) (hx : hasId b x.id = false) : aged s b x = pas1 (hasId b) x post := by
  rw [aged_ready nd hb hs]
  unfold pas1
  have h : ¬ hasId b x.id = true := by rw [hx]; exact Bool.false_ne_true
  rw [if_neg h]
theorem served_known {s : State} (k i : Nat) : known (served s k) i = known s i := by
  rw [Bool.eq_iff_iff, known_iff, known_iff]
  have e1 := served_waiting (s := s) k
  have e2 : idsOf (served s k).running = idsOf s.running ++ idsOf (batchOf s k) := ids_append _ _
  rw [e1, e2, List.mem_filter, List.mem_append]
  show _ ∨ _ ∨ i ∈ s.ended.map (·.1) ↔ _
  constructor
  · rintro (h | (h | h) | h)
    · exact .inl h.1
    · exact .inr (.inl h)
    · exact .inl (batch_in k h)
    · exact .inr (.inr h)
  · rintro (h | h | h)
    · cases e : hasId (batchOf s k) i with
      | true => exact .inr (.inl (.inr (hasId_iff.mp e)))
      | false => exact .inl ⟨h, rfl⟩
    · exact .inr (.inl (.inl h))
    · exact .inr (.inr h)
end Ag

/-! The request: one list, call by call. -/
set_option Elab.async false
set_option linter.all false
namespace Ag
open Vamrqg
/-- a call as its rows and as the specification's -/
inductive Form : List (List Int) → Vamrqg.Call → Prop
  | config (l d : Int) : Form [[0, l, d]] (.config l d)
  | add (i p c : Int) (n : List Int) : n.length ≤ 20 → Form [[1, i, p, c], n] (.add i p c n)
  | window (c : Int) (l : List Int) : l.length ≤ 20 → Form [[2, c], l] (.window c l)
  | freeze (c : Int) : Form [[3, c]] (.freeze c)
  | thaw (c : Int) : Form [[4, c]] (.thaw c)
  | tick (n : Int) : Form [[5, n]] (.tick n)
  | order : Form [[6]] .order
  | serve (k : Int) : Form [[7, k]] (.serve k)
  | outcome (i ok : Int) : Form [[8, i, ok]] (.outcome i ok)
  | again (i : Int) : Form [[9, i]] (.again i)
  | withdraw (i : Int) : Form [[10, i]] (.withdraw i)
  | why (i : Int) : Form [[11, i]] (.why i)
  | place (i : Int) : Form [[12, i]] (.place i)
  | nextOpen (c : Int) : Form [[13, c]] (.nextOpen c)
  | status : Form [[14]] .status
theorem len0 {α : Type} {l : List α} (h : 0 = l.length) : l = [] := List.eq_nil_of_length_eq_zero h.symm
theorem len_succ {α : Type} {n : Nat} : ∀ {l : List α}, n + 1 = l.length → ∃ x r, l = x :: r ∧ n = r.length
  | [], h => by cases h
  | x :: r, h => ⟨x, r, rfl, Nat.succ.inj h⟩
theorem len1 {α : Type} {l : List α} (h : 1 = l.length) : ∃ x, l = [x] := by
  obtain ⟨x, r, rfl, h1⟩ := len_succ h
  exact ⟨x, by rw [len0 h1]⟩
theorem len2 {α : Type} {l : List α} (h : 2 = l.length) : ∃ x y, l = [x, y] := by
  obtain ⟨x, r, rfl, h1⟩ := len_succ h
  obtain ⟨y, e⟩ := len1 h1
  exact ⟨x, y, by rw [e]⟩
theorem len3 {α : Type} {l : List α} (h : 3 = l.length) : ∃ x y z, l = [x, y, z] := by
  obtain ⟨x, r, rfl, h1⟩ := len_succ h
  obtain ⟨y, z, e⟩ := len2 h1
  exact ⟨x, y, z, by rw [e]⟩
/-- a call of the shape that is asked -/
theorem form_ok {d : List (List Int)} (h : PyFlat.okCall PyVamrqg.shape d) (ha : VamrqgNeutral.asked1 (PyVamrqg.whole d) = true) : PyVamrqg.whole d = d ∧ ∃ k, Form d k := by
  obtain ⟨p, a, xs, e, hs⟩ := h
  subst e
  unfold PyVamrqg.shape at hs
  by_cases h0 : p = 0
  · rw [if_pos h0] at hs
    subst h0
    obtain ⟨e1, e2⟩ := Prod.mk.inj (Option.some.inj hs)
    obtain ⟨x, y, rfl⟩ := len2 e1
    have e4 := len0 e2
    subst e4
    exact ⟨rfl, _, .config x y⟩
  rw [if_neg h0] at hs
  by_cases h1 : p = 1
  · rw [if_pos h1] at hs
    subst h1
    obtain ⟨e1, e2⟩ := Prod.mk.inj (Option.some.inj hs)
    obtain ⟨x, y, z, rfl⟩ := len3 e1
    obtain ⟨r, rfl⟩ := len1 e2
    have h' : (VamrqgNeutral.whole60 x && (VamrqgNeutral.whole60 y && (VamrqgNeutral.whole60 z && ((r.all fun z => VamrqgNeutral.whole60 z) && decide (r.length ≤ 20))))) = true := ha
    simp only [Bool.and_eq_true, decide_eq_true_eq] at h'
    exact ⟨rfl, _, .add x y z r h'.2.2.2.2⟩
  rw [if_neg h1] at hs
  by_cases h2 : p = 2
  · rw [if_pos h2] at hs
    subst h2
    obtain ⟨e1, e2⟩ := Prod.mk.inj (Option.some.inj hs)
    obtain ⟨x, rfl⟩ := len1 e1
    obtain ⟨r, rfl⟩ := len1 e2
    have h' : (VamrqgNeutral.whole60 x && ((r.all fun z => VamrqgNeutral.whole60 z) && decide (r.length ≤ 20))) = true := ha
    simp only [Bool.and_eq_true, decide_eq_true_eq] at h'
    exact ⟨rfl, _, .window x r h'.2.2⟩
  rw [if_neg h2] at hs
  by_cases h3 : p = 3
  · rw [if_pos h3] at hs
    subst h3
    obtain ⟨e1, e2⟩ := Prod.mk.inj (Option.some.inj hs)
    obtain ⟨x, rfl⟩ := len1 e1
    have e4 := len0 e2
    subst e4
    exact ⟨rfl, _, .freeze x⟩
  rw [if_neg h3] at hs
  by_cases h4 : p = 4
  · rw [if_pos h4] at hs
    subst h4
    obtain ⟨e1, e2⟩ := Prod.mk.inj (Option.some.inj hs)
    obtain ⟨x, rfl⟩ := len1 e1
    have e4 := len0 e2
    subst e4
    exact ⟨rfl, _, .thaw x⟩
  rw [if_neg h4] at hs
  by_cases h5 : p = 5
  · rw [if_pos h5] at hs
    subst h5
    obtain ⟨e1, e2⟩ := Prod.mk.inj (Option.some.inj hs)
    obtain ⟨x, rfl⟩ := len1 e1
    have e4 := len0 e2
    subst e4
    exact ⟨rfl, _, .tick x⟩
  rw [if_neg h5] at hs
  by_cases h6 : p = 6
  · rw [if_pos h6] at hs
    subst h6
    obtain ⟨e1, e2⟩ := Prod.mk.inj (Option.some.inj hs)
    have e3 := len0 e1
    subst e3
    have e4 := len0 e2
    subst e4
    exact ⟨rfl, _, .order⟩
  rw [if_neg h6] at hs
  by_cases h7 : p = 7
  · rw [if_pos h7] at hs
    subst h7
    obtain ⟨e1, e2⟩ := Prod.mk.inj (Option.some.inj hs)
    obtain ⟨x, rfl⟩ := len1 e1
    have e4 := len0 e2
    subst e4
    exact ⟨rfl, _, .serve x⟩
  rw [if_neg h7] at hs
  by_cases h8 : p = 8
  · rw [if_pos h8] at hs
    subst h8
    obtain ⟨e1, e2⟩ := Prod.mk.inj (Option.some.inj hs)
    obtain ⟨x, y, rfl⟩ := len2 e1
    have e4 := len0 e2
    subst e4
    exact ⟨rfl, _, .outcome x y⟩
  rw [if_neg h8] at hs
  by_cases h9 : p = 9
  · rw [if_pos h9] at hs
    subst h9
    obtain ⟨e1, e2⟩ := Prod.mk.inj (Option.some.inj hs)
    obtain ⟨x, rfl⟩ := len1 e1
    have e4 := len0 e2
    subst e4
    exact ⟨rfl, _, .again x⟩
  rw [if_neg h9] at hs
  by_cases h10 : p = 10
  · rw [if_pos h10] at hs
    subst h10
    obtain ⟨e1, e2⟩ := Prod.mk.inj (Option.some.inj hs)
    obtain ⟨x, rfl⟩ := len1 e1
    have e4 := len0 e2
    subst e4
    exact ⟨rfl, _, .withdraw x⟩
  rw [if_neg h10] at hs
  by_cases h11 : p = 11
  · rw [if_pos h11] at hs
    subst h11
    obtain ⟨e1, e2⟩ := Prod.mk.inj (Option.some.inj hs)
    obtain ⟨x, rfl⟩ := len1 e1
    have e4 := len0 e2
    subst e4
    exact ⟨rfl, _, .why x⟩
  rw [if_neg h11] at hs
  by_cases h12 : p = 12
  · rw [if_pos h12] at hs
    subst h12
    obtain ⟨e1, e2⟩ := Prod.mk.inj (Option.some.inj hs)
    obtain ⟨x, rfl⟩ := len1 e1
    have e4 := len0 e2
    subst e4
    exact ⟨rfl, _, .place x⟩
  rw [if_neg h12] at hs
  by_cases h13 : p = 13
  · rw [if_pos h13] at hs
    subst h13
    obtain ⟨e1, e2⟩ := Prod.mk.inj (Option.some.inj hs)
    obtain ⟨x, rfl⟩ := len1 e1
    have e4 := len0 e2
    subst e4
    exact ⟨rfl, _, .nextOpen x⟩
  rw [if_neg h13] at hs
  by_cases h14 : p = 14
  · rw [if_pos h14] at hs
    subst h14
    obtain ⟨e1, e2⟩ := Prod.mk.inj (Option.some.inj hs)
    have e3 := len0 e1
    subst e3
    have e4 := len0 e2
    subst e4
    exact ⟨rfl, _, .status⟩
  rw [if_neg h14] at hs
  cases hs
theorem step_form {s : State} {c : List (List Int)} {k : Vamrqg.Call} (h : Form c k) : VamrqgNeutral.step s c = ((Vamrqg.step s k).1, VamrqgNeutral.encode (Vamrqg.step s k).2) := by
  cases h <;> rfl
/-- a request that is asked: its calls -/
theorem request {l : List Int} (h : PyVamrqg.answers_asked l = true) : ∃ cs : List (List (List Int)), l = PyFlat.put cs ∧ cs.length ≤ 400 ∧ (∀ c ∈ cs, ∃ k, Form c k) ∧
    PyVamrqg.answers l = PyFlat.told (PyFlat.played VamrqgNeutral.step Vamrqg.start cs) := by
  unfold PyVamrqg.answers_asked at h
  cases e : PyVamrqg.calls l with
  | none => rw [e] at h; cases h
  | some cs =>
    rw [e] at h
    have h' : (PyFlat.atMost 400 cs && VamrqgNeutral.asked cs) = true := h
    rw [Bool.and_eq_true] at h'
    have h1 : cs.length ≤ 400 := of_decide_eq_true h'.1
    have h2 : ∀ c ∈ cs, VamrqgNeutral.asked1 c = true := by
      have := h'.2
      unfold VamrqgNeutral.asked at this
      rw [Bool.and_eq_true] at this
      exact List.all_eq_true.mp this.1
    unfold PyVamrqg.calls at e
    cases e1 : PyFlat.calls PyVamrqg.shape l.length l with
    | none => rw [e1] at e; cases e
    | some ds =>
      rw [e1] at e
      have e2 : ds.map PyVamrqg.whole = cs := Option.some.inj e
      obtain ⟨p1, p2⟩ := PyFlat.put_calls l.length l ds e1
      have ok : ∀ c ∈ ds, PyVamrqg.whole c = c ∧ ∃ k, Form c k := fun c hc => form_ok (p2 c hc) (h2 _ (by rw [← e2]; exact List.mem_map.mpr ⟨c, hc, rfl⟩))
      have e3 : ds = cs := by
        rw [← e2]
        conv => lhs; rw [← List.map_id ds]
        exact List.map_congr_left fun c hc => (ok c hc).1.symm
      subst e3
      refine ⟨ds, p1, h1, fun c hc => (ok c hc).2, ?_⟩
      unfold PyVamrqg.answers PyVamrqg.calls
      rw [e1]
      show PyFlat.told (PyFlat.played VamrqgNeutral.step VamrqgNeutral.start (ds.map PyVamrqg.whole)) = _
      rw [e2]
      rfl
/-- the state behind a row of calls -/
def after : State → List (List (List Int)) → State
  | s, [] => s
  | s, c :: r => after (VamrqgNeutral.step s c).1 r
theorem played_append (s : State) : ∀ (a b : List (List (List Int))), PyFlat.played VamrqgNeutral.step s (a ++ b) = PyFlat.played VamrqgNeutral.step s a ++ PyFlat.played VamrqgNeutral.step (after s a) b := by
  intro a
  induction a generalizing s with
  | nil => intro b; rfl
  | cons c r ih =>
    intro b
    show (VamrqgNeutral.step s c).2 :: PyFlat.played VamrqgNeutral.step (VamrqgNeutral.step s c).1 (r ++ b) = _
    rw [ih]
    rfl
theorem told_append (a b : List (List Int)) : PyFlat.told (a ++ b) = PyFlat.told a ++ PyFlat.told b := List.flatMap_append
theorem told_one (x : List Int) : PyFlat.told [x] = (x.length : Int) :: x := by
  show (x.length : Int) :: x ++ [] = _
  rw [List.append_nil]
theorem put_append : ∀ (a b : List (List (List Int))), PyFlat.put (a ++ b) = PyFlat.put a ++ PyFlat.put b
  | [], _ => rfl
  | c :: r, b => by
    show PyFlat.put1 c ++ PyFlat.put (r ++ b) = (PyFlat.put1 c ++ PyFlat.put r) ++ PyFlat.put b
    rw [put_append r b, List.append_assoc]

/-! ### stage 2's calls keep what holds -/
section
variable {s : State}
theorem ids_drop (l : List Item) (i : Nat) : idsOf (dropId l i) = (idsOf l).filter fun j => !decide (j = i) := ids_filter (fun j => !decide (j = i)) l
theorem drop_len : ∀ {l : List Item} {i : Nat}, (idsOf l).Nodup → i ∈ idsOf l → (dropId l i).length + 1 = l.length
  | [], i, _, h => by cases h
  | x :: l, i, hn, h => by
    rw [ids_cons] at hn h
    obtain ⟨n1, n2⟩ := List.nodup_cons.mp hn
    unfold dropId
    by_cases e : x.id = i
    · subst e
      rw [List.filter_cons_of_neg (by simp)]
      have : l.filter (fun y => !decide (y.id = x.id)) = l := List.filter_eq_self.mpr fun y hy => by
        have : ¬ y.id = x.id := fun z => n1 (z ▸ mem_ids hy)
        simp [this]
      rw [this, List.length_cons]
    · rw [List.filter_cons_of_pos (by simp [e]), List.length_cons, List.length_cons]
      have hm : i ∈ idsOf l := by
        rcases List.mem_cons.mp h with z | z
        · exact absurd z.symm e
        · exact z
      have := drop_len n2 hm
      unfold dropId at this
      omega
theorem mem_drop {l : List Item} {i : Nat} {x : Item} (h : x ∈ dropId l i) : x ∈ l ∧ x.id ≠ i := by
  obtain ⟨h1, h2⟩ := List.mem_filter.mp h
  exact ⟨h1, by simpa using h2⟩
theorem ended_ids (l : List (Nat × End)) (i : Nat) (e : End) : (l ++ [(i, e)]).map (·.1) = l.map (·.1) ++ [i] := by rw [List.map_append]; rfl
theorem nodup_snoc {l : List Nat} {i : Nat} (h : l.Nodup) (hi : ¬ i ∈ l) : (l ++ [i]).Nodup := by
  rw [List.nodup_append]
  refine ⟨h, by simp, fun a ha b hb e => ?_⟩
  rw [List.mem_singleton] at hb
  subst e hb
  exact hi ha
theorem good_outcome (g : Good s) {x : Item} (hx : x ∈ s.running) (e : End) : Good (s.with_ s.waiting (dropId s.running x.id) (s.ended ++ [(x.id, e)])) where
  nd := by
    show (idsOf s.waiting ++ (idsOf (dropId s.running x.id) ++ (s.ended ++ [(x.id, e)]).map (·.1))).Nodup
    rw [ids_drop, ended_ids]
    refine nodup3 g.ndW (g.ndR.sublist List.filter_sublist) (nodup_snoc g.ndE (g.re (mem_ids hx))) (fun i hi z => g.wr hi (List.mem_filter.mp z).1) (fun i hi z => ?_) (fun i hi z => ?_)
    · rcases List.mem_append.mp z with z | z
      · exact g.we hi z
      · rw [List.mem_singleton] at z
        subst z
        exact g.wr hi (mem_ids hx)
    · obtain ⟨h1, h2⟩ := List.mem_filter.mp hi
      rcases List.mem_append.mp z with z | z
      · exact g.re h1 z
      · rw [List.mem_singleton] at z
        subst z
        simp at h2
  few := by
    have := drop_len g.ndR (mem_ids hx)
    have := g.few
    show s.waiting.length + (dropId s.running x.id).length ≤ 40
    omega
  all := by
    have := drop_len g.ndR (mem_ids hx)
    have := g.all
    show s.waiting.length + (dropId s.running x.id).length + (s.ended ++ [(x.id, e)]).length ≤ 400
    rw [List.length_append, List.length_singleton]
    omega
  day := g.day
  lim := g.lim
  tim := g.tim
  its := fun y hy => by
    have hy' : y ∈ s.waiting ++ dropId s.running x.id := hy
    rcases List.mem_append.mp hy' with z | z
    · exact g.its y (List.mem_append_left _ z)
    · exact g.its y (List.mem_append_right _ (mem_drop z).1)
  wns := g.wns
theorem good_again (g : Good s) {x : Item} (hx : x ∈ s.running) : Good (s.with_ (x :: s.waiting) (dropId s.running x.id) s.ended) where
  nd := by
    show (idsOf (x :: s.waiting) ++ (idsOf (dropId s.running x.id) ++ s.ended.map (·.1))).Nodup
    rw [ids_drop, ids_cons]
    refine nodup3 (List.nodup_cons.mpr ⟨fun z => g.wr z (mem_ids hx), g.ndW⟩) (g.ndR.sublist List.filter_sublist) g.ndE (fun i hi z => ?_) (fun i hi z => ?_) (fun i hi => g.re (List.mem_filter.mp hi).1)
    · obtain ⟨h1, h2⟩ := List.mem_filter.mp z
      rcases List.mem_cons.mp hi with y | y
      · subst y
        simp at h2
      · exact g.wr y h1
    · rcases List.mem_cons.mp hi with y | y
      · subst y
        exact g.re (mem_ids hx) z
      · exact g.we y z
  few := by
    have := drop_len g.ndR (mem_ids hx)
    have := g.few
    show (x :: s.waiting).length + (dropId s.running x.id).length ≤ 40
    rw [List.length_cons]
    omega
  all := by
    have := drop_len g.ndR (mem_ids hx)
    have := g.all
    show (x :: s.waiting).length + (dropId s.running x.id).length + s.ended.length ≤ 400
    rw [List.length_cons]
    omega
  day := g.day
  lim := g.lim
  tim := g.tim
  its := fun y hy => by
    have hy' : y ∈ (x :: s.waiting) ++ dropId s.running x.id := hy
    rcases List.mem_append.mp hy' with z | z
    · rcases List.mem_cons.mp z with z | z
      · subst z; exact g.its y (List.mem_append_right _ hx)
      · exact g.its y (List.mem_append_left _ z)
    · exact g.its y (List.mem_append_right _ (mem_drop z).1)
  wns := g.wns
theorem good_withdraw (g : Good s) {x : Item} (hx : x ∈ s.waiting) (e : End) : Good (s.with_ (dropId s.waiting x.id) s.running (s.ended ++ [(x.id, e)])) where
  nd := by
    show (idsOf (dropId s.waiting x.id) ++ (idsOf s.running ++ (s.ended ++ [(x.id, e)]).map (·.1))).Nodup
    rw [ids_drop, ended_ids]
    refine nodup3 (g.ndW.sublist List.filter_sublist) g.ndR (nodup_snoc g.ndE (g.we (mem_ids hx))) (fun i hi => g.wr (List.mem_filter.mp hi).1) (fun i hi z => ?_) (fun i hi z => ?_)
    · obtain ⟨h1, h2⟩ := List.mem_filter.mp hi
      rcases List.mem_append.mp z with z | z
      · exact g.we h1 z
      · rw [List.mem_singleton] at z
        subst z
        simp at h2
    · rcases List.mem_append.mp z with z | z
      · exact g.re hi z
      · rw [List.mem_singleton] at z
        subst z
        exact g.wr (mem_ids hx) hi
  few := by
    have := drop_len g.ndW (mem_ids hx)
    have := g.few
    show (dropId s.waiting x.id).length + s.running.length ≤ 40
    omega
  all := by
    have := drop_len g.ndW (mem_ids hx)
    have := g.all
    show (dropId s.waiting x.id).length + s.running.length + (s.ended ++ [(x.id, e)]).length ≤ 400
    rw [List.length_append, List.length_singleton]
    omega
  day := g.day
  lim := g.lim
  tim := g.tim
  its := fun y hy => by
    have hy' : y ∈ dropId s.waiting x.id ++ s.running := hy
    rcases List.mem_append.mp hy' with z | z
    · exact g.its y (List.mem_append_left _ (mem_drop z).1)
    · exact g.its y (List.mem_append_right _ z)
  wns := g.wns
end
end Ag

/-! Hours as pairs. -/
set_option Elab.async false
set_option linter.all false
namespace Ag
open Vamrqg
def pairsOf : List Int → List (Int × Int)
  | a :: b :: r => (a, b) :: pairsOf r
  | _ => []
def okPair (d : Int) (w : Int × Int) : Bool := decide (0 ≤ w.1) && decide (w.1 < w.2) && decide (w.2 ≤ d)
def natPair (w : Int × Int) : Nat × Nat := (w.1.toNat, w.2.toNat)
theorem pairs_len : ∀ (l : List Int), l.length % 2 = 0 → 2 * (pairsOf l).length = l.length
  | [], _ => rfl
  | [_], h => by cases h
  | a :: b :: r, h => by
    have := pairs_len r (by simp only [List.length_cons] at h; omega)
    simp only [pairsOf, List.length_cons]
    omega
theorem pairs_get : ∀ (l : List Int) (i : Nat) (w : Int × Int), (pairsOf l)[i]? = some w → l[2 * i]? = some w.1 ∧ l[2 * i + 1]? = some w.2
  | [], i, w, h => by simp [pairsOf] at h
  | [_], i, w, h => by simp [pairsOf] at h
  | a :: b :: r, 0, w, h => by
    have e : (a, b) = w := Option.some.inj h
    subst e
    exact ⟨rfl, rfl⟩
  | a :: b :: r, i + 1, w, h => by
    obtain ⟨h1, h2⟩ := pairs_get r i w h
    have e1 : 2 * (i + 1) = 2 * i + 1 + 1 := by omega
    rw [e1]
    exact ⟨h1, h2⟩
theorem hours_some (d : Nat) : ∀ (l : List Int), l.length % 2 = 0 → (pairsOf l).all (okPair d) = true → hoursOf d l = some ((pairsOf l).map natPair)
  | [], _, _ => rfl
  | [_], h, _ => by cases h
  | a :: b :: r, h, ha => by
    simp only [pairsOf, List.all_cons, Bool.and_eq_true] at ha
    obtain ⟨h1, h2⟩ := ha
    have ih := hours_some d r (by simp only [List.length_cons] at h; omega) h2
    unfold okPair at h1
    simp only [Bool.and_eq_true, decide_eq_true_eq] at h1
    show (if 0 ≤ a ∧ a < b ∧ b ≤ (d : Int) then (hoursOf d r).map fun l => (a.toNat, b.toNat) :: l else none) = _
    rw [if_pos ⟨h1.1.1, h1.1.2, h1.2⟩, ih]
    rfl
theorem hours_none (d : Nat) : ∀ (l : List Int), (pairsOf l).all (okPair d) = false → hoursOf d l = none
  | [], h => by simp [pairsOf] at h
  | [_], h => by simp [pairsOf] at h
  | a :: b :: r, h => by
    show (if 0 ≤ a ∧ a < b ∧ b ≤ (d : Int) then (hoursOf d r).map fun l => (a.toNat, b.toNat) :: l else none) = none
    by_cases c : 0 ≤ a ∧ a < b ∧ b ≤ (d : Int)
    · rw [if_pos c]
      have : (pairsOf r).all (okPair d) = false := by
        simp only [pairsOf, List.all_cons] at h
        have e : okPair d (a, b) = true := by
          unfold okPair
          simp only [Bool.and_eq_true, decide_eq_true_eq]
          exact ⟨⟨c.1, c.2.1⟩, c.2.2⟩
        rw [e, Bool.true_and] at h
        exact h
      rw [hours_none d r this]
      rfl
    · rw [if_neg c]
theorem hours_odd (d : Nat) : ∀ (l : List Int), ¬ l.length % 2 = 0 → hoursOf d l = none
  | [], h => absurd rfl h
  | [_], _ => rfl
  | a :: b :: r, h => by
    show (if 0 ≤ a ∧ a < b ∧ b ≤ (d : Int) then (hoursOf d r).map fun l => (a.toNat, b.toNat) :: l else none) = none
    rw [hours_odd d r (by simp only [List.length_cons] at h; omega)]
    split <;> rfl
theorem hours_pairs {d : Nat} {l : List Int} {ws : List (Nat × Nat)} (h : hoursOf d l = some ws) : l.length % 2 = 0 ∧ ws = (pairsOf l).map natPair := by
  by_cases e : l.length % 2 = 0
  · refine ⟨e, ?_⟩
    cases a : (pairsOf l).all (okPair d) with
    | false => rw [hours_none d l a] at h; cases h
    | true =>
      rw [hours_some d l e a] at h
      exact (Option.some.inj h).symm
  · rw [hours_odd d l e] at h
    cases h
/-- what a window call comes to -/
theorem window_out {s : State} {c : Int} {l : List Int} (hc : 0 ≤ c ∧ c ≤ 7) (h1 : l.length % 2 = 0) (h2 : l.length ≤ 8) (h3 : (pairsOf l).all (okPair s.day) = true) :
    Vamrqg.outcome s (.window c l) = .ok (⟨s.limit, s.day, s.time, (s.windows.filter fun x => !decide (x.1 = c.toNat)) ++ [(c.toNat, (pairsOf l).map natPair)], s.frozen, s.stopped, s.waiting, s.running, s.ended⟩, [ofNat (pairsOf l).length]) := by
  show andThen (ranged c 0 ((7 : Nat) : Int)) _ = _
  have : ranged c 0 ((7 : Nat) : Int) = .ok c.toNat := by unfold ranged; rw [if_pos (by omega)]
  rw [this]
  show (match hoursOf s.day l with | none => _ | some w => _) = _
  rw [hours_some s.day l h1 h3]
  show (if 4 < ((pairsOf l).map natPair).length then _ else _) = _
  have := pairs_len l h1
  rw [List.length_map, if_neg (by omega)]
theorem window_bad {s : State} {c : Int} {l : List Int} (hc : 0 ≤ c ∧ c ≤ 7) (h : ¬ (l.length % 2 = 0 ∧ l.length ≤ 8 ∧ (pairsOf l).all (okPair s.day) = true)) : Vamrqg.outcome s (.window c l) = .error (-2) := by
  show andThen (ranged c 0 ((7 : Nat) : Int)) _ = _
  have : ranged c 0 ((7 : Nat) : Int) = .ok c.toNat := by unfold ranged; rw [if_pos (by omega)]
  rw [this]
  show (match hoursOf s.day l with | none => _ | some w => _) = _
  cases e : hoursOf s.day l with
  | none => rfl
  | some ws =>
    obtain ⟨h1, h2⟩ := hours_pairs e
    have h3 : (pairsOf l).all (okPair s.day) = true := by
      cases a : (pairsOf l).all (okPair s.day) with
      | true => rfl
      | false => rw [hours_none _ _ a] at e; cases e
    have h4 : ¬ l.length ≤ 8 := fun z => h ⟨h1, z, h3⟩
    have := pairs_len l h1
    show (if 4 < ws.length then _ else _) = _
    rw [h2, List.length_map, if_pos (by omega)]
end Ag

/-! How a state of the specification lies in the heap: the queue's object, its dicts, lists and items. Labels tell addresses apart. -/
set_option Elab.async false
set_option linter.all false
set_option maxRecDepth 100000
namespace Ag
open PySem PySem.Spec PyProof.Rows L2
open Vamrqg (State Item idsOf windowsOf endOf known)

abbrev nV (n : Nat) : V := .int (n : Int)
inductive Lab where
  | q | dW | dF | dK | dE | lWt | lR | item (i : Nat) | needs (i : Nat) | wl (c : Nat) | wt
  deriving DecidableEq
abbrev Own := Addr → Option Lab
theorem lab_ne {O : Own} {a b : Addr} {x y : Lab} (ha : O a = some x) (hb : O b = some y) (h : x ≠ y) : a ≠ b := fun e => by
  subst e
  rw [ha] at hb
  exact h (Option.some.inj hb)
theorem lab_free {O : Own} {a b : Addr} {x : Lab} (ha : O a = some x) (hb : O b = none) : a ≠ b := fun e => by
  subst e
  rw [ha] at hb
  cases hb
/-- the addresses and the dicts' pairs -/
structure Ads where
  aW : Addr
  aF : Addr
  aK : Addr
  aWt : Addr
  aR : Addr
  aE : Addr
  dq : Addr
  ia : Nat → Addr
  na : Nat → Addr
  di : Nat → Addr
  kW : List (Key × V)
  kF : List (Key × V)
  kK : List (Key × V)
  kE : List (Key × V)
def fQ (l d m : Nat) (D : Ads) : List (Str × V) :=
  [("limit", nV l), ("day", nV d), ("time", nV m), ("windows", .ref D.aW), ("frozen", .ref D.aF), ("known", .ref D.aK), ("waiting", .ref D.aWt), ("running", .ref D.aR), ("ended", .ref D.aE)]
def fI (x : Item) (n : Addr) : List (Str × V) := [("number", nV x.id), ("prio", nV x.prio), ("group", nV x.cls), ("needs", .ref n), ("passed", nV x.passed)]
def fR (a : Addr) (p : Nat) : List (Str × V) := [("numbers", .ref a), ("position", nV p)]
def endN : Vamrqg.End → Int
  | .landed => 7
  | .rejected => 8
  | .withdrawn => 9
/-- what ended, by any number -/
def endI (s : State) (k : Int) : Option Vamrqg.End := if 0 ≤ k then endOf s k.toNat else none
def knI (s : State) (k : Int) : Bool := decide (0 ≤ k) && known s k.toNat
structure ItemAt (C : Addr) (H : Hp) (O : Own) (D : Ads) (x : Item) : Prop where
  ob : H (D.ia x.id) = some (.ins C (D.di x.id) (fI x (D.na x.id)))
  nd : H (D.na x.id) = some (.lst (x.needs.map nV))
  lo : O (D.ia x.id) = some (.item x.id)
  ln : O (D.na x.id) = some (.needs x.id)
/-- a class's windows: none told, or a list of pairs -/
def WinAt (H : Hp) (O : Own) (c : Nat) (v : Option V) (ws : List (Nat × Nat)) : Prop :=
  (v = none ∧ ws = []) ∨ ∃ (l : Addr) (ts : List Addr), v = some (.ref l) ∧ H l = some (.lst (ts.map V.ref)) ∧ O l = some (.wl c) ∧
    Paired (fun (a : Addr) (w : Nat × Nat) => H a = some (.tup [nV w.1, nV w.2]) ∧ O a = some .wt) ts ws
structure Rep (cQ cI : Addr) (H : Hp) (q : Addr) (s : State) (O : Own) (D : Ads) (n : Nat) : Prop where
  good : Good s
  tr : ∀ b, H b = none → O b = none
  ob : H q = some (.ins cQ D.dq (fQ s.limit s.day s.time D))
  lq : O q = some .q
  oW : H D.aW = some (.dK D.kW)
  lW : O D.aW = some .dW
  nW : D.kW.length ≤ n
  win : ∀ c : Nat, WinAt H O c (valV D.kW (Sum.inl (c : Int))) (windowsOf s c)
  oF : H D.aF = some (.dK D.kF)
  lF : O D.aF = some .dF
  nF : D.kF.length ≤ n
  fro : ∀ c : Nat, (valV D.kF (Sum.inl (c : Int))).getD (.bl false) = .bl (s.frozen.contains c)
  sto : (valV D.kF (Sum.inl (-1))).getD (.bl false) = .bl s.stopped
  oK : H D.aK = some (.dK D.kK)
  lK : O D.aK = some .dK
  nK : D.kK.length = s.waiting.length + s.running.length + s.ended.length
  kno : ∀ k : Int, valV D.kK (Sum.inl k) = if knI s k = true then some (.ref (D.ia k.toNat)) else none
  oE : H D.aE = some (.dK D.kE)
  lE : O D.aE = some .dE
  nE : D.kE.length = s.ended.length
  lsE : D.kE = s.ended.map fun p => (Sum.inl (p.1 : Int), V.int (endN p.2))
  end_ : ∀ k : Int, valV D.kE (Sum.inl k) = (endI s k).map fun e => .int (endN e)
  oWt : H D.aWt = some (.lst ((idsOf s.waiting).map nV))
  lWt : O D.aWt = some .lWt
  oR : H D.aR = some (.lst ((idsOf s.running).map nV))
  lR : O D.aR = some .lR
  item : ∀ x ∈ s.waiting ++ s.running, ItemAt cI H O D x
/-- what does not belong to the queue stays, and stays apart -/
def Fram (O : Own) (H : Hp) (O' : Own) (H' : Hp) : Prop := ∀ b o, H b = some o → O b = none → H' b = some o ∧ O' b = none
theorem Fram.refl (O : Own) (H : Hp) : Fram O H O H := fun _ _ h n => ⟨h, n⟩
theorem Fram.trans {O O1 O2 : Own} {H H1 H2 : Hp} (a : Fram O H O1 H1) (b : Fram O1 H1 O2 H2) : Fram O H O2 H2 := fun c o h n =>
  let ⟨h1, n1⟩ := a c o h n
  b c o h1 n1
theorem Fram.same {O : Own} {H H' : Hp} (s : Same H H') : Fram O H O H' := fun b o h n => ⟨s b o h, n⟩

theorem ItemAt.same {C : Addr} {H H' : Hp} {O : Own} {D : Ads} {x : Item} (s : Same H H') (h : ItemAt C H O D x) : ItemAt C H' O D x := ⟨s _ _ h.ob, s _ _ h.nd, h.lo, h.ln⟩
theorem paired_mono {α β : Type} {F G : α → β → Prop} : ∀ {l₁ : List α} {l₂ : List β}, Paired F l₁ l₂ → (∀ a b, F a b → G a b) → Paired G l₁ l₂
  | _, _, .nil, _ => .nil
  | _, _, .cons r t, f => .cons (f _ _ r) (paired_mono t f)
theorem WinAt.same {H H' : Hp} {O : Own} {c : Nat} {v : Option V} {ws : List (Nat × Nat)} (s : Same H H') (h : WinAt H O c v ws) : WinAt H' O c v ws := by
  rcases h with h | ⟨l, ts, e, h1, h2, h3⟩
  · exact .inl h
  · exact .inr ⟨l, ts, e, s _ _ h1, h2, paired_mono h3 fun a w z => ⟨s _ _ z.1, z.2⟩⟩
/-- the heap only grows: the owner's mark is free where the heap is -/
theorem Rep.same {cQ cI : Addr} {H H' : Hp} {q : Addr} {s : State} {O : Own} {D : Ads} {n : Nat} (R : Rep cQ cI H q s O D n) (e : Same H H') : Rep cQ cI H' q s O D n where
  good := R.good
  tr := fun b h => R.tr b (e.free h)
  ob := e _ _ R.ob
  lq := R.lq
  oW := e _ _ R.oW
  lW := R.lW
  nW := R.nW
  win := fun c => (R.win c).same e
  oF := e _ _ R.oF
  lF := R.lF
  nF := R.nF
  fro := R.fro
  sto := R.sto
  oK := e _ _ R.oK
  lK := R.lK
  nK := R.nK
  kno := R.kno
  oE := e _ _ R.oE
  lE := R.lE
  nE := R.nE
  lsE := R.lsE
  end_ := R.end_
  oWt := e _ _ R.oWt
  lWt := R.lWt
  oR := e _ _ R.oR
  lR := R.lR
  item := fun x hx => (R.item x hx).same e
/-- something that isn't the queue's is written -/
theorem Rep.other {cQ cI : Addr} {H H' : Hp} {q : Addr} {s : State} {O : Own} {D : Ads} {n : Nat} (R : Rep cQ cI H q s O D n) (e : ∀ b o, H b = some o → O b ≠ none → H' b = some o) (f : ∀ b, H' b = none → H b = none) : Rep cQ cI H' q s O D n where
  good := R.good
  tr := fun b h => R.tr b (f b h)
  ob := e _ _ R.ob (by rw [R.lq]; simp)
  lq := R.lq
  oW := e _ _ R.oW (by rw [R.lW]; simp)
  lW := R.lW
  nW := R.nW
  win := fun c => by
    rcases R.win c with h | ⟨l, ts, e1, h1, h2, h3⟩
    · exact .inl h
    · exact .inr ⟨l, ts, e1, e _ _ h1 (by rw [h2]; simp), h2, paired_mono h3 fun a w z => ⟨e _ _ z.1 (by rw [z.2]; simp), z.2⟩⟩
  oF := e _ _ R.oF (by rw [R.lF]; simp)
  lF := R.lF
  nF := R.nF
  fro := R.fro
  sto := R.sto
  oK := e _ _ R.oK (by rw [R.lK]; simp)
  lK := R.lK
  nK := R.nK
  kno := R.kno
  oE := e _ _ R.oE (by rw [R.lE]; simp)
  lE := R.lE
  nE := R.nE
  lsE := R.lsE
  end_ := R.end_
  oWt := e _ _ R.oWt (by rw [R.lWt]; simp)
  lWt := R.lWt
  oR := e _ _ R.oR (by rw [R.lR]; simp)
  lR := R.lR
  item := fun x hx => ⟨e _ _ (R.item x hx).ob (by rw [(R.item x hx).lo]; simp), e _ _ (R.item x hx).nd (by rw [(R.item x hx).ln]; simp), (R.item x hx).lo, (R.item x hx).ln⟩
theorem Rep.mono {cQ cI : Addr} {H : Hp} {q : Addr} {s : State} {O : Own} {D : Ads} {n n' : Nat} (R : Rep cQ cI H q s O D n) (h : n ≤ n') : Rep cQ cI H q s O D n' :=
  { R with nW := Nat.le_trans R.nW h, nF := Nat.le_trans R.nF h }
end Ag

/-! What each call makes of the heap, pointwise: the representation behind it. -/
set_option Elab.async false
set_option linter.all false
set_option maxRecDepth 100000
namespace Ag
open PySem PySem.Spec PyProof.Rows L2
open Vamrqg (State Item idsOf windowsOf endOf known)
/-- of the labels S nothing is changed -/
def Kp (H H' : Hp) (O O' : Own) (S : Lab → Prop) : Prop := ∀ b l, O b = some l → S l → H' b = H b ∧ O' b = some l
section
variable {cQ cI : Addr} {H H' : Hp} {q : Addr} {s : State} {O O' : Own} {D D' : Ads} {n : Nat} {S : Lab → Prop}
theorem Kp.ob {a : Addr} {l : Lab} {o : HO} (k : Kp H H' O O' S) (hl : O a = some l) (hS : S l) (h : H a = some o) : H' a = some o := by rw [(k a l hl hS).1]; exact h
theorem Kp.lb {a : Addr} {l : Lab} (k : Kp H H' O O' S) (hl : O a = some l) (hS : S l) : O' a = some l := (k a l hl hS).2
theorem WinAt.kp {c : Nat} {v : Option V} {ws : List (Nat × Nat)} (k : Kp H H' O O' S) (h1 : S (.wl c)) (h2 : S .wt) (h : WinAt H O c v ws) : WinAt H' O' c v ws := by
  rcases h with h | ⟨l, ts, e, a1, a2, a3⟩
  · exact .inl h
  · exact .inr ⟨l, ts, e, k.ob a2 h1 a1, k.lb a2 h1, paired_mono a3 fun a w z => ⟨k.ob z.2 h2 z.1, k.lb z.2 h2⟩⟩
theorem ItemAt.kp {x : Item} (h : ItemAt cI H O D x) (k : Kp H H' O O' S) (h1 : S (.item x.id)) (h2 : S (.needs x.id)) (e1 : D'.ia x.id = D.ia x.id) (e2 : D'.na x.id = D.na x.id) (e3 : D'.di x.id = D.di x.id) : ItemAt cI H' O' D' x := by
  refine ⟨?_, ?_, ?_, ?_⟩
  · rw [e1, e2, e3]; exact k.ob h.lo h1 h.ob
  · rw [e2]; exact k.ob h.ln h2 h.nd
  · rw [e1]; exact k.lb h.lo h1
  · rw [e2]; exact k.lb h.ln h2
/-- the queue's own numbers alone -/
theorem Rep.setq {l d m : Nat} (R : Rep cQ cI H q s O D n) (hg : Good ⟨l, d, m, s.windows, s.frozen, s.stopped, s.waiting, s.running, s.ended⟩)
    (hq : H' q = some (.ins cQ D.dq (fQ l d m D))) (hk : ∀ b, b ≠ q → H' b = H b) :
    Rep cQ cI H' q ⟨l, d, m, s.windows, s.frozen, s.stopped, s.waiting, s.running, s.ended⟩ O D n ∧ Fram O H O H' := by
  have k : Kp H H' O O (fun x => x ≠ .q) := fun b x h1 h2 => ⟨hk b (lab_ne h1 R.lq h2), h1⟩
  refine ⟨?_, fun b o h hn => ⟨by rw [hk b (lab_free R.lq hn).symm]; exact h, hn⟩⟩
  exact
  { good := hg
    tr := fun b h => R.tr b (by
      by_cases e : b = q
      · rw [e, hq] at h; cases h
      · rw [← hk b e]; exact h)
    ob := hq
    lq := R.lq
    oW := k.ob R.lW (by simp) R.oW
    lW := R.lW
    nW := R.nW
    win := fun c => (R.win c).kp k (by simp) (by simp)
    oF := k.ob R.lF (by simp) R.oF
    lF := R.lF
    nF := R.nF
    fro := R.fro
    sto := R.sto
    oK := k.ob R.lK (by simp) R.oK
    lK := R.lK
    nK := R.nK
    kno := R.kno
    oE := k.ob R.lE (by simp) R.oE
    lE := R.lE
    nE := R.nE
    lsE := R.lsE
    end_ := R.end_
    oWt := k.ob R.lWt (by simp) R.oWt
    lWt := R.lWt
    oR := k.ob R.lR (by simp) R.oR
    lR := R.lR
    item := fun x hx => (R.item x hx).kp k (by simp) (by simp) rfl rfl rfl }
/-- config: new numbers, a new dict of windows -/
theorem Rep.config {l d : Nat} {p : Addr} (R : Rep cQ cI H q s O D n) (hl : l ≤ 20) (hd : 1 ≤ d ∧ d ≤ 24) (hw : s.waiting = []) (hr : s.running = []) (hp0 : H p = none)
    (hq : H' q = some (.ins cQ D.dq (fQ l d s.time { D with aW := p, kW := [] }))) (hp : H' p = some (.dK [])) (hk : ∀ b, b ≠ q → b ≠ p → H' b = H b) :
    ∃ O', Rep cQ cI H' q ⟨l, d, s.time, [], s.frozen, s.stopped, [], [], s.ended⟩ O' { D with aW := p, kW := [] } n ∧ Fram O H O' H' := by
  have fp : O p = none := R.tr p hp0
  have o1 : ∀ b x, O b = some x → (if b = p then some Lab.dW else O b) = some x := fun b x h => by rw [if_neg (lab_free h fp)]; exact h
  have k : Kp H H' O (fun b => if b = p then some Lab.dW else O b) (fun x => x ≠ .q) := fun b x h1 h2 => ⟨hk b (lab_ne h1 R.lq h2) (lab_free h1 fp), o1 b x h1⟩
  refine ⟨fun b => if b = p then some Lab.dW else O b, ?_, fun b o h hn => ⟨by rw [hk b (lab_free R.lq hn).symm (ne_of_none h hp0)]; exact h, by show (if b = p then _ else _) = _; rw [if_neg (ne_of_none h hp0)]; exact hn⟩⟩
  exact
  { good := good_config R.good hl hd hw hr
    tr := fun b h => by
      by_cases e : b = p
      · rw [e, hp] at h; cases h
      · show (if b = p then _ else _) = _
        rw [if_neg e]
        refine R.tr b ?_
        by_cases e2 : b = q
        · rw [e2, hq] at h; cases h
        · rw [← hk b e2 e]; exact h
    ob := hq
    lq := o1 _ _ R.lq
    oW := hp
    lW := by show (if p = p then _ else _) = _; rw [if_pos rfl]
    nW := Nat.zero_le _
    win := fun c => .inl ⟨rfl, rfl⟩
    oF := k.ob R.lF (by simp) R.oF
    lF := k.lb R.lF (by simp)
    nF := R.nF
    fro := R.fro
    sto := R.sto
    oK := k.ob R.lK (by simp) R.oK
    lK := k.lb R.lK (by simp)
    nK := by
      have := R.nK
      rw [hw, hr] at this
      exact this
    kno := fun i => by
      have := R.kno i
      unfold knI known at this ⊢
      rw [hw, hr] at this
      exact this
    oE := k.ob R.lE (by simp) R.oE
    lE := k.lb R.lE (by simp)
    nE := R.nE
    lsE := R.lsE
    end_ := R.end_
    oWt := by
      have := k.ob R.lWt (by simp) R.oWt
      rw [hw] at this
      exact this
    lWt := k.lb R.lWt (by simp)
    oR := by
      have := k.ob R.lR (by simp) R.oR
      rw [hr] at this
      exact this
    lR := k.lb R.lR (by simp)
    item := fun x hx => by cases hx }
/-- a class or everything, frozen or thawed -/
theorem Rep.frost {c : Int} {on : Bool} {f : List Nat} {b : Bool} (R : Rep cQ cI H q s O D n) (hF : H' D.aF = some (.dK (putK D.kF (Sum.inl c) (.bl on)))) (hk : ∀ a, a ≠ D.aF → H' a = H a)
    (h1 : ∀ j : Nat, (valV (putK D.kF (Sum.inl c) (.bl on)) (Sum.inl (j : Int))).getD (.bl false) = .bl (f.contains j)) (h2 : (valV (putK D.kF (Sum.inl c) (.bl on)) (Sum.inl (-1))).getD (.bl false) = .bl b) :
    Rep cQ cI H' q ⟨s.limit, s.day, s.time, s.windows, f, b, s.waiting, s.running, s.ended⟩ O { D with kF := putK D.kF (Sum.inl c) (.bl on) } (n + 1) ∧ Fram O H O H' := by
  have k : Kp H H' O O (fun x => x ≠ .dF) := fun a x h1 h2 => ⟨hk a (lab_ne h1 R.lF h2), h1⟩
  refine ⟨?_, fun a o h hn => ⟨by rw [hk a (lab_free R.lF hn).symm]; exact h, hn⟩⟩
  exact
  { good := good_frost R.good f b
    tr := fun a h => R.tr a (by
      by_cases e : a = D.aF
      · rw [e, hF] at h; cases h
      · rw [← hk a e]; exact h)
    ob := k.ob R.lq (by simp) R.ob
    lq := R.lq
    oW := k.ob R.lW (by simp) R.oW
    lW := R.lW
    nW := Nat.le_succ_of_le R.nW
    win := fun c => (R.win c).kp k (by simp) (by simp)
    oF := hF
    lF := R.lF
    nF := Nat.le_trans (length_putK _ _ _) (Nat.succ_le_succ R.nF)
    fro := h1
    sto := h2
    oK := k.ob R.lK (by simp) R.oK
    lK := R.lK
    nK := R.nK
    kno := R.kno
    oE := k.ob R.lE (by simp) R.oE
    lE := R.lE
    nE := R.nE
    lsE := R.lsE
    end_ := R.end_
    oWt := k.ob R.lWt (by simp) R.oWt
    lWt := R.lWt
    oR := k.ob R.lR (by simp) R.oR
    lR := R.lR
    item := fun x hx => (R.item x hx).kp k (by simp) (by simp) rfl rfl rfl }

theorem key_ne {a b : Int} (h : a ≠ b) : ¬ (Sum.inl a : Key) = Sum.inl b := fun e => h (Sum.inl.inj e)
/-- a class's windows: a new list of new pairs -/
theorem Rep.window {c : Nat} {l : Addr} {ts : List Addr} {ws : List (Nat × Nat)} (R : Rep cQ cI H q s O D n) (fl : H l = none) (ft : ∀ a ∈ ts, H a = none) (h1 : ws.length ≤ 4) (h2 : ∀ w ∈ ws, w.1 < w.2 ∧ w.2 ≤ s.day)
    (hW : H' D.aW = some (.dK (putK D.kW (Sum.inl (c : Int)) (.ref l)))) (hl : H' l = some (.lst (ts.map V.ref))) (ht : Paired (fun (a : Addr) (w : Nat × Nat) => H' a = some (.tup [nV w.1, nV w.2])) ts ws)
    (hk : ∀ b, H b ≠ none → b ≠ D.aW → H' b = H b) :
    ∃ O', Rep cQ cI H' q ⟨s.limit, s.day, s.time, (s.windows.filter fun x => !decide (x.1 = c)) ++ [(c, ws)], s.frozen, s.stopped, s.waiting, s.running, s.ended⟩ O' { D with kW := putK D.kW (Sum.inl (c : Int)) (.ref l) } (n + 1) ∧ Fram O H O' H' := by
  have there : ∀ b x, O b = some x → H b ≠ none := fun b x h z => by rw [R.tr b z] at h; cases h
  have o1 : ∀ b, H b ≠ none → (if b = l then some (Lab.wl c) else if b ∈ ts then some Lab.wt else O b) = O b := fun b h => by
    rw [if_neg (fun e => h (by rw [e]; exact fl)), if_neg (fun e => h (ft b e))]
  have k : Kp H H' O (fun b => if b = l then some (Lab.wl c) else if b ∈ ts then some Lab.wt else O b) (fun x => x ≠ .dW) := fun b x h1 h2 =>
    ⟨hk b (there b x h1) (lab_ne h1 R.lW h2), (o1 b (there b x h1)).trans h1⟩
  have ht' : ∀ a ∈ ts, ∃ w : Nat × Nat, H' a = some (.tup [nV w.1, nV w.2]) := by
    clear ft h1 h2 k o1 hl
    induction ht with
    | nil => intro a ha; cases ha
    | cons h t ih =>
      intro a ha
      rcases List.mem_cons.mp ha with e | ha
      · subst e; exact ⟨_, h⟩
      · exact ih a ha
  have nlt : ¬ l ∈ ts := fun z => by
    obtain ⟨w, hw⟩ := ht' l z
    rw [hl] at hw; cases hw
  refine ⟨fun b => if b = l then some (Lab.wl c) else if b ∈ ts then some Lab.wt else O b, ?_, fun b o h hn => ⟨?_, ?_⟩⟩
  · exact
    { good := good_window R.good h1 h2
      tr := fun b h => by
        show (if b = l then _ else if b ∈ ts then _ else _) = _
        have n1 : b ≠ l := fun e => by rw [e, hl] at h; cases h
        have n2 : ¬ b ∈ ts := fun e => by
          obtain ⟨w, hw⟩ := ht' b e
          rw [hw] at h; cases h
        rw [if_neg n1, if_neg n2]
        cases e : O b with
        | none => rfl
        | some x =>
          have hb := there b x e
          by_cases ew : b = D.aW
          · rw [ew, hW] at h; cases h
          · rw [hk b hb ew] at h
            exact absurd h hb
      ob := k.ob R.lq (by simp) R.ob
      lq := k.lb R.lq (by simp)
      oW := hW
      lW := (o1 _ (there _ _ R.lW)).trans R.lW
      nW := Nat.le_trans (length_putK _ _ _) (Nat.succ_le_succ R.nW)
      win := fun j => by
        rw [windowsOf_put, valV_put]
        by_cases e : j = c
        · subst e
          rw [if_pos rfl, if_pos rfl]
          refine .inr ⟨l, ts, rfl, hl, by show (if l = l then _ else _) = _; rw [if_pos rfl], ?_⟩
          have all : ∀ (ts' : List Addr) (ws' : List (Nat × Nat)), (∀ a ∈ ts', a ∈ ts) → Paired (fun (a : Addr) (w : Nat × Nat) => H' a = some (.tup [nV w.1, nV w.2])) ts' ws' →
              Paired (fun (a : Addr) (w : Nat × Nat) => H' a = some (.tup [nV w.1, nV w.2]) ∧ (if a = l then some (Lab.wl j) else if a ∈ ts then some Lab.wt else O a) = some Lab.wt) ts' ws' := by
            intro ts' ws' hs hp
            induction hp with
            | nil => exact .nil
            | @cons a _ _ _ h t ih =>
              refine .cons ⟨h, ?_⟩ (ih fun b hb => hs b (List.mem_cons_of_mem _ hb))
              have ha := hs a List.mem_cons_self
              rw [if_neg (fun e : a = l => nlt (by rw [← e]; exact ha)), if_pos ha]
          exact all ts ws (fun _ h => h) ht
        · rw [if_neg e, if_neg (key_ne (by omega))]
          exact (R.win j).kp k (by simp) (by simp)
      oF := k.ob R.lF (by simp) R.oF
      lF := k.lb R.lF (by simp)
      nF := Nat.le_succ_of_le R.nF
      fro := R.fro
      sto := R.sto
      oK := k.ob R.lK (by simp) R.oK
      lK := k.lb R.lK (by simp)
      nK := R.nK
      kno := R.kno
      oE := k.ob R.lE (by simp) R.oE
      lE := k.lb R.lE (by simp)
      nE := R.nE
      lsE := R.lsE
      end_ := R.end_
      oWt := k.ob R.lWt (by simp) R.oWt
      lWt := k.lb R.lWt (by simp)
      oR := k.ob R.lR (by simp) R.oR
      lR := k.lb R.lR (by simp)
      item := fun x hx => (R.item x hx).kp k (by simp) (by simp) rfl rfl rfl }
  · rw [hk b (by rw [h]; simp) (lab_free R.lW hn).symm]; exact h
  · exact (o1 b (by rw [h]; simp)).trans hn
/-- an item more -/
theorem Rep.add {x : Item} {a dx nl : Addr} (R : Rep cQ cI H q s O D n) (hkn : known s x.id = false) (h1 : x.cls ≤ 7 ∧ x.prio ≤ 9 ∧ x.id ≤ 999 ∧ x.needs.length ≤ 6) (h2 : s.waiting.length + s.running.length < 40) (h3 : s.waiting.length + s.running.length + s.ended.length < 400)
    (fa : H a = none) (fn : H nl = none) (hK : H' D.aK = some (.dK (putK D.kK (Sum.inl (x.id : Int)) (.ref a)))) (hw : H' D.aWt = some (.lst ((idsOf s.waiting).map nV ++ [nV x.id]))) (ha : H' a = some (.ins cI dx (fI x nl))) (hn : H' nl = some (.lst (x.needs.map nV)))
    (hk : ∀ b, H b ≠ none → b ≠ D.aK → b ≠ D.aWt → H' b = H b) :
    ∃ O' D', Rep cQ cI H' q (s.with_ (s.waiting ++ [x]) s.running s.ended) O' D' n ∧ Fram O H O' H' := by
  have there : ∀ b y, O b = some y → H b ≠ none := fun b y h z => by rw [R.tr b z] at h; cases h
  have o1 : ∀ b, H b ≠ none → (if b = a then some (Lab.item x.id) else if b = nl then some (Lab.needs x.id) else O b) = O b := fun b h => by
    rw [if_neg (fun e => h (by rw [e]; exact fa)), if_neg (fun e => h (by rw [e]; exact fn))]
  have k : Kp H H' O (fun b => if b = a then some (Lab.item x.id) else if b = nl then some (Lab.needs x.id) else O b) (fun y => y ≠ .dK ∧ y ≠ .lWt) := fun b y h1 h2 =>
    ⟨hk b (there b y h1) (lab_ne h1 R.lK h2.1) (lab_ne h1 R.lWt h2.2), (o1 b (there b y h1)).trans h1⟩
  have nan : a ≠ nl := fun e => by rw [e, hn] at ha; cases ha
  have hv : valV D.kK (Sum.inl (x.id : Int)) = none := by
    rw [R.kno]
    have : knI s (x.id : Int) = false := by
      unfold knI
      rw [show ((x.id : Int)).toNat = x.id from rfl, hkn, Bool.and_false]
    rw [this]
    rfl
  have other : ∀ y ∈ s.waiting ++ s.running, y.id ≠ x.id := fun y hy e => by
    obtain ⟨b1, b2, _⟩ := (known_false x.id).mp hkn
    rcases List.mem_append.mp hy with z | z
    · exact b1 (e ▸ mem_ids z)
    · exact b2 (e ▸ mem_ids z)
  refine ⟨fun b => if b = a then some (Lab.item x.id) else if b = nl then some (Lab.needs x.id) else O b,
    { D with ia := fun i => if i = x.id then a else D.ia i, na := fun i => if i = x.id then nl else D.na i, di := fun i => if i = x.id then dx else D.di i, kK := putK D.kK (Sum.inl (x.id : Int)) (.ref a) }, ?_, fun b o h hn => ⟨?_, ?_⟩⟩
  · exact
    { good := good_add R.good hkn h1 h2 h3
      tr := fun b h => by
        show (if b = a then _ else if b = nl then _ else _) = _
        have n1 : b ≠ a := fun e => by rw [e, ha] at h; cases h
        have n2 : b ≠ nl := fun e => by rw [e, hn] at h; cases h
        rw [if_neg n1, if_neg n2]
        cases e : O b with
        | none => rfl
        | some y =>
          have hb := there b y e
          by_cases e1 : b = D.aK
          · rw [e1, hK] at h; cases h
          · by_cases e2 : b = D.aWt
            · rw [e2, hw] at h; cases h
            · rw [hk b hb e1 e2] at h
              exact absurd h hb
      ob := k.ob R.lq (by simp) R.ob
      lq := k.lb R.lq (by simp)
      oW := k.ob R.lW (by simp) R.oW
      lW := k.lb R.lW (by simp)
      nW := R.nW
      win := fun j => (R.win j).kp k (by simp) (by simp)
      oF := k.ob R.lF (by simp) R.oF
      lF := k.lb R.lF (by simp)
      nF := R.nF
      fro := R.fro
      sto := R.sto
      oK := hK
      lK := (o1 _ (there _ _ R.lK)).trans R.lK
      nK := by
        show (putK D.kK (Sum.inl (x.id : Int)) (.ref a)).length = (s.waiting ++ [x]).length + s.running.length + s.ended.length
        rw [putK_new _ hv, List.length_append, List.length_append, R.nK]
        simp only [List.length_singleton]
        omega
      kno := fun i => by
        show valV (putK D.kK (Sum.inl (x.id : Int)) (.ref a)) (Sum.inl i) = if knI (s.with_ (s.waiting ++ [x]) s.running s.ended) i = true then some (V.ref (if i.toNat = x.id then a else D.ia i.toNat)) else none
        rw [valV_put]
        by_cases e : i = (x.id : Int)
        · subst e
          have e2 : knI (s.with_ (s.waiting ++ [x]) s.running s.ended) (x.id : Int) = true := by
            unfold knI
            rw [decide_eq_true (Int.natCast_nonneg x.id), Bool.true_and]
            refine (known_iff x.id).mpr (.inl ?_)
            show x.id ∈ idsOf (s.waiting ++ [x])
            rw [ids_append]
            exact List.mem_append_right _ (List.mem_singleton.mpr rfl)
          rw [if_pos rfl, if_pos e2, if_pos (show ((x.id : Int)).toNat = x.id from rfl)]
        · rw [if_neg (key_ne e), R.kno i]
          have e2 : knI (s.with_ (s.waiting ++ [x]) s.running s.ended) i = knI s i := by
            unfold knI
            by_cases hi : 0 ≤ i
            · rw [decide_eq_true hi, Bool.true_and, Bool.true_and, Bool.eq_iff_iff, known_iff, known_iff]
              show (i.toNat ∈ idsOf (s.waiting ++ [x]) ∨ _) ↔ _
              rw [ids_append, List.mem_append]
              have : ¬ i.toNat ∈ idsOf [x] := fun z => e (by
                have z' : i.toNat = x.id := List.mem_singleton.mp z
                omega)
              constructor
              · rintro ((h | h) | h)
                · exact .inl h
                · exact absurd h this
                · exact .inr h
              · rintro (h | h)
                · exact .inl (.inl h)
                · exact .inr h
            · rw [decide_eq_false hi, Bool.false_and, Bool.false_and]
          rw [e2]
          by_cases hi : knI s i = true
          · have h0 : 0 ≤ i := by
              unfold knI at hi
              rw [Bool.and_eq_true] at hi
              exact of_decide_eq_true hi.1
            rw [if_pos hi, if_pos hi, if_neg (by omega)]
          · rw [if_neg hi, if_neg hi]
      oE := k.ob R.lE (by simp) R.oE
      lE := k.lb R.lE (by simp)
      nE := R.nE
      lsE := R.lsE
      end_ := R.end_
      oWt := by
        show H' D.aWt = some (.lst ((idsOf (s.waiting ++ [x])).map nV))
        rw [hw, ids_append, List.map_append]
        rfl
      lWt := (o1 _ (there _ _ R.lWt)).trans R.lWt
      oR := k.ob R.lR (by simp) R.oR
      lR := k.lb R.lR (by simp)
      item := fun y hy => by
        have hy' : y ∈ (s.waiting ++ [x]) ++ s.running := hy
        by_cases e : y ∈ s.waiting ++ s.running
        · have ne := other y e
          exact (R.item y e).kp k (by simp) (by simp) (if_neg ne) (if_neg ne) (if_neg ne)
        · have ey : y = x := by
            rcases List.mem_append.mp hy' with z | z
            · rcases List.mem_append.mp z with z | z
              · exact absurd (List.mem_append_left _ z) e
              · exact List.mem_singleton.mp z
            · exact absurd (List.mem_append_right _ z) e
          subst ey
          refine ⟨?_, ?_, ?_, ?_⟩
          · show H' (if y.id = y.id then a else _) = some (.ins cI (if y.id = y.id then dx else _) (fI y (if y.id = y.id then nl else _)))
            rw [if_pos rfl, if_pos rfl, if_pos rfl]; exact ha
          · show H' (if y.id = y.id then nl else _) = _
            rw [if_pos rfl]; exact hn
          · show (if (if y.id = y.id then a else _) = a then _ else _) = _
            rw [if_pos rfl, if_pos rfl]
          · show (if (if y.id = y.id then nl else _) = a then _ else if (if y.id = y.id then nl else _) = nl then _ else _) = _
            rw [if_pos rfl, if_neg nan.symm, if_pos rfl] }
  · rw [hk b (by rw [h]; simp) (lab_free R.lK hn).symm (lab_free R.lWt hn).symm]; exact h
  · exact (o1 b (by rw [h]; simp)).trans hn

/-- a batch served: a new list of those that wait, the others behind those that run, some items passed once more -/
theorem Rep.serve {k : Nat} {e : Addr} (R : Rep cQ cI H q s O D n) (htm : s.time < 1000000) (fe : H e = none)
    (hq : H' q = some (.ins cQ D.dq (fQ s.limit s.day (s.time + 1) { D with aWt := e }))) (he : H' e = some (.lst (((idsOf s.waiting).filter fun i => !Vamrqg.hasId (Vamrqg.batchOf s k) i).map nV)))
    (hR : H' D.aR = some (.lst ((idsOf s.running).map nV ++ (idsOf (Vamrqg.batchOf s k)).map nV)))
    (hit : ∀ (pre : List Item) (x : Item) (post : List Item), s.waiting.filter (Vamrqg.ready s) = pre ++ x :: post → H' (D.ia x.id) = some (.ins cI (D.di x.id) (fI (pas1 (Vamrqg.hasId (Vamrqg.batchOf s k)) x post) (D.na x.id))))
    (hk : ∀ b, H b ≠ none → b ≠ q → b ≠ D.aR → (∀ x ∈ s.waiting.filter (Vamrqg.ready s), b ≠ D.ia x.id) → H' b = H b) :
    ∃ O' D', Rep cQ cI H' q (Vamrqg.served s k) O' D' n ∧ Fram O H O' H' := by
  have there : ∀ b y, O b = some y → H b ≠ none := fun b y h z => by rw [R.tr b z] at h; cases h
  have o1 : ∀ b, H b ≠ none → (if b = e then some Lab.lWt else O b) = O b := fun b h => by rw [if_neg (fun z => h (by rw [z]; exact fe))]
  have inW : ∀ x ∈ s.waiting.filter (Vamrqg.ready s), x ∈ s.waiting ++ s.running := fun x hx => List.mem_append_left _ (List.mem_filter.mp hx).1
  have kp : Kp H H' O (fun b => if b = e then some Lab.lWt else O b) (fun y => y ≠ .q ∧ y ≠ .lR ∧ ∀ x ∈ s.waiting.filter (Vamrqg.ready s), y ≠ .item x.id) := fun b y h1 h2 =>
    ⟨hk b (there b y h1) (lab_ne h1 R.lq h2.1) (lab_ne h1 R.lR h2.2.1) fun x hx => lab_ne h1 (R.item x (inW x hx)).lo (h2.2.2 x hx), (o1 b (there b y h1)).trans h1⟩
  have g := R.good
  have hb : ∀ y ∈ Vamrqg.batchOf s k, y ∈ s.waiting ∧ Vamrqg.ready s y = true := fun y hy => batch_mem hy
  -- an item that was ready, as it stands then
  have rdy : ∀ (pre : List Item) (x : Item) (post : List Item), s.waiting.filter (Vamrqg.ready s) = pre ++ x :: post → ∀ z : Item, z = pas1 (Vamrqg.hasId (Vamrqg.batchOf s k)) x post → z.needs = x.needs →
      ItemAt cI H' (fun b => if b = e then some Lab.lWt else O b) { D with aWt := e } z := by
    intro pre x post hs z hz hn
    have hx : x ∈ s.waiting ++ s.running := inW x (by rw [hs]; exact List.mem_append_right _ List.mem_cons_self)
    have I := R.item x hx
    have ei : z.id = x.id := by rw [hz, pas1_id]
    have hh := hit pre x post hs
    rw [← hz] at hh
    refine ⟨?_, ?_, ?_, ?_⟩
    · show H' (D.ia z.id) = some (.ins cI (D.di z.id) (fI z (D.na z.id)))
      rw [ei]; exact hh
    · show H' (D.na z.id) = some (.lst (z.needs.map nV))
      rw [ei, hn]; exact kp.ob I.ln ⟨by simp, by simp, fun _ _ => by simp⟩ I.nd
    · show (if D.ia z.id = e then _ else O (D.ia z.id)) = some (.item z.id)
      rw [ei, o1 _ (there _ _ I.lo)]; exact I.lo
    · show (if D.na z.id = e then _ else O (D.na z.id)) = some (.needs z.id)
      rw [ei, o1 _ (there _ _ I.ln)]; exact I.ln
  refine ⟨fun b => if b = e then some Lab.lWt else O b, { D with aWt := e }, ?_, fun b o h hn => ⟨?_, ?_⟩⟩
  · exact
    { good := good_serve g htm
      tr := fun b h => by
        show (if b = e then _ else _) = _
        have n1 : b ≠ e := fun z => by rw [z, he] at h; cases h
        rw [if_neg n1]
        cases eo : O b with
        | none => rfl
        | some y =>
          have hbn := there b y eo
          by_cases e1 : b = q
          · rw [e1, hq] at h; cases h
          · by_cases e2 : b = D.aR
            · rw [e2, hR] at h; cases h
            · by_cases e3 : ∀ x ∈ s.waiting.filter (Vamrqg.ready s), b ≠ D.ia x.id
              · rw [hk b hbn e1 e2 e3] at h
                exact absurd h hbn
              · have : ∃ x ∈ s.waiting.filter (Vamrqg.ready s), b = D.ia x.id := by
                  refine Classical.byContradiction fun z => e3 fun x hx ex => z ⟨x, hx, ex⟩
                obtain ⟨x, hx, ex⟩ := this
                obtain ⟨pre, post, hs⟩ := List.append_of_mem hx
                rw [ex, hit pre x post hs] at h; cases h
      ob := hq
      lq := (o1 _ (there _ _ R.lq)).trans R.lq
      oW := kp.ob R.lW (by simp) R.oW
      lW := kp.lb R.lW (by simp)
      nW := R.nW
      win := fun j => (R.win j).kp kp (by simp) (by simp)
      oF := kp.ob R.lF (by simp) R.oF
      lF := kp.lb R.lF (by simp)
      nF := R.nF
      fro := R.fro
      sto := R.sto
      oK := kp.ob R.lK (by simp) R.oK
      lK := kp.lb R.lK (by simp)
      nK := by
        have h1 := R.nK
        have h2 := served_count g k
        show D.kK.length = (Vamrqg.served s k).waiting.length + (s.running ++ Vamrqg.batchOf s k).length + s.ended.length
        rw [List.length_append]
        omega
      kno := fun i => by
        have : knI (Vamrqg.served s k) i = knI s i := by
          unfold knI
          rw [served_known]
        rw [this]
        exact R.kno i
      oE := kp.ob R.lE (by simp) R.oE
      lE := kp.lb R.lE (by simp)
      nE := R.nE
      lsE := R.lsE
      end_ := R.end_
      oWt := by
        show H' e = some (.lst ((idsOf (Vamrqg.served s k).waiting).map nV))
        rw [served_waiting]; exact he
      lWt := by show (if e = e then _ else _) = _; rw [if_pos rfl]
      oR := by
        show H' D.aR = some (.lst ((idsOf (s.running ++ Vamrqg.batchOf s k)).map nV))
        rw [ids_append, List.map_append]; exact hR
      lR := (o1 _ (there _ _ R.lR)).trans R.lR
      item := fun y hy => by
        have hy' : y ∈ (s.waiting.filter fun x => !Vamrqg.hasId (Vamrqg.batchOf s k) x.id).map (Vamrqg.aged s (Vamrqg.batchOf s k)) ++ (s.running ++ Vamrqg.batchOf s k) := hy
        rcases List.mem_append.mp hy' with z | z
        · obtain ⟨x, hx, ex⟩ := List.mem_map.mp z
          obtain ⟨hx1, hx2⟩ := List.mem_filter.mp hx
          have hx3 : Vamrqg.hasId (Vamrqg.batchOf s k) x.id = false := by simpa using hx2
          cases hr : Vamrqg.ready s x with
          | true =>
            obtain ⟨pre, post, hs⟩ := List.append_of_mem (List.mem_filter.mpr ⟨hx1, hr⟩)
            refine rdy pre x post hs y ?_ ?_
            · rw [← ex]; exact aged_pas g.ndW hb hs hx3
            · rw [← ex]; exact (aged_same s _ x).2.2
          | false =>
            rw [aged_idle hr] at ex
            subst ex
            refine (R.item x (List.mem_append_left _ hx1)).kp kp ⟨by simp, by simp, fun u hu ee => ?_⟩ ⟨by simp, by simp, fun _ _ => by simp⟩ rfl rfl rfl
            obtain ⟨u1, u2⟩ := List.mem_filter.mp hu
            have : x = u := ids_inj g.ndW hx1 u1 (by injection ee)
            rw [this, u2] at hr; cases hr
        · rcases List.mem_append.mp z with z | z
          · refine (R.item y (List.mem_append_right _ z)).kp kp ⟨by simp, by simp, fun u hu ee => ?_⟩ ⟨by simp, by simp, fun _ _ => by simp⟩ rfl rfl rfl
            obtain ⟨u1, u2⟩ := List.mem_filter.mp hu
            have : y.id = u.id := by injection ee
            exact g.wr (mem_ids u1) (this ▸ mem_ids z)
          · obtain ⟨pre, post, hs⟩ := List.append_of_mem (List.mem_filter.mpr (hb y z))
            refine rdy pre y post hs y ?_ rfl
            unfold pas1
            rw [if_pos (hasId_iff.mpr (mem_ids z))] }
  · have nq := (lab_free R.lq hn).symm
    have nr := (lab_free R.lR hn).symm
    rw [hk b (by rw [h]; simp) nq nr fun x hx => (lab_free (R.item x (inW x hx)).lo hn).symm]; exact h
  · exact (o1 b (by rw [h]; simp)).trans hn
end
end Ag

/-! The representation behind outcome, again, withdraw; a number in a list of numbers. -/
set_option Elab.async false
set_option linter.all false
set_option maxRecDepth 100000
namespace Ag
open PySem PySem.Spec PyProof.Rows L2
open Vamrqg (State Item idsOf windowsOf endOf known)
section
variable {cQ cI : Addr} {H H' : Hp} {q : Addr} {s : State} {O : Own} {D : Ads} {n : Nat}
theorem Rep.move {w r : List Item} {e : List (Nat × Vamrqg.End)} {kE' : List (Key × V)} (R : Rep cQ cI H q s O D n) (hg : Good (s.with_ w r e)) (hW : H' D.aWt = some (.lst ((idsOf w).map nV))) (hR : H' D.aR = some (.lst ((idsOf r).map nV))) (hE : H' D.aE = some (.dK kE'))
    (hls : kE' = e.map fun p => (Sum.inl (p.1 : Int), V.int (endN p.2))) (hen : ∀ k : Int, valV kE' (Sum.inl k) = (endI (s.with_ w r e) k).map fun e => .int (endN e)) (hk : ∀ b, b ≠ D.aWt → b ≠ D.aR → b ≠ D.aE → H' b = H b)
    (hsub : ∀ x ∈ w ++ r, x ∈ s.waiting ++ s.running) (hkn : ∀ i, known (s.with_ w r e) i = known s i) (hc : w.length + r.length + e.length = s.waiting.length + s.running.length + s.ended.length) :
    Rep cQ cI H' q (s.with_ w r e) O { D with kE := kE' } n ∧ Fram O H O H' := by
  have k : Kp H H' O O (fun x => x ≠ .lWt ∧ x ≠ .lR ∧ x ≠ .dE) := fun b x h1 h2 => ⟨hk b (lab_ne h1 R.lWt h2.1) (lab_ne h1 R.lR h2.2.1) (lab_ne h1 R.lE h2.2.2), h1⟩
  refine ⟨?_, fun b o h hn => ⟨by rw [hk b (lab_free R.lWt hn).symm (lab_free R.lR hn).symm (lab_free R.lE hn).symm]; exact h, hn⟩⟩
  exact
  { good := hg
    tr := fun b h => R.tr b (by
      by_cases e1 : b = D.aWt
      · rw [e1, hW] at h; cases h
      · by_cases e2 : b = D.aR
        · rw [e2, hR] at h; cases h
        · by_cases e3 : b = D.aE
          · rw [e3, hE] at h; cases h
          · rw [← hk b e1 e2 e3]; exact h)
    ob := k.ob R.lq (by simp) R.ob
    lq := R.lq
    oW := k.ob R.lW (by simp) R.oW
    lW := R.lW
    nW := R.nW
    win := fun c => (R.win c).kp k (by simp) (by simp)
    oF := k.ob R.lF (by simp) R.oF
    lF := R.lF
    nF := R.nF
    fro := R.fro
    sto := R.sto
    oK := k.ob R.lK (by simp) R.oK
    lK := R.lK
    nK := R.nK.trans hc.symm
    kno := fun i => by
      have : knI (s.with_ w r e) i = knI s i := by
        unfold knI
        rw [hkn]
      rw [this]
      exact R.kno i
    oE := hE
    lE := R.lE
    nE := by
      show kE'.length = e.length
      rw [hls, List.length_map]
    lsE := hls
    end_ := hen
    oWt := hW
    lWt := R.lWt
    oR := hR
    lR := R.lR
    item := fun x hx => (R.item x (hsub x hx)).kp k (by simp) (by simp) rfl rfl rfl }
/-- one more has ended -/
theorem Rep.ends {i : Nat} {e : Vamrqg.End} (R : Rep cQ cI H q s O D n) (h : endOf s i = none) (w r : List Item) :
    putK D.kE (Sum.inl (i : Int)) (V.int (endN e)) = (s.ended ++ [(i, e)]).map (fun p => (Sum.inl (p.1 : Int), V.int (endN p.2))) ∧
    (∀ k : Int, valV (putK D.kE (Sum.inl (i : Int)) (V.int (endN e))) (Sum.inl k) = (endI (s.with_ w r (s.ended ++ [(i, e)])) k).map fun e => .int (endN e)) := by
  have hv : valV D.kE (Sum.inl (i : Int)) = none := by
    rw [R.end_]
    unfold endI
    rw [if_pos (Int.natCast_nonneg i)]
    show (endOf s i).map _ = none
    rw [h]
    rfl
  refine ⟨?_, fun k => ?_⟩
  · rw [putK_new _ hv, List.map_append, R.lsE]
    rfl
  · rw [valV_put]
    by_cases ek : k = (i : Int)
    · subst ek
      rw [if_pos rfl]
      unfold endI
      rw [if_pos (Int.natCast_nonneg i)]
      show _ = (endOf (s.with_ w r (s.ended ++ [(i, e)])) i).map _
      rw [endOf_put h, if_pos rfl]
      rfl
    · rw [if_neg (key_ne ek), R.end_]
      unfold endI
      by_cases hk : 0 ≤ k
      · rw [if_pos hk, if_pos hk, endOf_put h, if_neg (by omega)]
      · rw [if_neg hk, if_neg hk]
theorem erase_first : ∀ (ids : List Nat) (i : Nat), ids.Nodup → i ∈ ids → ∃ j, ids[j]? = some i ∧ (∀ m, m < j → ids[m]? ≠ some i) ∧ ids.eraseIdx j = ids.filter fun k => !decide (k = i)
  | [], i, _, h => by cases h
  | a :: l, i, hn, h => by
    obtain ⟨n1, n2⟩ := List.nodup_cons.mp hn
    by_cases e : a = i
    · subst e
      refine ⟨0, rfl, fun m hm => absurd hm (Nat.not_lt_zero _), ?_⟩
      rw [List.filter_cons_of_neg (by simp)]
      show l = _
      exact (List.filter_eq_self.mpr fun y hy => by
        have : ¬ y = a := fun z => n1 (z ▸ hy)
        simp [this]).symm
    · have hm : i ∈ l := by
        rcases List.mem_cons.mp h with z | z
        · exact absurd z.symm e
        · exact z
      obtain ⟨j, h1, h2, h3⟩ := erase_first l i n2 hm
      refine ⟨j + 1, h1, fun m hmj => ?_, ?_⟩
      · cases m with
        | zero =>
          intro z
          exact e (Option.some.inj z)
        | succ m => exact h2 m (by omega)
      · rw [List.filter_cons_of_pos (by simp [e])]
        show a :: l.eraseIdx j = _
        rw [h3]
def intsL (ids : List Nat) : List Int := ids.map fun (n : Nat) => (n : Int)
theorem ints_V (ids : List Nat) : (intsL ids).map V.int = ids.map nV := by
  unfold intsL
  rw [List.map_map]
  rfl
/-- list.remove of a number that is there once -/
theorem remove_first {ids : List Nat} {i : Nat} (hn : ids.Nodup) (h : i ∈ ids) : ∃ j, (intsL ids)[j]? = some (i : Int) ∧ (∀ m, m < j → (intsL ids)[m]? ≠ some (i : Int)) ∧ ((intsL ids).eraseIdx j).map V.int = (ids.filter fun k => !decide (k = i)).map nV := by
  obtain ⟨j, h1, h2, h3⟩ := erase_first ids i hn h
  refine ⟨j, ?_, fun m hm z => h2 m hm ?_, ?_⟩
  · unfold intsL
    rw [List.getElem?_map, h1]
    rfl
  · unfold intsL at z
    rw [List.getElem?_map] at z
    cases e : ids[m]? with
    | none => rw [e] at z; cases z
    | some y =>
      rw [e] at z
      have : (y : Int) = (i : Int) := Option.some.inj z
      have : y = i := by omega
      rw [this]
  · rw [map_erase, ints_V, ← h3, map_erase]
/-- a number in a list of items' numbers -/
theorem inV_find (i : Int) (l : List Item) : inV (.int i) ((idsOf l).map nV) = (l.find? fun x => decide ((x.id : Int) = i)).isSome := by
  unfold inV idsOf
  rw [List.map_map, List.any_map, Bool.eq_iff_iff, List.any_eq_true, List.find?_isSome]
  constructor
  · rintro ⟨x, hx, e⟩
    refine ⟨x, hx, ?_⟩
    have e' : ((x.id : Int) == i) = true := e
    simpa using e'
  · rintro ⟨x, hx, e⟩
    refine ⟨x, hx, ?_⟩
    show ((x.id : Int) == i) = true
    simpa using e
theorem find_id {i : Int} {l : List Item} {x : Item} (h : (l.find? fun x => decide ((x.id : Int) = i)) = some x) : x ∈ l ∧ (x.id : Int) = i := ⟨List.mem_of_find?_eq_some h, by simpa using List.find?_some h⟩
theorem drop_ids (l : List Item) (i : Nat) : ((idsOf l).filter fun k => !decide (k = i)) = idsOf (Vamrqg.dropId l i) := (ids_drop l i).symm
theorem drop_mem (l : List Item) (i j : Nat) : j ∈ idsOf (Vamrqg.dropId l i) ↔ j ∈ idsOf l ∧ j ≠ i := by
  rw [ids_drop, List.mem_filter]
  simp
theorem known_outcome {x : Item} (e : Vamrqg.End) (hx : x ∈ s.running) (i : Nat) : known (s.with_ s.waiting (Vamrqg.dropId s.running x.id) (s.ended ++ [(x.id, e)])) i = known s i := by
  rw [Bool.eq_iff_iff, known_iff, known_iff]
  show _ ∨ i ∈ idsOf (Vamrqg.dropId s.running x.id) ∨ i ∈ (s.ended ++ [(x.id, e)]).map (·.1) ↔ _
  rw [drop_mem, ended_ids, List.mem_append, List.mem_singleton]
  constructor
  · rintro (h | h | h | h)
    · exact .inl h
    · exact .inr (.inl h.1)
    · exact .inr (.inr h)
    · subst h; exact .inr (.inl (mem_ids hx))
  · rintro (h | h | h)
    · exact .inl h
    · by_cases e : i = x.id
      · exact .inr (.inr (.inr e))
      · exact .inr (.inl ⟨h, e⟩)
    · exact .inr (.inr (.inl h))
theorem known_withdraw {x : Item} (e : Vamrqg.End) (hx : x ∈ s.waiting) (i : Nat) : known (s.with_ (Vamrqg.dropId s.waiting x.id) s.running (s.ended ++ [(x.id, e)])) i = known s i := by
  rw [Bool.eq_iff_iff, known_iff, known_iff]
  show i ∈ idsOf (Vamrqg.dropId s.waiting x.id) ∨ _ ∨ i ∈ (s.ended ++ [(x.id, e)]).map (·.1) ↔ _
  rw [drop_mem, ended_ids, List.mem_append, List.mem_singleton]
  constructor
  · rintro (h | h | h | h)
    · exact .inl h.1
    · exact .inr (.inl h)
    · exact .inr (.inr h)
    · subst h; exact .inl (mem_ids hx)
  · rintro (h | h | h)
    · by_cases e : i = x.id
      · exact .inr (.inr (.inr e))
      · exact .inl ⟨h, e⟩
    · exact .inr (.inl h)
    · exact .inr (.inr (.inl h))
theorem known_again {x : Item} (hx : x ∈ s.running) (i : Nat) : known (s.with_ (x :: s.waiting) (Vamrqg.dropId s.running x.id) s.ended) i = known s i := by
  rw [Bool.eq_iff_iff, known_iff, known_iff]
  show i ∈ idsOf (x :: s.waiting) ∨ i ∈ idsOf (Vamrqg.dropId s.running x.id) ∨ _ ↔ _
  rw [drop_mem, ids_cons, List.mem_cons]
  constructor
  · rintro ((h | h) | h | h)
    · subst h; exact .inr (.inl (mem_ids hx))
    · exact .inl h
    · exact .inr (.inl h.1)
    · exact .inr (.inr h)
  · rintro (h | h | h)
    · exact .inl (.inr h)
    · by_cases e : i = x.id
      · exact .inl (.inl e)
      · exact .inr (.inl ⟨h, e⟩)
    · exact .inr (.inr h)
theorem runs_some {i : Int} {x : Item} {f : Item → Vamrqg.Out} (h : (s.running.find? fun x => decide ((x.id : Int) = i)) = some x) : s.runs i f = f x := by
  unfold Vamrqg.State.runs
  rw [h]
theorem runs_none {i : Int} {f : Item → Vamrqg.Out} (h : (s.running.find? fun x => decide ((x.id : Int) = i)) = none) : s.runs i f = .error (-6) := by
  unfold Vamrqg.State.runs
  rw [h]
theorem in01 (ok : Int) : inV (.int ok) [V.int 0, V.int 1] = decide (0 ≤ ok ∧ ok ≤ 1) := by
  show ((0 : Int) == ok || ((1 : Int) == ok || false)) = _
  rw [Bool.eq_iff_iff]
  simp
  omega
end
end Ag

/-! What a call's def promises: the specification's step, told as a new list. -/
set_option Elab.async false
set_option linter.all false
namespace Ag
open PySem PySem.Spec PyProof.Rows L2
open Vamrqg (State Item idsOf windowsOf endOf known)
section
variable {cQ cI : Addr} {H H1 H' : Hp} {q p : Addr} {s s' : State} {O O' : Own} {D D' : Ads} {n : Nat} {c : Vamrqg.Call} {Q : VK} {r : Int} {l : List Int}
def Done (cQ cI : Addr) (H : Hp) (q : Addr) (s : State) (O : Own) (n : Nat) (c : Vamrqg.Call) (Q : VK) : Prop := ∀ (H' : Hp) (O' : Own) (D' : Ads) (p : Addr), Rep cQ cI H' q (Vamrqg.step s c).1 O' D' (n + 1) → Fram O H O' H' → (∀ b o, H b = some o → O b = none → b ≠ p) →
  H' p = some (.lst ((VamrqgNeutral.encode (Vamrqg.step s c).2).map V.int)) → Q (.ref p) H'
theorem Done.refused (k : Done cQ cI H q s O n c Q) (R : Rep cQ cI H q s O D n) (he : Vamrqg.outcome s c = .error r) (s1 : Same H H1) (hp : H1 p = none) : Q (.ref p) (upd H1 p (.lst [.int r])) := by
  have e : Vamrqg.step s c = (s, .refused r) := by unfold Vamrqg.step; rw [he]
  have sf : Same H (upd H1 p (.lst [.int r])) := s1.after (s1.free hp)
  have k' := k (upd H1 p (.lst [.int r])) O D p
  rw [e] at k'
  exact k' ((R.same sf).mono (Nat.le_succ n)) (Fram.same sf) (fun b o hb _ => ne_of_none (s1 _ _ hb) hp) upd_same
theorem Done.ok (k : Done cQ cI H q s O n c Q) (he : Vamrqg.outcome s c = .ok (s', l)) (R : Rep cQ cI H' q s' O' D' (n + 1)) (F : Fram O H O' H') (hf : ∀ b o, H b = some o → O b = none → b ≠ p) (hp : H' p = some (.lst (l.map V.int))) : Q (.ref p) H' := by
  have e : Vamrqg.step s c = (s', .told l) := by unfold Vamrqg.step; rw [he]
  have k' := k H' O' D' p
  rw [e] at k'
  exact k' R F hf hp
/-- the answer's list is laid behind it -/
theorem Done.ok1 (k : Done cQ cI H q s O n c Q) (he : Vamrqg.outcome s c = .ok (s', l)) (R : Rep cQ cI H1 q s' O' D' (n + 1)) (F : Fram O H O' H1) (hp : H1 p = none) : Q (.ref p) (upd H1 p (.lst (l.map V.int))) := by
  refine k.ok he (R.same (Same.new hp)) (fun b o h hn => ?_) (fun b o h hn => ne_of_none (F b o h hn).1 hp) upd_same
  obtain ⟨h1, h2⟩ := F b o h hn
  exact ⟨Same.new hp _ _ h1, h2⟩
/-- nothing is changed -/
theorem Done.told (k : Done cQ cI H q s O n c Q) (R : Rep cQ cI H q s O D n) (he : Vamrqg.outcome s c = .ok (s, l)) (s1 : Same H H') (hf : H p = none) (hp : H' p = some (.lst (l.map V.int))) : Q (.ref p) H' :=
  k.ok he ((R.same s1).mono (Nat.le_succ n)) (Fram.same s1) (fun b o hb _ => ne_of_none hb hf) hp
end
theorem chain_ite {m lo hi : Int} {A B : Prop} (h1 : ¬ (lo ≤ m ∧ m ≤ hi) → A) (h2 : lo ≤ m ∧ m ≤ hi → B) :
    if decide (lo ≤ m) = true then (∃ i j, V.int m = V.int i ∧ V.int hi = V.int j ∧ ∃ k, V.bl (decide (i ≤ j)) = V.bl k ∧ if (!k) = true then A else B) else ∃ k, V.bl false = V.bl k ∧ if (!k) = true then A else B := by
  by_cases c1 : lo ≤ m
  · rw [decide_eq_true c1, if_pos rfl]
    refine ⟨_, _, rfl, rfl, _, rfl, ?_⟩
    by_cases c2 : m ≤ hi
    · rw [decide_eq_true c2]
      exact iteF (h2 ⟨c1, c2⟩)
    · rw [decide_eq_false c2]
      exact iteT (h1 fun z => c2 z.2)
  · rw [decide_eq_false c1, if_neg Bool.false_ne_true]
    exact ⟨_, rfl, iteT (h1 fun z => c1 z.1)⟩
/-- a number in its range, or not -/
theorem ranged_ok {n lo hi : Int} (h : lo ≤ n ∧ n ≤ hi) : Vamrqg.ranged n lo hi = .ok n.toNat := by unfold Vamrqg.ranged; rw [if_pos h]
theorem ranged_no {n lo hi : Int} (h : ¬ (lo ≤ n ∧ n ≤ hi)) : Vamrqg.ranged n lo hi = .error (-1) := by unfold Vamrqg.ranged; rw [if_neg h]
end Ag

/-! What why, place, nextOpen and status come to. -/
set_option Elab.async false
set_option linter.all false
namespace Ag
open PySem PySem.Spec PyProof.Rows L2
open Vamrqg (State Item idsOf windowsOf endOf known)
section
variable {s : State}
theorem lost_eq (s : State) (i : Nat) : ((endOf s i).isSome && !Vamrqg.isLanded s i) = Vamrqg.isLost s i := by
  unfold Vamrqg.isLanded Vamrqg.isLost
  cases endOf s i with
  | none => rfl
  | some e => cases e <;> rfl
theorem filter_lost (s : State) (l : List Nat) : (l.filter fun i => !Vamrqg.isLanded s i).filter (fun i => (endOf s i).isSome) = l.filter (Vamrqg.isLost s) := by
  rw [List.filter_filter]
  exact List.filter_congr fun i _ => lost_eq s i
theorem any_filter {α : Type} (p : α → Bool) (l : List α) : l.any p = decide (0 < (l.filter p).length) := by
  rw [Bool.eq_iff_iff, List.any_eq_true, decide_eq_true_eq, List.length_pos_iff_exists_mem]
  constructor
  · rintro ⟨x, h1, h2⟩; exact ⟨x, List.mem_filter.mpr ⟨h1, h2⟩⟩
  · rintro ⟨x, h⟩; exact ⟨x, List.mem_filter.mp h⟩
theorem all_filter {α : Type} (p : α → Bool) (l : List α) : l.all p = !decide (0 < (l.filter fun x => !p x).length) := by
  rw [← any_filter, List.any_eq_not_all_not]
  simp
theorem find_no {l : List Item} {i : Int} (h : ∀ j ∈ idsOf l, (j : Int) ≠ i) : (l.find? fun x => decide ((x.id : Int) = i)) = none := by
  rw [List.find?_eq_none]
  intro x hx z
  exact h x.id (mem_ids hx) (of_decide_eq_true z)
theorem why_wait {i : Int} {x : Item} (h : (s.waiting.find? fun x => decide ((x.id : Int) = i)) = some x) : s.why i = .ok (Vamrqg.whyWaiting s x) := by
  unfold Vamrqg.State.why
  rw [h]
theorem why_run (g : Good s) {i : Int} (h : (s.running.find? fun x => decide ((x.id : Int) = i)).isSome = true) : s.why i = .ok [6] := by
  cases e : s.running.find? (fun x => decide ((x.id : Int) = i)) with
  | none => rw [e] at h; cases h
  | some x =>
    obtain ⟨hx, ei⟩ := find_id e
    have h1 : (s.waiting.find? fun x => decide ((x.id : Int) = i)) = none := find_no fun j hj z => g.wr hj (by
      have : j = x.id := by omega
      rw [this]
      exact mem_ids hx)
    have h2 : (s.running.any fun x => decide ((x.id : Int) = i)) = true := List.any_eq_true.mpr ⟨x, hx, decide_eq_true ei⟩
    unfold Vamrqg.State.why
    rw [h1]
    show (if _ then _ else _) = _
    rw [if_pos h2]
theorem endNumber_eq (e : Vamrqg.End) : Vamrqg.endNumber e = endN e := by cases e <;> rfl
theorem ended_find (s : State) (i : Int) (h : 0 ≤ i) : (s.ended.find? fun x => decide ((x.1 : Int) = i)) = s.ended.find? fun x => decide (x.1 = i.toNat) := by
  congr 1
  funext x
  rw [Bool.eq_iff_iff, decide_eq_true_eq, decide_eq_true_eq]
  omega
theorem why_end (g : Good s) {i : Int} {e : Vamrqg.End} (h : endI s i = some e) : s.why i = .ok [endN e] := by
  unfold endI at h
  by_cases h0 : 0 ≤ i
  · rw [if_pos h0] at h
    have hm : i.toNat ∈ s.ended.map (·.1) := (endOf_isSome i.toNat).mp (by rw [h]; rfl)
    have h1 : (s.waiting.find? fun x => decide ((x.id : Int) = i)) = none := find_no fun j hj z => g.we hj (by
      have : j = i.toNat := by omega
      rw [this]
      exact hm)
    have h2 : (s.running.any fun x => decide ((x.id : Int) = i)) = false := by
      rw [← Bool.not_eq_true, List.any_eq_true]
      rintro ⟨x, hx, z⟩
      have z' := of_decide_eq_true z
      refine g.re (mem_ids hx) ?_
      have : x.id = i.toNat := by omega
      rw [this]
      exact hm
    unfold Vamrqg.State.why
    rw [h1]
    show (if _ then _ else _) = _
    rw [if_neg (by rw [h2]; exact Bool.false_ne_true), ended_find s i h0]
    unfold endOf at h
    cases ef : s.ended.find? (fun x => decide (x.1 = i.toNat)) with
    | none => rw [ef] at h; cases h
    | some x =>
      rw [ef] at h
      have : x.2 = e := Option.some.inj h
      show Except.ok [Vamrqg.endNumber x.2] = _
      rw [this, endNumber_eq]
  · rw [if_neg h0] at h
    cases h
theorem knI_false {i : Int} (h : knI s i = false) : (∀ j ∈ idsOf s.waiting, (j : Int) ≠ i) ∧ (∀ j ∈ idsOf s.running, (j : Int) ≠ i) ∧ ∀ j : Nat, j ∈ s.ended.map (·.1) → (j : Int) ≠ i := by
  have key : ∀ j : Nat, (j : Int) = i → ¬ known s j = true := fun j e z => by
    unfold knI at h
    rw [← e] at h
    rw [decide_eq_true (Int.natCast_nonneg j), Bool.true_and] at h
    have h' : known s j = false := h
    rw [h'] at z
    cases z
  refine ⟨fun j hj e => key j e ?_, fun j hj e => key j e ?_, fun j hj e => key j e ?_⟩
  · exact (known_iff j).mpr (.inl hj)
  · exact (known_iff j).mpr (.inr (.inl hj))
  · exact (known_iff j).mpr (.inr (.inr hj))
theorem why_none {i : Int} (h : knI s i = false) : s.why i = .error (-6) := by
  obtain ⟨a, b, c⟩ := knI_false h
  have h2 : (s.running.any fun x => decide ((x.id : Int) = i)) = false := by
    rw [← Bool.not_eq_true, List.any_eq_true]
    rintro ⟨x, hx, z⟩
    exact b x.id (mem_ids hx) (of_decide_eq_true z)
  have h3 : (s.ended.find? fun x => decide ((x.1 : Int) = i)) = none := by
    rw [List.find?_eq_none]
    intro x hx z
    exact c x.1 (List.mem_map.mpr ⟨x, hx, rfl⟩) (of_decide_eq_true z)
  unfold Vamrqg.State.why
  rw [find_no a]
  show (if _ then _ else _) = _
  rw [if_neg (by rw [h2]; exact Bool.false_ne_true), h3]
/-- a known item that has not ended and doesn't run waits -/
theorem waits {i : Int} (h : knI s i = true) (h1 : endI s i = none) (h2 : (s.running.find? fun x => decide ((x.id : Int) = i)) = none) : ∃ x, (s.waiting.find? fun x => decide ((x.id : Int) = i)) = some x := by
  unfold knI at h
  rw [Bool.and_eq_true] at h
  have h0 : 0 ≤ i := of_decide_eq_true h.1
  unfold endI at h1
  rw [if_pos h0] at h1
  have hk := (known_iff i.toNat).mp h.2
  cases e : s.waiting.find? (fun x => decide ((x.id : Int) = i)) with
  | some x => exact ⟨x, rfl⟩
  | none =>
    exfalso
    rcases hk with z | z | z
    · obtain ⟨x, hx, ex⟩ := List.mem_map.mp z
      have := List.find?_eq_none.mp e x hx
      exact this (decide_eq_true (by have : x.id = i.toNat := ex; omega))
    · obtain ⟨x, hx, ex⟩ := List.mem_map.mp z
      have := List.find?_eq_none.mp h2 x hx
      exact this (decide_eq_true (by have : x.id = i.toNat := ex; omega))
    · exact (endOf_none i.toNat).mp h1 z
/-! ### the place -/
theorem place_none {i : Int} (h : ((Vamrqg.order s).find? fun x => decide ((x.id : Int) = i)) = none) : s.place i = .error (-6) := by
  have : ((idsOf (Vamrqg.order s)).findIdx? fun (n : Nat) => decide ((n : Int) = i)) = none := by
    rw [List.findIdx?_eq_none_iff]
    intro j hj
    obtain ⟨x, hx, ex⟩ := List.mem_map.mp hj
    have := List.find?_eq_none.mp h x hx
    subst ex
    simpa using this
  unfold Vamrqg.State.place
  rw [this]
theorem place_some {i : Int} {x : Item} (h : ((Vamrqg.order s).find? fun x => decide ((x.id : Int) = i)) = some x) : ∃ k : Nat, s.place i = .ok [Vamrqg.ofNat k] ∧ (idsOf (Vamrqg.order s))[k]? = some x.id ∧ ∀ (m j : Nat), m < k → (idsOf (Vamrqg.order s))[m]? = some j → (j : Int) ≠ i := by
  obtain ⟨hx, ei⟩ := find_id h
  cases e : (idsOf (Vamrqg.order s)).findIdx? (fun (n : Nat) => decide ((n : Int) = i)) with
  | none =>
    have := List.findIdx?_eq_none_iff.mp e x.id (mem_ids hx)
    rw [decide_eq_true ei] at this
    cases this
  | some k =>
    obtain ⟨hk, h1, h2⟩ := List.findIdx?_eq_some_iff_getElem.mp e
    refine ⟨k, ?_, ?_, fun m j hm hj => ?_⟩
    · unfold Vamrqg.State.place
      rw [e]
    · rw [List.getElem?_eq_getElem hk]
      have := of_decide_eq_true h1
      have : (idsOf (Vamrqg.order s))[k] = x.id := by omega
      rw [this]
    · have := h2 m hm
      obtain ⟨hml, hme⟩ := List.getElem?_eq_some_iff.mp hj
      rw [hme] at this
      simpa using this
/-! ### when a class is open -/
theorem hour_of (t d w : Nat) (hw : w < d) : ∃ k, k < d ∧ (t + k) % d = w := by
  have hd : 0 < d := by omega
  have h1 := Nat.div_add_mod t d
  have h2 := Nat.mod_lt t hd
  by_cases c : t % d ≤ w
  · refine ⟨w - t % d, by omega, ?_⟩
    have e : t + (w - t % d) = w + d * (t / d) := by omega
    rw [e, Nat.add_mul_mod_self_left, Nat.mod_eq_of_lt hw]
  · refine ⟨d + w - t % d, by omega, ?_⟩
    have e3 : d * (t / d + 1) = d * (t / d) + d := Nat.mul_succ _ _
    have e : t + (d + w - t % d) = w + d * (t / d + 1) := by omega
    rw [e, Nat.add_mul_mod_self_left, Nat.mod_eq_of_lt hw]
theorem open_some (g : Good s) (c : Nat) : ∃ k, k < s.day ∧ Vamrqg.openAt s c (s.time + k) = true := by
  cases e : windowsOf s c with
  | nil =>
    refine ⟨0, by have := g.day.1; omega, ?_⟩
    unfold Vamrqg.openAt
    rw [e]
    rfl
  | cons w l =>
    have hw := (g.wns c).2 w (by rw [e]; exact List.mem_cons_self)
    obtain ⟨k, hk, ek⟩ := hour_of s.time s.day w.1 (by omega)
    refine ⟨k, hk, ?_⟩
    unfold Vamrqg.openAt
    rw [e, ek, List.any_cons, decide_eq_true (Nat.le_refl _), decide_eq_true hw.1]
    simp
theorem wait_is (g : Good s) (c : Nat) {m : Int} (hm : m ∈ ((List.range s.day).filter fun k => Vamrqg.openAt s c (s.time + k)).map fun (k : Nat) => (k : Int)) (hle : ∀ y ∈ ((List.range s.day).filter fun k => Vamrqg.openAt s c (s.time + k)).map fun (k : Nat) => (k : Int), m ≤ y) : m = Vamrqg.ofNat (Vamrqg.wait s c) := by
  obtain ⟨j, hj, ej⟩ := List.mem_map.mp hm
  obtain ⟨hj1, hj2⟩ := List.mem_filter.mp hj
  unfold Vamrqg.wait
  cases e : (List.range s.day).find? (fun k => Vamrqg.openAt s c (s.time + k)) with
  | none =>
    have := List.find?_eq_none.mp e j hj1
    exact absurd hj2 this
  | some k =>
    obtain ⟨h1, h2, h3⟩ := List.find?_range_eq_some.mp e
    have a1 : m ≤ (k : Int) := hle _ (List.mem_map.mpr ⟨k, List.mem_filter.mpr ⟨h2, h1⟩, rfl⟩)
    have a2 : ¬ j < k := fun z => by
      have := h3 j z
      rw [hj2] at this
      cases this
    show m = (k : Int)
    omega
/-! ### the status -/
theorem lost_count (s : State) : (s.ended.filter fun x => Vamrqg.isLanded s x.1).length + (s.ended.filter fun x => Vamrqg.isLost s x.1).length = s.ended.length := by
  have : (s.ended.filter fun x => Vamrqg.isLost s x.1) = s.ended.filter fun x => !Vamrqg.isLanded s x.1 := by
    refine List.filter_congr fun x hx => ?_
    have h1 : (endOf s x.1).isSome = true := (endOf_isSome x.1).mpr (List.mem_map.mpr ⟨x, hx, rfl⟩)
    rw [← lost_eq, h1, Bool.true_and]
  rw [this]
  exact filter_out_length _ _
end
end Ag

/-! What add comes to: its needs, its refusals. -/
set_option Elab.async false
set_option linter.all false
namespace Ag
open PySem PySem.Spec PyProof.Rows L2
open Vamrqg (State Item idsOf windowsOf endOf known)
theorem dedup_le : ∀ (l σ : List Int), (l.foldl step_dedup σ).length ≤ σ.length + l.length
  | [], σ => Nat.le_refl _
  | x :: l, σ => by
    rw [List.foldl_cons, List.length_cons]
    unfold step_dedup
    split
    · have := dedup_le l σ
      unfold step_dedup at this
      omega
    · have := dedup_le l (σ ++ [x])
      rw [List.length_append, List.length_singleton] at this
      unfold step_dedup at this
      omega
theorem dedup_eq : ∀ (l σ : List Int), (l.foldl step_dedup σ).length = σ.length + l.length ↔ (Vamrqg.distinct l = true ∧ ∀ x ∈ l, ¬ x ∈ σ)
  | [], σ => by
    constructor
    · intro _
      exact ⟨rfl, fun x hx => by cases hx⟩
    · intro _
      rfl
  | x :: l, σ => by
    rw [List.foldl_cons, List.length_cons]
    by_cases c : x ∈ σ
    · have e : step_dedup σ x = σ := by
        unfold step_dedup
        rw [if_pos (List.any_eq_true.mpr ⟨x, c, by simp⟩)]
      rw [e]
      have := dedup_le l σ
      constructor
      · intro h
        omega
      · rintro ⟨_, h⟩
        exact absurd c (h x List.mem_cons_self)
    · have e : step_dedup σ x = σ ++ [x] := by
        unfold step_dedup
        rw [if_neg (fun z => by
          obtain ⟨y, hy, e⟩ := List.any_eq_true.mp z
          have : y = x := by simpa using e
          exact c (this ▸ hy))]
      rw [e]
      have ih := dedup_eq l (σ ++ [x])
      rw [List.length_append, List.length_singleton] at ih
      have e2 : σ.length + (l.length + 1) = σ.length + 1 + l.length := by omega
      rw [e2, ih]
      show _ ↔ ((!l.contains x && Vamrqg.distinct l) = true ∧ _)
      rw [Bool.and_eq_true]
      constructor
      · rintro ⟨h1, h2⟩
        have hx : ¬ x ∈ l := fun z => h2 x z (List.mem_append_right _ (List.mem_singleton.mpr rfl))
        refine ⟨⟨by simp [hx], h1⟩, fun y hy => ?_⟩
        rcases List.mem_cons.mp hy with z | z
        · subst z; exact c
        · exact fun q => h2 y z (List.mem_append_left _ q)
      · rintro ⟨⟨h1, h2⟩, h3⟩
        have hx : ¬ x ∈ l := by simpa using h1
        refine ⟨h2, fun y hy q => ?_⟩
        rcases List.mem_append.mp q with z | z
        · exact h3 y (List.mem_cons_of_mem _ hy) z
        · rw [List.mem_singleton] at z
          subst z
          exact hx hy
theorem dedup_distinct (l : List Int) : decide ((dedup l).length = l.length) = Vamrqg.distinct l := by
  have h := dedup_eq l []
  rw [Bool.eq_iff_iff, decide_eq_true_eq]
  unfold dedup
  simp only [List.length_nil, Nat.zero_add] at h
  rw [h]
  constructor
  · exact fun z => z.1
  · exact fun z => ⟨z, fun x _ => by simp⟩
def inRange (n : Int) : Bool := decide (0 ≤ n) && decide (n ≤ 999)
def okNeeds (l : List Int) : Bool := decide (l.length ≤ 6) && Vamrqg.distinct l && l.all inRange
theorem needs_ok {l : List Int} (h : okNeeds l = true) : Vamrqg.needsOf l = .ok (l.map Int.toNat) ∧ l.length ≤ 6 ∧ ∀ z ∈ l, 0 ≤ z ∧ z ≤ 999 := by
  unfold okNeeds at h
  rw [Bool.and_eq_true, Bool.and_eq_true] at h
  obtain ⟨⟨h1, h2⟩, h3⟩ := h
  have h1' := of_decide_eq_true h1
  refine ⟨?_, h1', fun z hz => ?_⟩
  · unfold Vamrqg.needsOf
    rw [if_pos ⟨h1', h3, h2⟩]
  · have := List.all_eq_true.mp h3 z hz
    unfold inRange at this
    simpa using this
theorem needs_no {l : List Int} (h : okNeeds l = false) : Vamrqg.needsOf l = .error (-2) := by
  unfold Vamrqg.needsOf
  rw [if_neg]
  rintro ⟨h1, h2, h3⟩
  unfold okNeeds at h
  have : l.all inRange = true := h2
  rw [decide_eq_true (show l.length ≤ 6 from h1), h3, this] at h
  cases h
section
variable {s : State} {i p c : Int} {ns : List Int}
theorem add_range (h : ¬ ((0 ≤ i ∧ i ≤ 999) ∧ (0 ≤ p ∧ p ≤ 9) ∧ (0 ≤ c ∧ c ≤ 7))) : s.add i p c ns = .error (-1) := by
  show Vamrqg.andThen (Vamrqg.ranged i 0 ((999 : Nat) : Int)) _ = _
  by_cases h1 : 0 ≤ i ∧ i ≤ 999
  · rw [ranged_ok (by omega)]
    show Vamrqg.andThen (Vamrqg.ranged p 0 ((9 : Nat) : Int)) _ = _
    by_cases h2 : 0 ≤ p ∧ p ≤ 9
    · rw [ranged_ok (by omega)]
      show Vamrqg.andThen (Vamrqg.ranged c 0 ((7 : Nat) : Int)) _ = _
      rw [ranged_no (fun z => h ⟨h1, h2, by omega⟩)]
      rfl
    · rw [ranged_no (fun z => h2 (by omega))]
      rfl
  · rw [ranged_no (fun z => h1 (by omega))]
    rfl
theorem add_inside (h : (0 ≤ i ∧ i ≤ 999) ∧ (0 ≤ p ∧ p ≤ 9) ∧ (0 ≤ c ∧ c ≤ 7)) : s.add i p c ns = Vamrqg.andThen (Vamrqg.needsOf ns) fun n =>
    if known s i.toNat = true then .error (-9)
    else if n.all (known s) = false then .error (-6)
    else if 40 ≤ s.waiting.length + s.running.length ∨ 400 ≤ s.waiting.length + s.running.length + s.ended.length then .error (-7)
    else .ok (s.with_ (s.waiting ++ [⟨i.toNat, p.toNat, c.toNat, n, 0⟩]) s.running s.ended, [Vamrqg.ofNat (s.waiting.length + 1)]) := by
  show Vamrqg.andThen (Vamrqg.ranged i 0 ((999 : Nat) : Int)) _ = _
  rw [ranged_ok (by omega)]
  show Vamrqg.andThen (Vamrqg.ranged p 0 ((9 : Nat) : Int)) _ = _
  rw [ranged_ok (by omega)]
  show Vamrqg.andThen (Vamrqg.ranged c 0 ((7 : Nat) : Int)) _ = _
  rw [ranged_ok (by omega)]
  rfl
theorem all_known (h : ∀ z ∈ ns, 0 ≤ z ∧ z ≤ 999) : (ns.map Int.toNat).all (known s) = ns.all (knI s) := by
  rw [List.all_map]
  induction ns with
  | nil => rfl
  | cons z l ih =>
    rw [List.all_cons, List.all_cons, ih fun y hy => h y (List.mem_cons_of_mem _ hy)]
    have e : knI s z = known s z.toNat := by
      unfold knI
      rw [decide_eq_true (h z List.mem_cons_self).1, Bool.true_and]
    rw [e]
    rfl
structure AddOk (s : State) (i p c : Int) (ns : List Int) : Prop where
  rg : (0 ≤ i ∧ i ≤ 999) ∧ (0 ≤ p ∧ p ≤ 9) ∧ (0 ≤ c ∧ c ≤ 7)
  nd : ns.length ≤ 6 ∧ ∀ z ∈ ns, 0 ≤ z ∧ z ≤ 999
  kn : known s i.toNat = false
  few : s.waiting.length + s.running.length < 40
  all : s.waiting.length + s.running.length + s.ended.length < 400
  eq : s.add i p c ns = .ok (s.with_ (s.waiting ++ [⟨i.toNat, p.toNat, c.toNat, ns.map Int.toNat, 0⟩]) s.running s.ended, [Vamrqg.ofNat (s.waiting.length + 1)])
theorem nat_needs (h : ∀ z ∈ ns, 0 ≤ z ∧ z ≤ 999) : ns.map V.int = (ns.map Int.toNat).map nV := by
  rw [List.map_map]
  refine List.map_congr_left fun z hz => ?_
  show V.int z = V.int (z.toNat : Int)
  rw [show (z.toNat : Int) = z from by have := (h z hz).1; omega]
end
end Ag

/-! How long an answer is. -/
set_option Elab.async false
set_option linter.all false
namespace Ag
open PySem PySem.Spec PyProof.Rows L2
open Vamrqg (State Item idsOf windowsOf endOf known)
theorem andThen_ok {A B : Type} {r : Vamrqg.R A} {f : A → Vamrqg.R B} {y : B} (h : Vamrqg.andThen r f = .ok y) : ∃ x, r = .ok x ∧ f x = .ok y := by
  cases r with
  | error e => cases h
  | ok x => exact ⟨x, rfl, h⟩
section
variable {s : State}
theorem why_len (g : Good s) {i : Int} {l : List Int} (h : s.why i = .ok l) : l.length ≤ 50 := by
  unfold Vamrqg.State.why at h
  split at h
  · rename_i x hx
    have e : Vamrqg.whyWaiting s x = l := Except.ok.inj h
    have hn : x.needs.length ≤ 6 := (g.its x (List.mem_append_left _ (List.mem_of_find?_eq_some hx))).2.2.2
    have f : ∀ p : Nat → Bool, (x.needs.filter p).length ≤ 6 := fun p => Nat.le_trans (List.length_filter_le _ _) hn
    have f1 := f (Vamrqg.isLost s)
    have f2 := f fun n => !Vamrqg.isLanded s n
    rw [← e]
    unfold Vamrqg.whyWaiting Vamrqg.listed
    split
    · rw [List.length_cons, List.length_cons, List.length_map]; omega
    · split
      · rw [List.length_cons, List.length_cons, List.length_map]; omega
      · split
        · simp
        · split <;> simp
  · split at h
    · cases h; simp
    · split at h
      · cases h; simp
      · cases h
theorem out_len (g : Good s) {c : Vamrqg.Call} {s' : State} {l : List Int} (h : Vamrqg.outcome s c = .ok (s', l)) : l.length ≤ 50 := by
  cases c with
  | config a b =>
    obtain ⟨x, _, h1⟩ := andThen_ok (show Vamrqg.andThen (Vamrqg.ranged a 0 ((20 : Nat) : Int)) _ = _ from h)
    obtain ⟨y, _, h2⟩ := andThen_ok h1
    split at h2
    · cases h2
    · cases h2; simp
  | add i p c n =>
    obtain ⟨_, _, h1⟩ := andThen_ok (show Vamrqg.andThen (Vamrqg.ranged i 0 ((999 : Nat) : Int)) _ = _ from h)
    obtain ⟨_, _, h2⟩ := andThen_ok h1
    obtain ⟨_, _, h3⟩ := andThen_ok h2
    obtain ⟨_, _, h4⟩ := andThen_ok h3
    split at h4
    · cases h4
    · split at h4
      · cases h4
      · split at h4
        · cases h4
        · cases h4; simp
  | window c n =>
    obtain ⟨_, _, h1⟩ := andThen_ok (show Vamrqg.andThen (Vamrqg.ranged c 0 ((7 : Nat) : Int)) _ = _ from h)
    split at h1
    · cases h1
    · split at h1
      · cases h1
      · cases h1; simp
  | freeze c =>
    have h' : s.frost c true = .ok (s', l) := h
    unfold Vamrqg.State.frost at h'
    split at h'
    · cases h'; simp
    · obtain ⟨_, _, h1⟩ := andThen_ok h'
      cases h1; simp
  | thaw c =>
    have h' : s.frost c false = .ok (s', l) := h
    unfold Vamrqg.State.frost at h'
    split at h'
    · cases h'; simp
    · obtain ⟨_, _, h1⟩ := andThen_ok h'
      cases h1; simp
  | tick n =>
    obtain ⟨_, _, h1⟩ := andThen_ok (show Vamrqg.andThen (Vamrqg.ranged n 0 1000) _ = _ from h)
    split at h1
    · cases h1
    · cases h1; simp
  | order =>
    have h' : (Except.ok (s, Vamrqg.listed (idsOf (Vamrqg.order s))) : Vamrqg.Out) = .ok (s', l) := h
    cases h'
    have h1 := (order_perm s).length_eq
    have h2 : (s.waiting.filter (Vamrqg.ready s)).length ≤ s.waiting.length := List.length_filter_le _ _
    have := g.few
    unfold Vamrqg.listed idsOf
    rw [List.length_cons, List.length_map, List.length_map]
    omega
  | serve k =>
    obtain ⟨x, _, h1⟩ := andThen_ok (show Vamrqg.andThen (Vamrqg.ranged k 1 ((40 : Nat) : Int)) _ = _ from h)
    split at h1
    · cases h1
    · cases h1
      have := served_count g x
      have := g.few
      unfold Vamrqg.listed idsOf
      rw [List.length_cons, List.length_map, List.length_map]
      omega
  | outcome i ok =>
    obtain ⟨x, _, h1⟩ := andThen_ok (show Vamrqg.andThen (Vamrqg.ranged ok 0 1) _ = _ from h)
    unfold Vamrqg.State.runs at h1
    split at h1
    · cases h1; simp
    · cases h1
  | again i =>
    have h1 : s.again i = .ok (s', l) := h
    unfold Vamrqg.State.again Vamrqg.State.runs at h1
    split at h1
    · cases h1; simp
    · cases h1
  | withdraw i =>
    have h1 : s.withdraw i = .ok (s', l) := h
    unfold Vamrqg.State.withdraw at h1
    split at h1
    · cases h1; simp
    · cases h1
  | why i =>
    obtain ⟨x, h1, h2⟩ := andThen_ok (show Vamrqg.andThen (s.why i) _ = _ from h)
    cases h2
    exact why_len g h1
  | place i =>
    obtain ⟨x, h1, h2⟩ := andThen_ok (show Vamrqg.andThen (s.place i) _ = _ from h)
    cases h2
    unfold Vamrqg.State.place at h1
    split at h1
    · cases h1; simp
    · cases h1
  | nextOpen c =>
    obtain ⟨x, h1, h2⟩ := andThen_ok (show Vamrqg.andThen (s.nextOpen c) _ = _ from h)
    cases h2
    obtain ⟨_, _, h3⟩ := andThen_ok (show Vamrqg.andThen (Vamrqg.ranged c 0 ((7 : Nat) : Int)) _ = _ from h1)
    cases h3; simp
  | status =>
    have h' : (Except.ok (s, [Vamrqg.ofNat s.limit, Vamrqg.ofNat s.day, Vamrqg.ofNat s.time, Vamrqg.ofNat s.waiting.length, Vamrqg.ofNat s.running.length, Vamrqg.ofNat (s.ended.filter fun x => Vamrqg.isLanded s x.1).length, Vamrqg.ofNat (s.ended.filter fun x => Vamrqg.isLost s x.1).length]) : Vamrqg.Out) = .ok (s', l) := h
    cases h'
    show 7 ≤ 50
    decide
theorem answer_len (g : Good s) (c : Vamrqg.Call) : (VamrqgNeutral.encode (Vamrqg.step s c).2).length ≤ 50 := by
  unfold Vamrqg.step
  cases h : Vamrqg.outcome s c with
  | error e => simp [VamrqgNeutral.encode]
  | ok x =>
    show x.2.length ≤ 50
    exact out_len g (s' := x.1) (l := x.2) h
end
/-! ### the flat list -/
theorem put1_pos {c : List (List Int)} {k : Vamrqg.Call} (h : Form c k) : 0 < (PyFlat.put1 c).length := by
  cases h <;> exact Nat.succ_pos _
theorem told_snoc (s : State) (a : List (List (List Int))) (c : List (List Int)) : PyFlat.told (PyFlat.played VamrqgNeutral.step s (a ++ [c])) = PyFlat.told (PyFlat.played VamrqgNeutral.step s a) ++ ((((VamrqgNeutral.step (after s a) c).2.length : Nat) : Int) :: (VamrqgNeutral.step (after s a) c).2) := by
  rw [played_append, told_append]
  show _ ++ PyFlat.told [(VamrqgNeutral.step (after s a) c).2] = _
  rw [told_one]
theorem after_snoc (s : State) (c : List (List Int)) : ∀ (a : List (List (List Int))), after s (a ++ [c]) = (VamrqgNeutral.step (after s a) c).1 := by
  intro a
  induction a generalizing s with
  | nil => rfl
  | cons d r ih => exact ih _
theorem drop_next {l : List Int} {pos : Nat} {z : Int} {r : List Int} (h : l.drop pos = z :: r) : l.drop (pos + 1) = r := by
  rw [← List.drop_drop, h]
  rfl
theorem drop_more {l : List Int} {pos : Nat} {x r : List Int} (h : l.drop pos = x ++ r) : l.drop (pos + x.length) = r := by
  rw [← List.drop_drop, h, List.drop_left]
theorem put_drop (a : List (List (List Int))) (b : List (List (List Int))) : (PyFlat.put (a ++ b)).drop (PyFlat.put a).length = PyFlat.put b := by
  rw [put_append, List.drop_left]
theorem put_snoc (a : List (List (List Int))) (c : List (List Int)) : (PyFlat.put (a ++ [c])).length = (PyFlat.put a).length + (PyFlat.put1 c).length := by
  rw [put_append, List.length_append]
  show _ + (PyFlat.put1 c ++ []).length = _
  rw [List.append_nil]
end Ag

/-! The text by places, and what stands behind its top (made by gen.py from the linked text). -/
set_option Elab.async false
set_option linter.all false
set_option maxRecDepth 100000
set_option maxHeartbeats 2000000
namespace Ag
open PySem PySem.Spec PyProof.Rows L2
def top (i : Nat) : Stmt := PySem.Challenge.pw_agingqueue_s01_answers.main.body.getD i (.Pass ⟨0, 0, 0, 0⟩)
abbrev s_Item_init : Stmt := inClass (top 14) 0
abbrev s_Queue_init : Stmt := inClass (top 15) 0
abbrev s_count_unended : Stmt := top 16
abbrev s_outcome : Stmt := top 18
abbrev s_again : Stmt := top 19
abbrev s_withdraw : Stmt := top 20
abbrev s_is_frozen : Stmt := top 22
abbrev s_is_within_hours : Stmt := top 23
abbrev s_has_landed : Stmt := top 24
abbrev s_is_ready : Stmt := top 25
abbrev s_ready_items : Stmt := top 26
abbrev s_lower_for_greater_prio : Stmt := top 27
abbrev s_in_order : Stmt := top 28
abbrev s_numbers_in_order : Stmt := top 29
abbrev s_add : Stmt := top 36
abbrev s_refusal_of_add : Stmt := top 37
abbrev s_are_needs : Stmt := top 38
abbrev s_order : Stmt := top 39
abbrev s_serve : Stmt := top 40
abbrev s_count_passed : Stmt := top 41
abbrev s_Reader_init : Stmt := inClass (top 43) 0
abbrev s_Reader_is_done : Stmt := inClass (top 43) 1
abbrev s_Reader_take : Stmt := inClass (top 43) 2
abbrev s_Reader_take_several : Stmt := inClass (top 43) 3
abbrev s_Reader_take_row : Stmt := inClass (top 43) 4
abbrev s_config : Stmt := top 49
abbrev s_window : Stmt := top 50
abbrev s_pairs_of : Stmt := top 51
abbrev s_is_window : Stmt := top 52
abbrev s_freeze : Stmt := top 53
abbrev s_thaw : Stmt := top 54
abbrev s_set_frozen : Stmt := top 55
abbrev s_tick : Stmt := top 56
abbrev s_why : Stmt := top 64
abbrev s_why_waiting : Stmt := top 65
abbrev s_place : Stmt := top 66
abbrev s_next_open : Stmt := top 67
abbrev s_status : Stmt := top 68
abbrev s_answers : Stmt := top 86
abbrev s_answer_next : Stmt := top 87
abbrev s_answer_with_one_number : Stmt := top 88
/-- the addresses: classes, defs -/
structure Ad where
  c_Item : Addr
  c_Queue : Addr
  c_Reader : Addr
  f_Item_init : Addr
  d_Item_init : FuncData
  f_Queue_init : Addr
  d_Queue_init : FuncData
  f_count_unended : Addr
  d_count_unended : FuncData
  f_outcome : Addr
  d_outcome : FuncData
  f_again : Addr
  d_again : FuncData
  f_withdraw : Addr
  d_withdraw : FuncData
  f_is_frozen : Addr
  d_is_frozen : FuncData
  f_is_within_hours : Addr
  d_is_within_hours : FuncData
  f_has_landed : Addr
  d_has_landed : FuncData
  f_is_ready : Addr
  d_is_ready : FuncData
  f_ready_items : Addr
  d_ready_items : FuncData
  f_lower_for_greater_prio : Addr
  d_lower_for_greater_prio : FuncData
  f_in_order : Addr
  d_in_order : FuncData
  f_numbers_in_order : Addr
  d_numbers_in_order : FuncData
  f_add : Addr
  d_add : FuncData
  f_refusal_of_add : Addr
  d_refusal_of_add : FuncData
  f_are_needs : Addr
  d_are_needs : FuncData
  f_order : Addr
  d_order : FuncData
  f_serve : Addr
  d_serve : FuncData
  f_count_passed : Addr
  d_count_passed : FuncData
  f_Reader_init : Addr
  d_Reader_init : FuncData
  f_Reader_is_done : Addr
  d_Reader_is_done : FuncData
  f_Reader_take : Addr
  d_Reader_take : FuncData
  f_Reader_take_several : Addr
  d_Reader_take_several : FuncData
  f_Reader_take_row : Addr
  d_Reader_take_row : FuncData
  f_config : Addr
  d_config : FuncData
  f_window : Addr
  d_window : FuncData
  f_pairs_of : Addr
  d_pairs_of : FuncData
  f_is_window : Addr
  d_is_window : FuncData
  f_freeze : Addr
  d_freeze : FuncData
  f_thaw : Addr
  d_thaw : FuncData
  f_set_frozen : Addr
  d_set_frozen : FuncData
  f_tick : Addr
  d_tick : FuncData
  f_why : Addr
  d_why : FuncData
  f_why_waiting : Addr
  d_why_waiting : FuncData
  f_place : Addr
  d_place : FuncData
  f_next_open : Addr
  d_next_open : FuncData
  f_status : Addr
  d_status : FuncData
  f_answers : Addr
  d_answers : FuncData
  f_answer_next : Addr
  d_answer_next : FuncData
  f_answer_with_one_number : Addr
  d_answer_with_one_number : FuncData
/-- the text as it stands behind the top -/
structure Txt (K : PySem.W.Frag) (mg : Str → Option Value) (t : Ad) : Prop where
  k_Item : Cls K t.c_Item
  g_Item : mg "Item" = some (.ref t.c_Item)
  mk_Item : Mk K t.c_Item t.f_Item_init
  n_Item_number : NoAttr K t.c_Item "number"
  n_Item_prio : NoAttr K t.c_Item "prio"
  n_Item_group : NoAttr K t.c_Item "group"
  n_Item_needs : NoAttr K t.c_Item "needs"
  n_Item_passed : NoAttr K t.c_Item "passed"
  k_Queue : Cls K t.c_Queue
  g_Queue : mg "Queue" = some (.ref t.c_Queue)
  mk_Queue : Mk K t.c_Queue t.f_Queue_init
  n_Queue_limit : NoAttr K t.c_Queue "limit"
  n_Queue_day : NoAttr K t.c_Queue "day"
  n_Queue_time : NoAttr K t.c_Queue "time"
  n_Queue_windows : NoAttr K t.c_Queue "windows"
  n_Queue_frozen : NoAttr K t.c_Queue "frozen"
  n_Queue_known : NoAttr K t.c_Queue "known"
  n_Queue_waiting : NoAttr K t.c_Queue "waiting"
  n_Queue_running : NoAttr K t.c_Queue "running"
  n_Queue_ended : NoAttr K t.c_Queue "ended"
  k_Reader : Cls K t.c_Reader
  g_Reader : mg "Reader" = some (.ref t.c_Reader)
  mk_Reader : Mk K t.c_Reader t.f_Reader_init
  n_Reader_numbers : NoAttr K t.c_Reader "numbers"
  n_Reader_position : NoAttr K t.c_Reader "position"
  mt_Reader_is_done : Meth K t.c_Reader "is_done" t.f_Reader_is_done
  mt_Reader_take : Meth K t.c_Reader "take" t.f_Reader_take
  mt_Reader_take_several : Meth K t.c_Reader "take_several" t.f_Reader_take_several
  mt_Reader_take_row : Meth K t.c_Reader "take_row" t.f_Reader_take_row
  F_Item_init : Fun K "__init__" "Item.__init__" s_Item_init t.f_Item_init t.d_Item_init
  b_Item_init : Binds K t.d_Item_init ["self", "number", "prio", "group", "needs"] []
  F_Queue_init : Fun K "__init__" "Queue.__init__" s_Queue_init t.f_Queue_init t.d_Queue_init
  b_Queue_init : Binds K t.d_Queue_init ["self"] []
  F_count_unended : Fun K "count_unended" "count_unended" s_count_unended t.f_count_unended t.d_count_unended
  b_count_unended : Binds K t.d_count_unended ["queue"] []
  g_count_unended : mg "count_unended" = some (.ref t.f_count_unended)
  F_outcome : Fun K "outcome" "outcome" s_outcome t.f_outcome t.d_outcome
  b_outcome : Binds K t.d_outcome ["queue", "number", "landed"] []
  g_outcome : mg "outcome" = some (.ref t.f_outcome)
  F_again : Fun K "again" "again" s_again t.f_again t.d_again
  b_again : Binds K t.d_again ["queue", "number"] []
  g_again : mg "again" = some (.ref t.f_again)
  F_withdraw : Fun K "withdraw" "withdraw" s_withdraw t.f_withdraw t.d_withdraw
  b_withdraw : Binds K t.d_withdraw ["queue", "number"] []
  g_withdraw : mg "withdraw" = some (.ref t.f_withdraw)
  F_is_frozen : Fun K "is_frozen" "is_frozen" s_is_frozen t.f_is_frozen t.d_is_frozen
  b_is_frozen : Binds K t.d_is_frozen ["queue", "group"] []
  g_is_frozen : mg "is_frozen" = some (.ref t.f_is_frozen)
  F_is_within_hours : Fun K "is_within_hours" "is_within_hours" s_is_within_hours t.f_is_within_hours t.d_is_within_hours
  b_is_within_hours : Binds K t.d_is_within_hours ["queue", "group", "time"] []
  g_is_within_hours : mg "is_within_hours" = some (.ref t.f_is_within_hours)
  F_has_landed : Fun K "has_landed" "has_landed" s_has_landed t.f_has_landed t.d_has_landed
  b_has_landed : Binds K t.d_has_landed ["queue", "number"] []
  g_has_landed : mg "has_landed" = some (.ref t.f_has_landed)
  F_is_ready : Fun K "is_ready" "is_ready" s_is_ready t.f_is_ready t.d_is_ready
  b_is_ready : Binds K t.d_is_ready ["queue", "item"] []
  g_is_ready : mg "is_ready" = some (.ref t.f_is_ready)
  F_ready_items : Fun K "ready_items" "ready_items" s_ready_items t.f_ready_items t.d_ready_items
  b_ready_items : Binds K t.d_ready_items ["queue"] []
  g_ready_items : mg "ready_items" = some (.ref t.f_ready_items)
  F_lower_for_greater_prio : Fun K "lower_for_greater_prio" "lower_for_greater_prio" s_lower_for_greater_prio t.f_lower_for_greater_prio t.d_lower_for_greater_prio
  b_lower_for_greater_prio : Binds K t.d_lower_for_greater_prio ["item"] []
  g_lower_for_greater_prio : mg "lower_for_greater_prio" = some (.ref t.f_lower_for_greater_prio)
  F_in_order : Fun K "in_order" "in_order" s_in_order t.f_in_order t.d_in_order
  b_in_order : Binds K t.d_in_order ["items", "limit"] []
  g_in_order : mg "in_order" = some (.ref t.f_in_order)
  F_numbers_in_order : Fun K "numbers_in_order" "numbers_in_order" s_numbers_in_order t.f_numbers_in_order t.d_numbers_in_order
  b_numbers_in_order : Binds K t.d_numbers_in_order ["queue"] []
  g_numbers_in_order : mg "numbers_in_order" = some (.ref t.f_numbers_in_order)
  F_add : Fun K "add" "add" s_add t.f_add t.d_add
  b_add : Binds K t.d_add ["queue", "number", "prio", "group", "needs"] []
  g_add : mg "add" = some (.ref t.f_add)
  F_refusal_of_add : Fun K "refusal_of_add" "refusal_of_add" s_refusal_of_add t.f_refusal_of_add t.d_refusal_of_add
  b_refusal_of_add : Binds K t.d_refusal_of_add ["queue", "number", "prio", "group", "needs"] []
  g_refusal_of_add : mg "refusal_of_add" = some (.ref t.f_refusal_of_add)
  F_are_needs : Fun K "are_needs" "are_needs" s_are_needs t.f_are_needs t.d_are_needs
  b_are_needs : Binds K t.d_are_needs ["needs"] []
  g_are_needs : mg "are_needs" = some (.ref t.f_are_needs)
  F_order : Fun K "order" "order" s_order t.f_order t.d_order
  b_order : Binds K t.d_order ["queue"] []
  g_order : mg "order" = some (.ref t.f_order)
  F_serve : Fun K "serve" "serve" s_serve t.f_serve t.d_serve
  b_serve : Binds K t.d_serve ["queue", "most"] []
  g_serve : mg "serve" = some (.ref t.f_serve)
  F_count_passed : Fun K "count_passed" "count_passed" s_count_passed t.f_count_passed t.d_count_passed
  b_count_passed : Binds K t.d_count_passed ["ready", "served"] []
  g_count_passed : mg "count_passed" = some (.ref t.f_count_passed)
  F_Reader_init : Fun K "__init__" "Reader.__init__" s_Reader_init t.f_Reader_init t.d_Reader_init
  b_Reader_init : Binds K t.d_Reader_init ["self", "numbers"] []
  F_Reader_is_done : Fun K "is_done" "Reader.is_done" s_Reader_is_done t.f_Reader_is_done t.d_Reader_is_done
  b_Reader_is_done : Binds K t.d_Reader_is_done ["self"] []
  F_Reader_take : Fun K "take" "Reader.take" s_Reader_take t.f_Reader_take t.d_Reader_take
  b_Reader_take : Binds K t.d_Reader_take ["self"] []
  F_Reader_take_several : Fun K "take_several" "Reader.take_several" s_Reader_take_several t.f_Reader_take_several t.d_Reader_take_several
  b_Reader_take_several : Binds K t.d_Reader_take_several ["self", "amount"] []
  F_Reader_take_row : Fun K "take_row" "Reader.take_row" s_Reader_take_row t.f_Reader_take_row t.d_Reader_take_row
  b_Reader_take_row : Binds K t.d_Reader_take_row ["self"] []
  F_config : Fun K "config" "config" s_config t.f_config t.d_config
  b_config : Binds K t.d_config ["queue", "limit", "day"] []
  g_config : mg "config" = some (.ref t.f_config)
  F_window : Fun K "window" "window" s_window t.f_window t.d_window
  b_window : Binds K t.d_window ["queue", "group", "hours"] []
  g_window : mg "window" = some (.ref t.f_window)
  F_pairs_of : Fun K "pairs_of" "pairs_of" s_pairs_of t.f_pairs_of t.d_pairs_of
  b_pairs_of : Binds K t.d_pairs_of ["hours"] []
  g_pairs_of : mg "pairs_of" = some (.ref t.f_pairs_of)
  F_is_window : Fun K "is_window" "is_window" s_is_window t.f_is_window t.d_is_window
  b_is_window : Binds K t.d_is_window ["pair", "day"] []
  g_is_window : mg "is_window" = some (.ref t.f_is_window)
  F_freeze : Fun K "freeze" "freeze" s_freeze t.f_freeze t.d_freeze
  b_freeze : Binds K t.d_freeze ["queue", "group"] []
  g_freeze : mg "freeze" = some (.ref t.f_freeze)
  F_thaw : Fun K "thaw" "thaw" s_thaw t.f_thaw t.d_thaw
  b_thaw : Binds K t.d_thaw ["queue", "group"] []
  g_thaw : mg "thaw" = some (.ref t.f_thaw)
  F_set_frozen : Fun K "set_frozen" "set_frozen" s_set_frozen t.f_set_frozen t.d_set_frozen
  b_set_frozen : Binds K t.d_set_frozen ["queue", "group", "value"] []
  g_set_frozen : mg "set_frozen" = some (.ref t.f_set_frozen)
  F_tick : Fun K "tick" "tick" s_tick t.f_tick t.d_tick
  b_tick : Binds K t.d_tick ["queue", "hours"] []
  g_tick : mg "tick" = some (.ref t.f_tick)
  F_why : Fun K "why" "why" s_why t.f_why t.d_why
  b_why : Binds K t.d_why ["queue", "number"] []
  g_why : mg "why" = some (.ref t.f_why)
  F_why_waiting : Fun K "why_waiting" "why_waiting" s_why_waiting t.f_why_waiting t.d_why_waiting
  b_why_waiting : Binds K t.d_why_waiting ["queue", "item"] []
  g_why_waiting : mg "why_waiting" = some (.ref t.f_why_waiting)
  F_place : Fun K "place" "place" s_place t.f_place t.d_place
  b_place : Binds K t.d_place ["queue", "number"] []
  g_place : mg "place" = some (.ref t.f_place)
  F_next_open : Fun K "next_open" "next_open" s_next_open t.f_next_open t.d_next_open
  b_next_open : Binds K t.d_next_open ["queue", "group"] []
  g_next_open : mg "next_open" = some (.ref t.f_next_open)
  F_status : Fun K "status" "status" s_status t.f_status t.d_status
  b_status : Binds K t.d_status ["queue"] []
  g_status : mg "status" = some (.ref t.f_status)
  F_answers : Fun K "answers" "answers" s_answers t.f_answers t.d_answers
  b_answers : Binds K t.d_answers ["calls"] []
  g_answers : mg "answers" = some (.ref t.f_answers)
  F_answer_next : Fun K "answer_next" "answer_next" s_answer_next t.f_answer_next t.d_answer_next
  b_answer_next : Binds K t.d_answer_next ["queue", "reader"] []
  g_answer_next : mg "answer_next" = some (.ref t.f_answer_next)
  F_answer_with_one_number : Fun K "answer_with_one_number" "answer_with_one_number" s_answer_with_one_number t.f_answer_with_one_number t.d_answer_with_one_number
  b_answer_with_one_number : Binds K t.d_answer_with_one_number ["queue", "call", "reader"] []
  g_answer_with_one_number : mg "answer_with_one_number" = some (.ref t.f_answer_with_one_number)
  v_NO_REFUSAL : ∃ u, mg "NO_REFUSAL" = some (.int (0) u)
  v_OUT_OF_RANGE : ∃ u, mg "OUT_OF_RANGE" = some (.int (-1) u)
  v_BAD_ROW : ∃ u, mg "BAD_ROW" = some (.int (-2) u)
  v_NO_SUCH_ITEM : ∃ u, mg "NO_SUCH_ITEM" = some (.int (-6) u)
  v_TOO_MUCH : ∃ u, mg "TOO_MUCH" = some (.int (-7) u)
  v_ITEMS_THERE : ∃ u, mg "ITEMS_THERE" = some (.int (-8) u)
  v_NUMBER_TAKEN : ∃ u, mg "NUMBER_TAKEN" = some (.int (-9) u)
  v_EVERYTHING : ∃ u, mg "EVERYTHING" = some (.int (-1) u)
  v_LAST_GROUP : ∃ u, mg "LAST_GROUP" = some (.int (7) u)
  v_MOST_TIME : ∃ u, mg "MOST_TIME" = some (.int (1000000) u)
  v_LANDED : ∃ u, mg "LANDED" = some (.int (7) u)
  v_REJECTED : ∃ u, mg "REJECTED" = some (.int (8) u)
  v_WITHDRAWN : ∃ u, mg "WITHDRAWN" = some (.int (9) u)
  v_LAST_NUMBER : ∃ u, mg "LAST_NUMBER" = some (.int (999) u)
  v_LAST_PRIO : ∃ u, mg "LAST_PRIO" = some (.int (9) u)
  v_MOST_NEEDS : ∃ u, mg "MOST_NEEDS" = some (.int (6) u)
  v_MOST_UNENDED : ∃ u, mg "MOST_UNENDED" = some (.int (40) u)
  v_MOST_KNOWN : ∃ u, mg "MOST_KNOWN" = some (.int (400) u)
  v_MOST_LIMIT : ∃ u, mg "MOST_LIMIT" = some (.int (20) u)
  v_MOST_HOURS : ∃ u, mg "MOST_HOURS" = some (.int (24) u)
  v_MOST_WINDOWS : ∃ u, mg "MOST_WINDOWS" = some (.int (4) u)
  v_MOST_TICK : ∃ u, mg "MOST_TICK" = some (.int (1000) u)
  v_READY : ∃ u, mg "READY" = some (.int (1) u)
  v_FROZEN : ∃ u, mg "FROZEN" = some (.int (2) u)
  v_OUTSIDE_HOURS : ∃ u, mg "OUTSIDE_HOURS" = some (.int (3) u)
  v_NEEDS_MISSING : ∃ u, mg "NEEDS_MISSING" = some (.int (4) u)
  v_NEEDS_LOST : ∃ u, mg "NEEDS_LOST" = some (.int (5) u)
  v_RUNS : ∃ u, mg "RUNS" = some (.int (6) u)
  v_CONFIG : ∃ u, mg "CONFIG" = some (.int (0) u)
  v_ADD : ∃ u, mg "ADD" = some (.int (1) u)
  v_WINDOW : ∃ u, mg "WINDOW" = some (.int (2) u)
  v_FREEZE : ∃ u, mg "FREEZE" = some (.int (3) u)
  v_THAW : ∃ u, mg "THAW" = some (.int (4) u)
  v_TICK : ∃ u, mg "TICK" = some (.int (5) u)
  v_ORDER : ∃ u, mg "ORDER" = some (.int (6) u)
  v_SERVE : ∃ u, mg "SERVE" = some (.int (7) u)
  v_OUTCOME : ∃ u, mg "OUTCOME" = some (.int (8) u)
  v_AGAIN : ∃ u, mg "AGAIN" = some (.int (9) u)
  v_WITHDRAW : ∃ u, mg "WITHDRAW" = some (.int (10) u)
  v_WHY : ∃ u, mg "WHY" = some (.int (11) u)
  v_PLACE : ∃ u, mg "PLACE" = some (.int (12) u)
  v_NEXT_OPEN : ∃ u, mg "NEXT_OPEN" = some (.int (13) u)
  v_STATUS : ∃ u, mg "STATUS" = some (.int (14) u)
  z_all : mg "all" = none
  z_any : mg "any" = none
  z_len : mg "len" = none
  z_list : mg "list" = none
  z_min : mg "min" = none
  z_range : mg "range" = none
  z_reversed : mg "reversed" = none
  z_set : mg "set" = none
  z_sorted : mg "sorted" = none
theorem sc_Item_init : FnScope ["self", "number", "prio", "group", "needs"] ["self", "number", "prio", "group", "needs"] (defScope s_Item_init) := ⟨rfl, rfl, rfl, by decide +kernel, rfl, by decide +kernel, by decide +kernel⟩
theorem sc_Queue_init : FnScope ["self"] ["self"] (defScope s_Queue_init) := ⟨rfl, rfl, rfl, by decide +kernel, rfl, by decide +kernel, by decide +kernel⟩
theorem sc_count_unended : FnScope ["queue"] ["queue"] (defScope s_count_unended) := ⟨rfl, rfl, rfl, by decide +kernel, rfl, by decide +kernel, by decide +kernel⟩
theorem sc_outcome : FnScope ["queue", "number", "landed"] ["queue", "number", "landed"] (defScope s_outcome) := ⟨rfl, rfl, rfl, by decide +kernel, rfl, by decide +kernel, by decide +kernel⟩
theorem sc_again : FnScope ["queue", "number"] ["queue", "number"] (defScope s_again) := ⟨rfl, rfl, rfl, by decide +kernel, rfl, by decide +kernel, by decide +kernel⟩
theorem sc_withdraw : FnScope ["queue", "number"] ["queue", "number"] (defScope s_withdraw) := ⟨rfl, rfl, rfl, by decide +kernel, rfl, by decide +kernel, by decide +kernel⟩
theorem sc_is_frozen : FnScope ["queue", "group"] ["queue", "group"] (defScope s_is_frozen) := ⟨rfl, rfl, rfl, by decide +kernel, rfl, by decide +kernel, by decide +kernel⟩
theorem sc_is_within_hours : FnScope ["queue", "group", "time", "pairs", "hour", "pair"] ["queue", "group", "time"] (defScope s_is_within_hours) := ⟨rfl, rfl, rfl, by decide +kernel, rfl, by decide +kernel, by decide +kernel⟩
theorem sc_has_landed : FnScope ["queue", "number"] ["queue", "number"] (defScope s_has_landed) := ⟨rfl, rfl, rfl, by decide +kernel, rfl, by decide +kernel, by decide +kernel⟩
theorem sc_is_ready : FnScope ["queue", "item", "need"] ["queue", "item"] (defScope s_is_ready) := ⟨rfl, rfl, rfl, by decide +kernel, rfl, by decide +kernel, by decide +kernel⟩
theorem sc_ready_items : FnScope ["queue", "items", "number", "item"] ["queue"] (defScope s_ready_items) := ⟨rfl, rfl, rfl, by decide +kernel, rfl, by decide +kernel, by decide +kernel⟩
theorem sc_lower_for_greater_prio : FnScope ["item"] ["item"] (defScope s_lower_for_greater_prio) := ⟨rfl, rfl, rfl, by decide +kernel, rfl, by decide +kernel, by decide +kernel⟩
theorem sc_in_order : FnScope ["items", "limit", "overdue", "item", "others"] ["items", "limit"] (defScope s_in_order) := ⟨rfl, rfl, rfl, by decide +kernel, rfl, by decide +kernel, by decide +kernel⟩
theorem sc_numbers_in_order : FnScope ["queue", "item"] ["queue"] (defScope s_numbers_in_order) := ⟨rfl, rfl, rfl, by decide +kernel, rfl, by decide +kernel, by decide +kernel⟩
theorem sc_add : FnScope ["queue", "number", "prio", "group", "needs", "refusal"] ["queue", "number", "prio", "group", "needs"] (defScope s_add) := ⟨rfl, rfl, rfl, by decide +kernel, rfl, by decide +kernel, by decide +kernel⟩
theorem sc_refusal_of_add : FnScope ["queue", "number", "prio", "group", "needs", "need"] ["queue", "number", "prio", "group", "needs"] (defScope s_refusal_of_add) := ⟨rfl, rfl, rfl, by decide +kernel, rfl, by decide +kernel, by decide +kernel⟩
theorem sc_are_needs : FnScope ["needs", "need"] ["needs"] (defScope s_are_needs) := ⟨rfl, rfl, rfl, by decide +kernel, rfl, by decide +kernel, by decide +kernel⟩
theorem sc_order : FnScope ["queue", "numbers"] ["queue"] (defScope s_order) := ⟨rfl, rfl, rfl, by decide +kernel, rfl, by decide +kernel, by decide +kernel⟩
theorem sc_serve : FnScope ["queue", "most", "served", "number"] ["queue", "most"] (defScope s_serve) := ⟨rfl, rfl, rfl, by decide +kernel, rfl, by decide +kernel, by decide +kernel⟩
theorem sc_count_passed : FnScope ["ready", "served", "served_behind", "item"] ["ready", "served"] (defScope s_count_passed) := ⟨rfl, rfl, rfl, by decide +kernel, rfl, by decide +kernel, by decide +kernel⟩
theorem sc_Reader_init : FnScope ["self", "numbers"] ["self", "numbers"] (defScope s_Reader_init) := ⟨rfl, rfl, rfl, by decide +kernel, rfl, by decide +kernel, by decide +kernel⟩
theorem sc_Reader_is_done : FnScope ["self"] ["self"] (defScope s_Reader_is_done) := ⟨rfl, rfl, rfl, by decide +kernel, rfl, by decide +kernel, by decide +kernel⟩
theorem sc_Reader_take : FnScope ["self"] ["self"] (defScope s_Reader_take) := ⟨rfl, rfl, rfl, by decide +kernel, rfl, by decide +kernel, by decide +kernel⟩
theorem sc_Reader_take_several : FnScope ["self", "amount", "behind", "taken"] ["self", "amount"] (defScope s_Reader_take_several) := ⟨rfl, rfl, rfl, by decide +kernel, rfl, by decide +kernel, by decide +kernel⟩
theorem sc_Reader_take_row : FnScope ["self", "amount"] ["self"] (defScope s_Reader_take_row) := ⟨rfl, rfl, rfl, by decide +kernel, rfl, by decide +kernel, by decide +kernel⟩
theorem sc_config : FnScope ["queue", "limit", "day"] ["queue", "limit", "day"] (defScope s_config) := ⟨rfl, rfl, rfl, by decide +kernel, rfl, by decide +kernel, by decide +kernel⟩
theorem sc_window : FnScope ["queue", "group", "hours", "pairs", "pair"] ["queue", "group", "hours"] (defScope s_window) := ⟨rfl, rfl, rfl, by decide +kernel, rfl, by decide +kernel, by decide +kernel⟩
theorem sc_pairs_of : FnScope ["hours", "place"] ["hours"] (defScope s_pairs_of) := ⟨rfl, rfl, rfl, by decide +kernel, rfl, by decide +kernel, by decide +kernel⟩
theorem sc_is_window : FnScope ["pair", "day"] ["pair", "day"] (defScope s_is_window) := ⟨rfl, rfl, rfl, by decide +kernel, rfl, by decide +kernel, by decide +kernel⟩
theorem sc_freeze : FnScope ["queue", "group"] ["queue", "group"] (defScope s_freeze) := ⟨rfl, rfl, rfl, by decide +kernel, rfl, by decide +kernel, by decide +kernel⟩
theorem sc_thaw : FnScope ["queue", "group"] ["queue", "group"] (defScope s_thaw) := ⟨rfl, rfl, rfl, by decide +kernel, rfl, by decide +kernel, by decide +kernel⟩
theorem sc_set_frozen : FnScope ["queue", "group", "value"] ["queue", "group", "value"] (defScope s_set_frozen) := ⟨rfl, rfl, rfl, by decide +kernel, rfl, by decide +kernel, by decide +kernel⟩
theorem sc_tick : FnScope ["queue", "hours"] ["queue", "hours"] (defScope s_tick) := ⟨rfl, rfl, rfl, by decide +kernel, rfl, by decide +kernel, by decide +kernel⟩
theorem sc_why : FnScope ["queue", "number"] ["queue", "number"] (defScope s_why) := ⟨rfl, rfl, rfl, by decide +kernel, rfl, by decide +kernel, by decide +kernel⟩
theorem sc_why_waiting : FnScope ["queue", "item", "missing", "need", "lost"] ["queue", "item"] (defScope s_why_waiting) := ⟨rfl, rfl, rfl, by decide +kernel, rfl, by decide +kernel, by decide +kernel⟩
theorem sc_place : FnScope ["queue", "number", "numbers"] ["queue", "number"] (defScope s_place) := ⟨rfl, rfl, rfl, by decide +kernel, rfl, by decide +kernel, by decide +kernel⟩
theorem sc_next_open : FnScope ["queue", "group", "later"] ["queue", "group"] (defScope s_next_open) := ⟨rfl, rfl, rfl, by decide +kernel, rfl, by decide +kernel, by decide +kernel⟩
theorem sc_status : FnScope ["queue", "landed", "number", "lost"] ["queue"] (defScope s_status) := ⟨rfl, rfl, rfl, by decide +kernel, rfl, by decide +kernel, by decide +kernel⟩
theorem sc_answers : FnScope ["calls", "queue", "reader", "told", "answer"] ["calls"] (defScope s_answers) := ⟨rfl, rfl, rfl, by decide +kernel, rfl, by decide +kernel, by decide +kernel⟩
theorem sc_answer_next : FnScope ["queue", "reader", "call", "numbers", "group"] ["queue", "reader"] (defScope s_answer_next) := ⟨rfl, rfl, rfl, by decide +kernel, rfl, by decide +kernel, by decide +kernel⟩
theorem sc_answer_with_one_number : FnScope ["queue", "call", "reader"] ["queue", "call", "reader"] (defScope s_answer_with_one_number) := ⟨rfl, rfl, rfl, by decide +kernel, rfl, by decide +kernel, by decide +kernel⟩
end Ag

/-! The defs that only read: what is frozen, open, landed, ready. -/
set_option Elab.async false
set_option linter.all false
set_option maxRecDepth 100000
set_option maxHeartbeats 4000000
namespace Ag
open PySem PySem.Spec PyProof.Rows L2
open Vamrqg (State Item idsOf windowsOf endOf known)
section
variable {P : Program} {w : World} {K : PySem.W.Frag} {mg : Str → Option Value} {base : Heap} {t : Ad}
abbrev Rp (t : Ad) := Rep t.c_Queue t.c_Item
theorem rd_fld {K : PySem.W.Frag} {i : Nat} {σ : L2.St} {H : Hp} {Q : VK} {f : Str} {a C dx : Addr} {fs : List (Str × V)} {v : V} (hσ : σ[i]? = some (some (.ref a))) (ho : H a = some (.ins C dx fs)) (c : Cls K C) (n : NoAttr K C f) (l : fs.lookup f = some v) (q : Q v H) :
    tFld K (tVar i) f σ H Q := ⟨_, hσ, a, C, dx, fs, v, rfl, ho, c, n, l, q⟩

def spCount (t : Ad) : Sp := fun vs H Q _ => ∃ (q : Addr) (s : State) (O : Own) (D : Ads) (n : Nat), vs = [.ref q] ∧ Rp t H q s O D n ∧ ∀ H', Same H H' → Q (.int ((s.waiting.length : Int) + (s.running.length : Int))) H'
theorem ok_count_unended (T : Txt K mg t) : FnOk P w K mg base CX0 2 t.f_count_unended t.d_count_unended ["queue"] (spCount t) := by
  refine T.F_count_unended.ok sc_count_unended (fun vs H Q E h => ?_) (fun cdv A outer s H vs Q E hr h => ?_)
  · obtain ⟨q, s, O, D, n, rfl, _⟩ := h
    rfl
  · obtain ⟨q, s, O, D, n, rfl, R, k⟩ := h
    refine ⟨_, (pss_one (ps_ret (pe_op op_add (pe_callB (call_len_seqK (K := K)) (by rfl) T.z_len PySem.boot_len (pa_cons (pe_fldK (K := K) (pv 0)) pa_nil)) (pe_callB (call_len_seqK (K := K)) (by rfl) T.z_len PySem.boot_len (pa_cons (pe_fldK (K := K) (pv 0)) pa_nil))))), ?_⟩
    refine ⟨_, rfl, _, _, _, _, _, rfl, R.ob, T.k_Queue, T.n_Queue_waiting, rfl, _, _, rfl, .inl (SqL.of R.oWt), ?_⟩
    refine ⟨_, rfl, _, _, _, _, _, rfl, R.ob, T.k_Queue, T.n_Queue_running, rfl, _, _, rfl, .inl (SqL.of R.oR), _, _, rfl, rfl, ?_⟩
    rw [List.length_map, List.length_map, idsOf, idsOf, List.length_map, List.length_map]
    exact k H (Same.refl H)

def spFrozen (t : Ad) : Sp := fun vs H Q _ => ∃ (q : Addr) (s : State) (O : Own) (D : Ads) (n c : Nat), vs = [.ref q, nV c] ∧ Rp t H q s O D n ∧ ∀ H', Same H H' → Q (.bl (Vamrqg.isFrozen s c)) H'
theorem ok_is_frozen (T : Txt K mg t) : FnOk P w K mg base CX0 2 t.f_is_frozen t.d_is_frozen ["queue", "group"] (spFrozen t) := by
  refine T.F_is_frozen.ok sc_is_frozen (fun vs H Q E h => ?_) (fun cdv A outer s H vs Q E hr h => ?_)
  · obtain ⟨q, s, O, D, n, c, rfl, _⟩ := h
    rfl
  · obtain ⟨q, s, O, D, n, c, rfl, R, k⟩ := h
    have hu := hu_of hr
    refine ⟨_, (pss_one (ps_ret (pe_or (pe_dget2 hu (pe_fldK (K := K) (pv 0)) (pv 1) pe_bl ⟨rfl, rfl, rfl, rfl⟩) (pe_one (pe_dget2 hu (pe_fldK (K := K) (pv 0)) (pe_gint rfl T.v_EVERYTHING) pe_bl ⟨rfl, rfl, rfl, rfl⟩))))), ?_⟩
    refine ⟨_, rfl, _, _, _, _, _, rfl, R.ob, T.k_Queue, T.n_Queue_frozen, rfl, D.aF, rfl, .inl ⟨_, .inl R.oF⟩, _, rfl, _, DGet.k (k := Sum.inl (c : Int)) R.oF, _, R.fro c, ?_⟩
    cases e : s.frozen.contains c with
    | true =>
      refine iteT ?_
      have q := k H (Same.refl H)
      unfold Vamrqg.isFrozen at q
      rw [e, Bool.or_true] at q
      exact q
    | false =>
      refine iteF (⟨_, rfl, _, _, _, _, _, rfl, R.ob, T.k_Queue, T.n_Queue_frozen, rfl, D.aF, rfl, .inl ⟨_, .inl R.oF⟩, _, DGet.k (k := Sum.inl (-1)) R.oF, ?_⟩)
      have q := k H (Same.refl H)
      unfold Vamrqg.isFrozen at q
      rw [e, Bool.or_false] at q
      have e2 : (valV D.kF (Sum.inl (-1))).getD (V.bl false) = .bl s.stopped := R.sto
      rw [e2]
      exact q

/-- the pairs of a class, a new list where there are none -/
theorem paired_zip {α β : Type} {F : α → β → Prop} : ∀ {ts : List α} {ws : List β}, Paired F ts ws → ∃ l : List (α × β), ts = l.map (·.1) ∧ ws = l.map (·.2) ∧ ∀ x ∈ l, F x.1 x.2
  | _, _, .nil => ⟨[], rfl, rfl, fun _ h => by cases h⟩
  | _, _, .cons (a := a) (b := b) r h => by
    obtain ⟨l, e1, e2, h3⟩ := paired_zip h
    refine ⟨(a, b) :: l, by rw [e1]; rfl, by rw [e2]; rfl, fun x hx => ?_⟩
    rcases List.mem_cons.mp hx with rfl | hx
    · exact r
    · exact h3 x hx
theorem win_get {H : Hp} {O : Own} {c : Nat} {v : Option V} {ws : List (Nat × Nat)} {p : Addr} (h : WinAt H O c v ws) (hp : H p = some (.lst [])) :
    ∃ (a : Addr) (l : List (Addr × (Nat × Nat))), v.getD (.ref p) = .ref a ∧ H a = some (.lst (l.map fun x => V.ref x.1)) ∧ ws = l.map (·.2) ∧ ∀ x ∈ l, H x.1 = some (.tup [nV x.2.1, nV x.2.2]) := by
  rcases h with ⟨rfl, rfl⟩ | ⟨a, ts, rfl, h1, h2, h3⟩
  · exact ⟨p, [], rfl, hp, rfl, fun _ h => by cases h⟩
  · obtain ⟨l, e1, e2, h4⟩ := paired_zip h3
    refine ⟨a, l, rfl, ?_, e2, fun x hx => (h4 x hx).1⟩
    rw [h1, e1, List.map_map]
    rfl
def spWithin (t : Ad) : Sp := fun vs H Q _ => ∃ (q : Addr) (s : State) (O : Own) (D : Ads) (n c m : Nat), vs = [.ref q, nV c, nV m] ∧ Rp t H q s O D n ∧ ∀ H', Same H H' → Q (.bl (Vamrqg.openAt s c m)) H'
theorem ok_is_within_hours (T : Txt K mg t) : FnOk P w K mg base CX0 2 t.f_is_within_hours t.d_is_within_hours ["queue", "group", "time"] (spWithin t) := by
  refine T.F_is_within_hours.ok sc_is_within_hours (fun vs H Q E h => ?_) (fun cdv A outer s H vs Q E hr h => ?_)
  · obtain ⟨q, s, O, D, n, c, m, rfl, _⟩ := h
    rfl
  · obtain ⟨q, s, O, D, n, c, m, rfl, R, k⟩ := h
    have hu := hu_of hr
    refine ⟨_, (pss_cons (ps_set (i := 3) sc_is_within_hours.nd rfl (Or.inl rfl) (pe_dget2 hu (pe_fldK (K := K) (pv 0)) (pv 1) (pe_lst pa_nil) ⟨rfl, rfl, rfl, rfl⟩))
      (pss_cons (ps_set (i := 4) sc_is_within_hours.nd rfl (Or.inr rfl) (pe_op op_mod (pv 2) (pe_fldK (K := K) (pv 0))))
      (pss_one (ps_ret (pe_or (pe_cmpR op_eq (pe_callB (call_len_seqK (K := K)) (by rfl) T.z_len PySem.boot_len (pa_cons (pv 3) pa_nil)) pe_int (nomark _)) (pe_one (pe_callB (cr_anyK (K := K)) (by rfl) T.z_any PyProof.Rows.boot_any (pa_cons (pe_lc rfl sc_is_within_hours.nd (pi_listK (K := K) (pv 3)) (own := [("pair", 5)]) (blkOk_by (by show blkC ["queue", "group", "time", "pairs", "hour", "pair"] (defScope s_is_within_hours) _ _ = true; decide +kernel)) (fun _ _ _ _ _ => pg_name (i := 5) sc_is_within_hours.nd rfl (Or.inl rfl)) (fun _ _ _ _ _ => pts_nil) (fun _ _ _ _ _ => (pe_chain op_le op_lt (pe_ix (ix_tupK (K := K)) (pv 5) pe_int (fun _ _ => rfl)) (pv 4) (pe_ix (ix_tupK (K := K)) (pv 5) pe_int (fun _ _ => rfl))))) pa_nil)))))))), ?_⟩
    refine ⟨_, rfl, _, _, _, _, _, rfl, R.ob, T.k_Queue, T.n_Queue_windows, rfl, D.aW, rfl, .inl ⟨_, .inl R.oW⟩, _, rfl, Nat.zero_le _, fun p hp => ?_⟩
    have s1 : Same H (upd H p (.lst [])) := Same.new hp
    have R1 := R.same s1
    refine ⟨_, DGet.k (k := Sum.inl (c : Int)) R1.oW, ?_⟩
    obtain ⟨a, l, ea, ha, ew, hl⟩ := win_get (R1.win c) (upd_same : (upd H p (.lst [])) p = _)
    rw [ea]
    -- hour = time % queue.day
    refine ⟨_, rfl, _, rfl, _, _, _, _, _, rfl, R1.ob, T.k_Queue, T.n_Queue_day, rfl, _, _, rfl, rfl, (by have := R.good.day.1; omega), ?_⟩
    -- len(pairs) == 0
    refine ⟨_, rfl, a, _, rfl, .inl (SqL.of ha), rfl, _, rfl, ?_⟩
    have hday : ((m : Int) % (s.day : Int)) = ((m % s.day : Nat) : Int) := by omega
    have hop : Vamrqg.openAt s c m = ((windowsOf s c).isEmpty || (windowsOf s c).any fun w => decide (w.1 ≤ m % s.day) && decide (m % s.day < w.2)) := rfl
    by_cases c0 : l = []
    · subst c0
      refine iteT ?_
      have q := k _ s1
      rw [hop, ew] at q
      exact q
    · have : ¬ ((V.int ((l.map fun x => V.ref x.1).length : Int)) = V.int 0) := by
        intro z
        have z1 := V.int.inj z
        rw [List.length_map] at z1
        exact c0 (List.eq_nil_of_length_eq_zero (by omega))
      rw [decide_eq_false this]
      refine iteF ?_
      refine ⟨_, rfl, a, rfl, ⟨_, SqL.of ha⟩, fun E1 hE => ?_⟩
      refine lc_reads (l := l) (val := fun x => V.ref x.1) (p := fun _ => true) (g := fun x => V.bl (decide ((x.2.1 : Int) ≤ (m : Int) % (s.day : Int)) && decide ((m : Int) % (s.day : Int) < (x.2.2 : Int)))) hE (SqL.of ha) ?_ (fun _ _ => rfl) (fun x hx H2 s2 Q2 k2 => k2 H2 (Same.refl H2)) (fun x hx _ H2 s2 Q2 k2 => ?_) (fun H2 s2 h2 => ?_)
      · have := (R.good.wns c).1
        rw [ew, List.length_map] at this
        exact Nat.lt_of_le_of_lt this (by decide)
      · have ht := s2 _ _ (hl x hx)
        refine ⟨_, rfl, _, _, _, _, rfl, rfl, SqT.of ht, rfl, _, rfl, _, _, rfl, rfl, _, rfl, ?_⟩
        refine ite2 (fun c1 => ?_) (fun c1 => ?_)
        · refine ⟨_, rfl, _, _, _, _, rfl, rfl, SqT.of ht, rfl, _, _, rfl, rfl, ?_⟩
          have q := k2 H2 (Same.refl H2)
          rw [c1, Bool.true_and] at q
          exact q
        · have q := k2 H2 (Same.refl H2)
          rw [Bool.not_eq_true] at c1
          rw [c1, Bool.false_and] at q
          exact q
      · refine ⟨E1, l.map (fun x => decide ((x.2.1 : Int) ≤ (m : Int) % (s.day : Int)) && decide ((m : Int) % (s.day : Int) < (x.2.2 : Int))), rfl, SqL.of ?_, ?_⟩
        · rw [h2, List.filter_eq_self.mpr (fun _ _ => rfl), List.map_map]
          rfl
        · have q := k _ (s1.trans s2)
          rw [hop, ew] at q
          have e1 : (l.map (·.2)).isEmpty = false := by
            cases l with
            | nil => exact absurd rfl c0
            | cons _ _ => rfl
          rw [e1, Bool.false_or, List.any_map] at q
          rw [List.any_map]
          have e2 : (fun x : Addr × (Nat × Nat) => decide ((x.2.1 : Int) ≤ (m : Int) % (s.day : Int)) && decide ((m : Int) % (s.day : Int) < (x.2.2 : Int))) = fun x => decide (x.2.1 ≤ m % s.day) && decide (m % s.day < x.2.2) := by
            funext x
            rw [hday]
            simp only [Int.ofNat_le, Int.ofNat_lt]
          show Q (.bl (l.any (id ∘ fun x => decide ((x.2.1 : Int) ≤ (m : Int) % (s.day : Int)) && decide ((m : Int) % (s.day : Int) < (x.2.2 : Int))))) H2
          rw [Function.id_comp, e2]
          exact q

theorem endI_nat (s : State) (i : Nat) : endI s (i : Int) = endOf s i := by
  unfold endI
  rw [if_pos (Int.natCast_nonneg i)]
  rfl
theorem landed_eq (s : State) (i : Nat) : decide ((((endI s (i : Int)).map fun e => V.int (endN e)).getD .non) = V.int 7) = Vamrqg.isLanded s i := by
  rw [endI_nat]
  unfold Vamrqg.isLanded
  cases endOf s i with
  | none => rfl
  | some e => cases e <;> rfl
/-- the dict may be locked -/
def spLanded (t : Ad) : Sp := fun vs H Q _ => ∃ (q dq aE : Addr) (fs : List (Str × V)) (kE : List (Key × V)) (s : State) (i : Nat), vs = [.ref q, nV i] ∧ H q = some (.ins t.c_Queue dq fs) ∧ fs.lookup ("ended" : Str) = some (.ref aE) ∧ (H aE = some (.dK kE) ∨ ∃ o, H aE = some (.frz o (.dK kE))) ∧
  valV kE (Sum.inl (i : Int)) = ((endI s (i : Int)).map fun e => V.int (endN e)) ∧ ∀ H', Same H H' → Q (.bl (Vamrqg.isLanded s i)) H'
theorem ok_has_landed (T : Txt K mg t) : FnOk P w K mg base CX0 2 t.f_has_landed t.d_has_landed ["queue", "number"] (spLanded t) := by
  refine T.F_has_landed.ok sc_has_landed (fun vs H Q E h => ?_) (fun cdv A outer s H vs Q E hr h => ?_)
  · obtain ⟨q, dq, aE, fs, kE, s, i, rfl, _⟩ := h
    rfl
  · obtain ⟨q, dq, aE, fs, kE, s, i, rfl, ho, hl, hE, hv, k⟩ := h
    have hu := hu_of hr
    refine ⟨_, (pss_one (ps_ret (pe_cmpR op_eq (pe_dget1 hu (pe_fldK (K := K) (pv 0)) (pv 1) ⟨rfl, rfl, rfl, rfl⟩) (pe_gint rfl T.v_LANDED) (nomark _)))), ?_⟩
    refine ⟨_, rfl, _, _, _, _, _, rfl, ho, T.k_Queue, T.n_Queue_ended, hl, aE, rfl, .inl ⟨_, hE⟩, _, rfl, valV kE (Sum.inl (i : Int)), .inl ⟨kE, Sum.inl (i : Int), hE, rfl, rfl⟩, ?_⟩
    rw [hv]
    refine ⟨?_, ?_⟩
    · cases endI s (i : Int) <;> rfl
    · rw [landed_eq]
      exact k H (Same.refl H)
theorem landed_in {H : Hp} {q : Addr} {s : State} {O : Own} {D : Ads} {n i : Nat} {Q : VK} {E : XK} (R : Rp t H q s O D n) (k : ∀ H', Same H H' → Q (.bl (Vamrqg.isLanded s i)) H') : spLanded t [.ref q, nV i] H Q E :=
  ⟨q, _, D.aE, _, D.kE, s, i, rfl, R.ob, rfl, .inl R.oE, R.end_ _, k⟩

def spReady (t : Ad) : Sp := fun vs H Q _ => ∃ (q : Addr) (s : State) (O : Own) (D : Ads) (n : Nat) (x : Item), vs = [.ref q, .ref (D.ia x.id)] ∧ Rp t H q s O D n ∧ x ∈ s.waiting ++ s.running ∧ ∀ H', Same H H' → Q (.bl (Vamrqg.ready s x)) H'
theorem ok_is_ready (T : Txt K mg t) : FnOk P w K mg base CX0 3 t.f_is_ready t.d_is_ready ["queue", "item"] (spReady t) := by
  refine T.F_is_ready.ok sc_is_ready (fun vs H Q E h => ?_) (fun cdv A outer s H vs Q E hr h => ?_)
  · obtain ⟨q, s, O, D, n, x, rfl, _⟩ := h
    rfl
  · obtain ⟨q, s, O, D, n, x, rfl, R, hx, k⟩ := h
    have hu := hu_of hr
    refine ⟨_, (pss_cons (ps_if (PW.pt (pw_or (pt_val (pe_call (ok_is_frozen T) (hr.mono (by decide)) rfl T.g_is_frozen T.F_is_frozen.kp T.b_is_frozen .nil pass0 (pa_cons (pv 0) (pa_cons (pe_fldK (K := K) (pv 1)) pa_nil)))) (pw_or1 (pt_not (pt_val (pe_call (ok_is_within_hours T) (hr.mono (by decide)) rfl T.g_is_within_hours T.F_is_within_hours.kp T.b_is_within_hours .nil pass0 (pa_cons (pv 0) (pa_cons (pe_fldK (K := K) (pv 1)) (pa_cons (pe_fldK (K := K) (pv 0)) pa_nil))))))))) (pss_one (ps_ret pe_bl)) pss_nil)
      (pss_one (ps_ret (pe_callB (cr_allK (K := K)) (by rfl) T.z_all PyProof.Rows.boot_all (pa_cons (pe_lc rfl sc_is_ready.nd (pi_listK (K := K) (pe_fldK (K := K) (pv 1))) (own := [("need", 2)]) (blkOk_by (by show blkC ["queue", "item", "need"] (defScope s_is_ready) _ _ = true; decide +kernel)) (fun _ _ _ _ _ => pg_name (i := 2) sc_is_ready.nd rfl (Or.inl rfl)) (fun _ _ _ _ _ => pts_nil) (fun _ _ _ _ _ => (pe_call (ok_has_landed T) (hr.mono (by decide)) rfl T.g_has_landed T.F_has_landed.kp T.b_has_landed .nil pass0 (pa_cons (pv 0) (pa_cons (pv 2) pa_nil))))) pa_nil))))), ?_⟩
    have I := R.item x hx
    refine ⟨_, rfl, ⟨_, rfl, _, _, _, _, _, rfl, I.ob, T.k_Item, T.n_Item_group, rfl, q, s, O, D, n, x.cls, rfl, R, fun H1 s1 => ⟨_, rfl, ?_⟩⟩⟩
    have hready : Vamrqg.ready s x = (!Vamrqg.isFrozen s x.cls && Vamrqg.openAt s x.cls s.time && x.needs.all (Vamrqg.isLanded s)) := rfl
    cases hf : Vamrqg.isFrozen s x.cls with
    | true =>
      refine iteT (iteT ?_)
      have z := k H1 s1
      rw [hready, hf] at z
      exact z
    | false =>
      refine iteF ?_
      have R1 := R.same s1
      have I1 := R1.item x hx
      refine ⟨_, rfl, ⟨_, rfl, _, _, _, _, _, rfl, I1.ob, T.k_Item, T.n_Item_group, rfl, _, rfl, _, _, _, _, _, rfl, R1.ob, T.k_Queue, T.n_Queue_time, rfl, q, s, O, D, n, x.cls, s.time, rfl, R1, fun H2 s2 => ⟨_, rfl, ?_⟩⟩⟩
      have s12 := s1.trans s2
      cases ho : Vamrqg.openAt s x.cls s.time with
      | false =>
        refine iteT ?_
        have z := k H2 s12
        rw [hready, hf, ho] at z
        exact z
      | true =>
        refine iteF ?_
        have R2 := R1.same s2
        have I2 := R2.item x hx
        refine ⟨_, rfl, _, _, _, _, _, rfl, I2.ob, T.k_Item, T.n_Item_needs, rfl, D.na x.id, rfl, ⟨_, SqL.of I2.nd⟩, fun E1 hE => ?_⟩
        refine lc_reads (l := x.needs) (val := nV) (p := fun _ => true) (g := fun i => V.bl (Vamrqg.isLanded s i)) hE (SqL.of I2.nd) ?_ (fun _ _ => rfl) (fun x hx H2 s2 Q2 k2 => k2 H2 (Same.refl H2)) (fun i hi _ H3 s3 Q2 k2 => ?_) (fun H3 s3 h3 => ?_)
        · exact Nat.lt_of_le_of_lt (R.good.its x hx).2.2.2 (by decide)
        · exact ⟨_, rfl, _, rfl, landed_in (E := E) (R2.same s3) fun H4 s4 => k2 H4 s4⟩
        · refine ⟨E1, x.needs.map (Vamrqg.isLanded s), rfl, SqL.of ?_, ?_⟩
          · rw [h3, List.filter_eq_self.mpr (fun _ _ => rfl), List.map_map]
            rfl
          · have z := k H3 (s12.trans s3)
            rw [hready, hf, ho] at z
            rw [List.all_map, Function.id_comp]
            exact z

theorem kno_of {cQ cI : Addr} {H : Hp} {q : Addr} {s : State} {O : Own} {D : Ads} {n : Nat} (R : Rep cQ cI H q s O D n) {x : Item} (hx : x ∈ s.waiting ++ s.running) : valV D.kK (Sum.inl (x.id : Int)) = some (.ref (D.ia x.id)) := by
  have hk : knI s (x.id : Int) = true := by
    unfold knI
    rw [decide_eq_true (Int.natCast_nonneg x.id), Bool.true_and]
    refine (known_iff x.id).mpr ?_
    rcases List.mem_append.mp hx with z | z
    · exact .inl (mem_ids z)
    · exact .inr (.inl (mem_ids z))
  rw [R.kno, if_pos hk]
  rfl
def readyL (s : State) : List Item := s.waiting.filter (Vamrqg.ready s)
theorem readyL_in {s : State} {x : Item} (h : x ∈ readyL s) : x ∈ s.waiting ++ s.running := List.mem_append_left _ (List.mem_filter.mp h).1
theorem readyL_len {s : State} (g : Good s) : (readyL s).length ≤ 40 := Nat.le_trans (List.length_filter_le _ _) (by have := g.few; omega)
/-- a new list of items comes out -/
def spReadyItems (t : Ad) : Sp := fun vs H Q _ => ∃ (q : Addr) (s : State) (O : Own) (D : Ads) (n : Nat), vs = [.ref q] ∧ Rp t H q s O D n ∧
  ∀ (H' : Hp) (p : Addr), Same H H' → H p = none → H' p = some (.lst ((readyL s).map fun x => V.ref (D.ia x.id))) → Q (.ref p) H'
theorem ok_ready_items (T : Txt K mg t) : FnOk P w K mg base CX0 4 t.f_ready_items t.d_ready_items ["queue"] (spReadyItems t) := by
  refine T.F_ready_items.ok sc_ready_items (fun vs H Q E h => ?_) (fun cdv A outer s H vs Q E hr h => ?_)
  · obtain ⟨q, s, O, D, n, rfl, _⟩ := h
    rfl
  · obtain ⟨q, s, O, D, n, rfl, R, k⟩ := h
    have hu := hu_of hr
    refine ⟨_, (pss_cons (ps_setLc (i := 1) rfl sc_ready_items.nd rfl rfl (sw_true rfl rfl rfl rfl) (pi_listK (K := K) (pe_fldK (K := K) (pv 0))) (own := [("number", 2)]) (blkOk_by (by show blkC ["queue", "items", "number", "item"] (defScope s_ready_items) _ _ = true; decide +kernel)) (fun _ _ _ _ _ => pg_name (i := 2) sc_ready_items.nd rfl (Or.inl rfl)) (fun _ _ _ _ _ => pts_nil) (fun _ _ _ _ _ => (pe_dget hu (pe_fldK (K := K) (pv 0)) (pv 2) (fun _ _ => rfl))))
      (pss_one (ps_ret (pe_lc rfl sc_ready_items.nd (pi_listK (K := K) (pv 1)) (own := [("item", 3)]) (blkOk_by (by show blkC ["queue", "items", "number", "item"] (defScope s_ready_items) _ _ = true; decide +kernel)) (fun _ _ _ _ _ => pg_name (i := 3) sc_ready_items.nd rfl (Or.inl rfl)) (fun _ _ _ _ _ => (pts_one (pt_val (pe_call (ok_is_ready T) (hr.mono (by decide)) rfl T.g_is_ready T.F_is_ready.kp T.b_is_ready .nil pass0 (pa_cons (pv 0) (pa_cons (pv 3) pa_nil)))))) (fun _ _ _ _ _ => (pv 3)))))), ?_⟩
    have hW : H D.aWt = some (.lst (s.waiting.map fun x => nV x.id)) := by
      rw [R.oWt, idsOf, List.map_map]
      rfl
    have hlen : s.waiting.length < sizeLine := Nat.lt_of_le_of_lt (by have := R.good.few; omega : s.waiting.length ≤ 40) (by decide)
    refine ⟨_, rfl, _, _, _, _, _, rfl, R.ob, T.k_Queue, T.n_Queue_waiting, rfl, D.aWt, rfl, ⟨_, SqL.of R.oWt⟩, fun E1 hE => ?_⟩
    refine lc_reads (l := s.waiting) (val := fun x => nV x.id) (p := fun _ => true) (g := fun x => V.ref (D.ia x.id)) hE (SqL.of hW) hlen (fun _ _ => rfl) (fun x hx H2 s2 Q2 k2 => k2 H2 (Same.refl H2)) (fun x hx _ H2 s2 Q2 k2 => ?_) (fun H2 s2 h2 => ?_)
    · have R2 := R.same s2
      refine ⟨_, rfl, _, _, _, _, _, rfl, R2.ob, T.k_Queue, T.n_Queue_known, rfl, _, rfl, D.aK, V.ref (D.ia x.id), rfl, ?_, k2 H2 (Same.refl H2)⟩
      have g := DGet.k (k := Sum.inl (x.id : Int)) R2.oK
      rw [kno_of R2 (List.mem_append_left _ hx)] at g
      exact g
    · rw [List.filter_eq_self.mpr (fun _ _ => rfl)] at h2
      have R2 := R.same s2
      refine ⟨_, rfl, E1, rfl, ⟨_, SqL.of h2⟩, fun E2 hE2 => ?_⟩
      refine lc_reads (l := s.waiting) (val := fun x => V.ref (D.ia x.id)) (p := Vamrqg.ready s) (g := fun x => V.ref (D.ia x.id)) hE2 (SqL.of h2) hlen (fun _ _ => rfl) (fun x hx H3 s3 Q3 k3 => ?_) (fun x hx _ H3 s3 Q3 k3 => ⟨_, rfl, k3 H3 (Same.refl H3)⟩) (fun H3 s3 h3 => ?_)
      · exact ⟨_, rfl, _, rfl, q, s, O, D, n, x, rfl, R2.same s3, List.mem_append_left _ hx, fun H4 s4 => ⟨_, rfl, k3 H4 s4⟩⟩
      · exact k H3 E2 (s2.trans s3) (s2.free hE2) h3
end
end Ag

/-! The order: a stable sort by a key; who is passed. -/
set_option Elab.async false
set_option linter.all false
set_option maxRecDepth 100000
set_option maxHeartbeats 4000000
namespace Ag
open PySem PySem.Spec PyProof.Rows L2
open Vamrqg (State Item idsOf windowsOf endOf known)
section
variable {P : Program} {w : World} {K : PySem.W.Frag} {mg : Str → Option Value} {base : Heap} {t : Ad}
theorem dp_of {A : Around} {k : Nat} (hr : Room k A) : A.depth + 5 < recursionLimit := Nat.lt_of_le_of_lt (by omega) hr.dp
/-- an item's key -/
def keyR (t : Ad) : V → Int → Hp → Prop := fun v k H => ∃ (a dx : Addr) (x : Item) (n : Addr), v = .ref a ∧ H a = some (.ins t.c_Item dx (fI x n)) ∧ k = pkey x
theorem key_lower_for_greater_prio (T : Txt K mg t) : KeyOk P w K t.f_lower_for_greater_prio (keyR t) := by
  intro A s H x v k KX hlim hok hdp rv h
  obtain ⟨a, dx, y, n, rfl, ha, rfl⟩ := h
  cases rv
  obtain ⟨oc, od, kV, doc, pm, an, cdv, ct, osl, e, lk, hcd⟩ := T.F_lower_for_greater_prio.ex
  rw [e] at lk
  refine wpAny_call (Att.call_fn (binds := [("item", .ref a)]) KX hlim lk hcd hdp (.of_eq rfl) rfl (fun s₁ x₁ => ?_) rfl rfl rfl)
  have keep := x₁.toInCall.keep
  obtain ⟨mA, O, r, _, _, _⟩ := ins_get (hok.kept keep) ha
  obtain ⟨u, hu, ru⟩ := RelO.some_of (v := nV y.prio) (o := mA "prio") (by
    have := r "prio"
    rw [show (fI y n).lookup ("prio" : Str) = some (nV y.prio) from rfl] at this
    exact this)
  obtain ⟨tk, rfl⟩ := ru
  refine wpAny_execs_cons (wpAny_Return_some (UnaryOp_ (attr_of rfl (wpAny_Name (wpAny_loadName_local rfl rfl x₁.toInCall.ns rfl ?_)))))
  refine get_map (KX.keeps keep) O (T.k_Item.get _) T.k_Item.hd T.n_Item_prio hu rfl ?_
  refine neg_int ?_
  obtain ⟨h', tk', e1, k1⟩ := x₁.done
  subst e1
  exact ⟨h', _, _, rfl, rfl, k1⟩

theorem urgent_ge (s : State) (x : Item) : decide ((s.limit : Int) ≤ (x.passed : Int)) = Vamrqg.urgent s x := by
  unfold Vamrqg.urgent
  rw [Bool.eq_iff_iff]
  simp
theorem urgent_lt (s : State) (x : Item) : decide ((x.passed : Int) < (s.limit : Int)) = !Vamrqg.urgent s x := by
  unfold Vamrqg.urgent
  rw [Bool.eq_iff_iff]
  simp
/-- the key of an item by its address -/
def keyAt (D : Ads) (l : List Item) (v : V) : Int := match l.find? (fun x => decide (V.ref (D.ia x.id) = v)) with
  | some x => pkey x
  | none => 0
theorem fI_inj {x y : Item} {n m : Addr} (h : fI x n = fI y m) : x.id = y.id ∧ x.prio = y.prio := by
  unfold fI at h
  simp only [List.cons.injEq, Prod.mk.injEq, V.int.injEq, true_and] at h
  exact ⟨by omega, by omega⟩
theorem keyAt_eq {cI : Addr} {H : Hp} {O : Own} {D : Ads} {l : List Item} (hI : ∀ x ∈ l, ItemAt cI H O D x) {x : Item} (hx : x ∈ l) : keyAt D l (.ref (D.ia x.id)) = pkey x := by
  unfold keyAt
  cases e : l.find? (fun y => decide (V.ref (D.ia y.id) = V.ref (D.ia x.id))) with
  | none =>
    have := List.find?_eq_none.mp e x hx
    simp at this
  | some y =>
    have h1 := List.find?_some e
    have h2 := List.mem_of_find?_eq_some e
    have h3 : D.ia y.id = D.ia x.id := by
      have := of_decide_eq_true h1
      injection this
    have a := (hI y h2).ob
    have b := (hI x hx).ob
    rw [h3, b] at a
    have a' := Option.some.inj a
    injection a' with _ _ a3
    show pkey y = pkey x
    unfold pkey
    rw [(fI_inj a3).2]
def refs (D : Ads) (l : List Item) : List V := l.map fun x => V.ref (D.ia x.id)
def spInOrder (t : Ad) : Sp := fun vs H Q _ => ∃ (q a : Addr) (s : State) (O : Own) (D : Ads) (n : Nat), vs = [.ref a, nV s.limit] ∧ Rp t H q s O D n ∧ H a = some (.lst (refs D (readyL s))) ∧
  ∀ (H' : Hp) (p : Addr), Same H H' → H p = none → H' p = some (.lst (refs D (Vamrqg.order s))) → Q (.ref p) H'
theorem ok_in_order (T : Txt K mg t) : FnOk P w K mg base CX0 4 t.f_in_order t.d_in_order ["items", "limit"] (spInOrder t) := by
  refine T.F_in_order.ok sc_in_order (fun vs H Q E h => ?_) (fun cdv A outer s H vs Q E hr h => ?_)
  · obtain ⟨q, a, s, O, D, n, rfl, _⟩ := h
    rfl
  · obtain ⟨q, a, s, O, D, n, rfl, R, ha, k⟩ := h
    have hu := hu_of hr
    refine ⟨_, (pss_cons (ps_setLc (i := 2) rfl sc_in_order.nd rfl rfl (sw_true rfl rfl rfl rfl) (pi_listK (K := K) (pv 0)) (own := [("item", 3)]) (blkOk_by (by show blkC ["items", "limit", "overdue", "item", "others"] (defScope s_in_order) _ _ = true; decide +kernel)) (fun _ _ _ _ _ => pg_name (i := 3) sc_in_order.nd rfl (Or.inl rfl)) (fun _ _ _ _ _ => (pts_one (pt_cmpR op_ge (pe_fldK (K := K) (pv 3)) (pv 1) (nomark _)))) (fun _ _ _ _ _ => (pv 3)))
      (pss_cons (ps_setLc (i := 4) rfl sc_in_order.nd rfl rfl (sw_true rfl rfl rfl rfl) (pi_listK (K := K) (pv 0)) (own := [("item", 3)]) (blkOk_by (by show blkC ["items", "limit", "overdue", "item", "others"] (defScope s_in_order) _ _ = true; decide +kernel)) (fun _ _ _ _ _ => pg_name (i := 3) sc_in_order.nd rfl (Or.inl rfl)) (fun _ _ _ _ _ => (pts_one (pt_cmpR op_lt (pe_fldK (K := K) (pv 3)) (pv 1) (nomark _)))) (fun _ _ _ _ _ => (pv 3)))
      (pss_one (ps_ret (pe_op op_cat (pv 2) (pe_sortedK (K := K) (key_lower_for_greater_prio T) (dp_of hr) rfl T.z_sorted rfl T.g_lower_for_greater_prio (pv 4))))))), ?_⟩
    have hlen : (readyL s).length < sizeLine := Nat.lt_of_le_of_lt (readyL_len R.good) (by decide)
    have hI : ∀ x ∈ readyL s, ItemAt t.c_Item H O D x := fun x hx => R.item x (readyL_in hx)
    refine ⟨_, rfl, a, rfl, ⟨_, SqL.of ha⟩, fun E1 hE => ?_⟩
    refine lc_reads (l := readyL s) (val := fun x => V.ref (D.ia x.id)) (p := Vamrqg.urgent s) (g := fun x => V.ref (D.ia x.id)) hE (SqL.of ha) hlen (fun _ _ => rfl) (fun x hx H2 s2 Q2 k2 => ?_) (fun x hx _ H2 s2 Q2 k2 => ⟨_, rfl, k2 H2 (Same.refl H2)⟩) (fun H2 s2 h2 => ?_)
    · refine ⟨_, rfl, _, _, _, _, _, rfl, ((hI x hx).same s2).ob, T.k_Item, T.n_Item_passed, rfl, _, rfl, _, _, rfl, rfl, _, rfl, ?_⟩
      rw [urgent_ge]
      exact k2 H2 (Same.refl H2)
    · refine ⟨_, rfl, a, rfl, ⟨_, SqL.of (s2 _ _ ha)⟩, fun E2 hE2 => ?_⟩
      refine lc_reads (l := readyL s) (val := fun x => V.ref (D.ia x.id)) (p := fun x => !Vamrqg.urgent s x) (g := fun x => V.ref (D.ia x.id)) hE2 (SqL.of (s2 _ _ ha)) hlen (fun _ _ => rfl) (fun x hx H3 s3 Q3 k3 => ?_) (fun x hx _ H3 s3 Q3 k3 => ⟨_, rfl, k3 H3 (Same.refl H3)⟩) (fun H3 s3 h3 => ?_)
      · refine ⟨_, rfl, _, _, _, _, _, rfl, ((hI x hx).same (s2.trans s3)).ob, T.k_Item, T.n_Item_passed, rfl, _, rfl, _, _, rfl, rfl, _, rfl, ?_⟩
        rw [urgent_lt]
        exact k3 H3 (Same.refl H3)
      · have s23 := s2.trans s3
        have hI3 : ∀ x ∈ (readyL s).filter (fun x => !Vamrqg.urgent s x), ItemAt t.c_Item H3 O D x := fun x hx => (hI x (List.mem_filter.mp hx).1).same s23
        refine ⟨_, rfl, _, rfl, _, rfl, E2, _, keyAt D ((readyL s).filter fun x => !Vamrqg.urgent s x), rfl, SqL.of h3, ?_, fun ys p hp hf hpn => ?_⟩
        · intro y hy
          obtain ⟨x, hx, rfl⟩ := List.mem_map.mp hy
          exact ⟨_, _, x, _, rfl, (hI3 x hx).ob, keyAt_eq hI3 hx⟩
        · obtain ⟨W, eo, pw, fw⟩ := order_split s
          have inW : ∀ x ∈ W, x ∈ (readyL s).filter fun x => !Vamrqg.urgent s x := fun x hx => by
            have : x ∈ W.filter (fun a => pkey a == pkey x) := List.mem_filter.mpr ⟨hx, by simp⟩
            rw [fw] at this
            exact (List.mem_filter.mp this).1
          have ey : ys = refs D W := by
            refine stable_unique (keyAt D ((readyL s).filter fun x => !Vamrqg.urgent s x)) ys (refs D W) hp ?_ fun z => ?_
            · refine List.pairwise_map.mpr (pw.imp_of_mem fun {x y} hx hy hxy => ?_)
              rw [keyAt_eq hI3 (inW x hx), keyAt_eq hI3 (inW y hy)]
              exact hxy
            · rw [hf z]
              have cg : ∀ l : List Item, (∀ x ∈ l, x ∈ (readyL s).filter fun x => !Vamrqg.urgent s x) → (l.map fun x => V.ref (D.ia x.id)).filter (fun y => keyAt D ((readyL s).filter fun x => !Vamrqg.urgent s x) y == z) = (l.filter fun a => pkey a == z).map fun x => V.ref (D.ia x.id) := by
                intro l hl
                rw [List.filter_map]
                refine congrArg _ (List.filter_congr fun x hx => ?_)
                show (keyAt D _ (V.ref (D.ia x.id)) == z) = _
                rw [keyAt_eq hI3 (hl x hx)]
              unfold refs
              rw [cg _ (fun _ h => h), cg W inW, fw z]
              rfl
          subst ey
          have hE1n : E1 ≠ p := ne_of_none (s3 _ _ h2) hpn
          refine ⟨E1, p, _, _, rfl, rfl, by rw [upd_ne hE1n]; exact s3 _ _ h2, upd_same, ?_, fun p2 hp2 => ?_⟩
          · have := congrArg List.length eo
            rw [List.length_append] at this
            have h1 := (order_perm s).length_eq
            have h2 := readyL_len R.good
            unfold readyL at h2
            unfold refs
            rw [List.length_map, List.length_map]
            refine Nat.le_trans ?_ (by decide : 40 ≤ sizeLine)
            unfold readyL
            omega
          · have hp2' : H3 p2 = none := (Same.new hpn).free hp2
            refine k _ p2 (fun b o hb => ?_) (s23.free hp2') ?_
            · rw [upd_ne (ne_of_none (s23 _ _ hb) hp2'), upd_ne (ne_of_none (s23 _ _ hb) hpn)]
              exact s23 _ _ hb
            · rw [upd_same, eo]
              unfold refs
              rw [List.map_append]
              rfl

abbrev Dn (t : Ad) := Done t.c_Queue t.c_Item
theorem order_len {s : State} (g : Good s) : (Vamrqg.order s).length ≤ 40 := by
  have h1 := (order_perm s).length_eq
  have h2 := readyL_len g
  unfold readyL at h2
  omega
/-- a new list of numbers comes out -/
def spNumbers (t : Ad) : Sp := fun vs H Q _ => ∃ (q : Addr) (s : State) (O : Own) (D : Ads) (n : Nat), vs = [.ref q] ∧ Rp t H q s O D n ∧
  ∀ (H' : Hp) (p : Addr), Same H H' → H p = none → H' p = some (.lst ((idsOf (Vamrqg.order s)).map nV)) → Q (.ref p) H'
theorem ok_numbers_in_order (T : Txt K mg t) : FnOk P w K mg base CX0 5 t.f_numbers_in_order t.d_numbers_in_order ["queue"] (spNumbers t) := by
  refine T.F_numbers_in_order.ok sc_numbers_in_order (fun vs H Q E h => ?_) (fun cdv A outer s H vs Q E hr h => ?_)
  · obtain ⟨q, s, O, D, n, rfl, _⟩ := h
    rfl
  · obtain ⟨q, s, O, D, n, rfl, R, k⟩ := h
    have hu := hu_of hr
    refine ⟨_, (pss_one (ps_ret (pe_lc rfl sc_numbers_in_order.nd (pi_listK (K := K) (pe_call (ok_in_order T) (hr.mono (by decide)) rfl T.g_in_order T.F_in_order.kp T.b_in_order .nil pass0 (pa_cons (pe_call (ok_ready_items T) (hr.mono (by decide)) rfl T.g_ready_items T.F_ready_items.kp T.b_ready_items .nil pass0 (pa_cons (pv 0) pa_nil)) (pa_cons (pe_fldK (K := K) (pv 0)) pa_nil)))) (own := [("item", 1)]) (blkOk_by (by show blkC ["queue", "item"] (defScope s_numbers_in_order) _ _ = true; decide +kernel)) (fun _ _ _ _ _ => pg_name (i := 1) sc_numbers_in_order.nd rfl (Or.inl rfl)) (fun _ _ _ _ _ => pts_nil) (fun _ _ _ _ _ => (pe_fldK (K := K) (pv 1)))))), ?_⟩
    refine ⟨_, rfl, q, s, O, D, n, rfl, R, fun H1 a s1 ha0 ha => ?_⟩
    have R1 := R.same s1
    refine ⟨_, rfl, _, _, _, _, _, rfl, R1.ob, T.k_Queue, T.n_Queue_limit, rfl, q, a, s, O, D, n, rfl, R1, ha, fun H2 b s2 hb0 hb => ?_⟩
    have s12 := s1.trans s2
    refine ⟨b, rfl, ⟨_, SqL.of hb⟩, fun E1 hE => ?_⟩
    refine lc_reads (l := Vamrqg.order s) (val := fun x => V.ref (D.ia x.id)) (p := fun _ => true) (g := fun x => nV x.id) hE (SqL.of hb) (Nat.lt_of_le_of_lt (order_len R.good) (by decide)) (fun _ _ => rfl) (fun x hx H2 s2 Q2 k2 => k2 H2 (Same.refl H2)) (fun x hx _ H3 s3 Q3 k3 => ?_) (fun H3 s3 h3 => ?_)
    · exact ⟨_, rfl, _, _, _, _, _, rfl, ((R.item x (List.mem_append_left _ (order_mem hx).1)).same (s12.trans s3)).ob, T.k_Item, T.n_Item_number, rfl, k3 H3 (Same.refl H3)⟩
    · rw [List.filter_eq_self.mpr (fun _ _ => rfl)] at h3
      refine k _ E1 (s12.trans s3) (s12.free hE) ?_
      rw [h3, idsOf, List.map_map]
      rfl
def spOrder (t : Ad) : Sp := fun vs H Q _ => ∃ (q : Addr) (s : State) (O : Own) (D : Ads) (n : Nat), vs = [.ref q] ∧ Rp t H q s O D n ∧ Dn t H q s O n .order Q
theorem ok_order (T : Txt K mg t) : FnOk P w K mg base CX0 6 t.f_order t.d_order ["queue"] (spOrder t) := by
  refine T.F_order.ok sc_order (fun vs H Q E h => ?_) (fun cdv A outer s H vs Q E hr h => ?_)
  · obtain ⟨q, s, O, D, n, rfl, _⟩ := h
    rfl
  · obtain ⟨q, s, O, D, n, rfl, R, k⟩ := h
    have hu := hu_of hr
    refine ⟨_, (pss_cons (ps_set (i := 1) sc_order.nd rfl (Or.inl rfl) (pe_call (ok_numbers_in_order T) (hr.mono (by decide)) rfl T.g_numbers_in_order T.F_numbers_in_order.kp T.b_numbers_in_order .nil pass0 (pa_cons (pv 0) pa_nil)))
      (pss_one (ps_ret (pe_op op_cat (pe_lst (pa_cons (pe_callB (call_len_seqK (K := K)) (by rfl) T.z_len PySem.boot_len (pa_cons (pv 1) pa_nil)) pa_nil)) (pv 1))))), ?_⟩
    refine ⟨_, rfl, q, s, O, D, n, rfl, R, fun H1 a s1 ha0 ha => ?_⟩
    refine ⟨_, rfl, a, _, rfl, .inl (SqL.of ha), (by show 1 ≤ sizeLine; decide), fun c hc => ?_⟩
    have sc := Same.new (o := .lst [V.int (((idsOf (Vamrqg.order s)).map nV).length : Int)]) hc
    refine ⟨_, rfl, c, a, _, _, rfl, rfl, upd_same, sc _ _ ha, ?_, fun p hp => ?_⟩
    · rw [List.length_map, idsOf, List.length_map]
      exact Nat.le_trans (Nat.add_le_add_left (order_len R.good) 1) (by decide)
    · have sf := s1.trans sc
      refine k.told R rfl (sf.after (sf.free hp)) (sf.free hp) ?_
      rw [upd_same]
      unfold Vamrqg.listed
      rw [List.map_cons, List.map_map, List.length_map]
      rfl
end
end Ag

/-! Who is passed; a batch served. -/
set_option Elab.async false
set_option linter.all false
set_option maxRecDepth 100000
set_option maxHeartbeats 4000000
namespace Ag
open PySem PySem.Spec PyProof.Rows L2
open Vamrqg (State Item idsOf windowsOf endOf known)
section
variable {P : Program} {w : World} {K : PySem.W.Frag} {mg : Str → Option Value} {base : Heap} {t : Ad}
def Its (C : Addr) (H : Hp) (D : Ads) (l : List Item) : Prop := ∀ y ∈ l, H (D.ia y.id) = some (.ins C (D.di y.id) (fI y (D.na y.id)))
theorem Its.ne {C : Addr} {H : Hp} {D : Ads} {l : List Item} (h : Its C H D l) {x y : Item} (hx : x ∈ l) (hy : y ∈ l) (n : x.id ≠ y.id) : D.ia x.id ≠ D.ia y.id := fun e => by
  have a := h x hx
  have b := h y hy
  rw [e, b] at a
  have a' := Option.some.inj a
  injection a' with _ _ a3
  exact n (fI_inj a3).1.symm
theorem inV_ids (i : Nat) (ids : List Nat) : inV (nV i) (ids.map nV) = decide (i ∈ ids) := by
  unfold inV
  rw [List.any_map, Bool.eq_iff_iff, List.any_eq_true, decide_eq_true_eq]
  constructor
  · rintro ⟨j, hj, e⟩
    have e' : ((j : Int) == (i : Int)) = true := e
    have : (j : Int) = (i : Int) := by simpa using e'
    have : j = i := by omega
    subst this
    exact hj
  · intro h
    exact ⟨i, h, by show ((i : Int) == (i : Int)) = true; simp⟩
theorem flat_ids (ids : List Nat) : (ids.map nV).all flatV = true := by
  rw [List.all_map, List.all_eq_true]
  intro i _
  rfl
theorem drop_cons {α : Type} {r : List α} {j : Nat} {x : α} (h : r[j]? = some x) : r.drop j = x :: r.drop (j + 1) := by
  obtain ⟨hj, e⟩ := List.getElem?_eq_some_iff.mp h
  rw [← List.getElem_cons_drop hj, e]
def spPassed (t : Ad) : Sp := fun vs H Q _ => ∃ (a b : Addr) (r : List Item) (ids : List Nat) (D : Ads), vs = [.ref a, .ref b] ∧ Its t.c_Item H D r ∧ (idsOf r).Nodup ∧ H a = some (.lst (refs D r)) ∧ H b = some (.lst (ids.map nV)) ∧
  ∀ H' : Hp, (∀ (pre : List Item) (x : Item) (post : List Item), r = pre ++ x :: post → H' (D.ia x.id) = some (.ins t.c_Item (D.di x.id) (fI (pas1 (fun i => decide (i ∈ ids)) x post) (D.na x.id)))) →
    (∀ c, (∀ x ∈ r, c ≠ D.ia x.id) → H' c = H c) → Q .non H'
theorem ok_count_passed (T : Txt K mg t) : FnOk P w K mg base CX0 2 t.f_count_passed t.d_count_passed ["ready", "served"] (spPassed t) := by
  refine T.F_count_passed.ok sc_count_passed (fun vs H Q E h => ?_) (fun cdv A outer s H vs Q E hr h => ?_)
  · obtain ⟨a, b, r, ids, D, rfl, _⟩ := h
    rfl
  · obtain ⟨a, b, r, ids, D, rfl, hI, nd, ha, hb, k⟩ := h
    have hu := hu_of hr
    refine ⟨_, (pss_cons (ps_set (i := 2) sc_count_passed.nd rfl (Or.inl rfl) pe_bl)
      (pss_one (ps_for PassesOwn.never rfl (pi_reversedK (K := K) T.z_reversed (pa_cons (pv 0) pa_nil)) (pg_name (i := 3) sc_count_passed.nd rfl (Or.inl rfl)) (pss_one (ps_if (pt_cmpR (op_in_seqK (K := K)) (pe_fldK (K := K) (pv 3)) (pv 1) (by with_unfolding_all rfl)) (pss_one (ps_set (i := 2) sc_count_passed.nd rfl (Or.inl rfl) pe_bl)) (pss_one (ps_if (pt_val (pv 2)) (pss_one (ps_fldK (K := K) (pv 3) (pe_op op_add (pe_fldK (K := K) (pv 3)) pe_int))) pss_nil))))))), ?_⟩
    have nea : ∀ x ∈ r, a ≠ D.ia x.id := fun x hx => ne_of ha (hI x hx) (by intro z; cases z)
    have neb : ∀ x ∈ r, b ≠ D.ia x.id := fun x hx => ne_of hb (hI x hx) (by intro z; cases z)
    have hrl : (refs D r).length = r.length := by unfold refs; rw [List.length_map]
    refine ⟨_, rfl, a, _, rfl, SqL.of ha, ?_⟩
    refine for_rev (K := K) (a := a) (xs := refs D r) (fun i σ H' => i ≤ r.length ∧ (∃ v : Option V, σ = [some (.ref a), some (.ref b), some (.bl ((r.drop (r.length - i)).any fun y => decide (y.id ∈ ids))), v]) ∧
      Its t.c_Item H' D (r.take (r.length - i) ++ pas (fun i => decide (i ∈ ids)) (r.drop (r.length - i))) ∧ ∀ c, (∀ x ∈ r, c ≠ D.ia x.id) → H' c = H c) ?_ ?_ ?_ ?_
    · refine ⟨Nat.zero_le _, ⟨none, ?_⟩, ?_, fun _ _ => rfl⟩
      · rw [Nat.sub_zero, List.drop_length]
        rfl
      · rw [Nat.sub_zero, List.take_length, List.drop_length]
        show Its t.c_Item H D (r ++ [])
        rw [List.append_nil]
        exact hI
    · rintro i σ H' _ ⟨_, _, _, fr⟩
      exact SqL.of (by rw [fr a nea]; exact ha)
    · rintro i y σ H' hi hy ⟨hi2, ⟨v, rfl⟩, it, fr⟩
      rw [hrl] at hi hy
      unfold refs at hy
      rw [List.getElem?_map] at hy
      cases ex : r[r.length - 1 - i]? with
      | none => rw [ex] at hy; cases hy
      | some x =>
        rw [ex] at hy
        have ey : V.ref (D.ia x.id) = y := Option.some.inj hy
        subst ey
        have hx : x ∈ r := List.mem_of_getElem? ex
        have e1 : r.length - i = (r.length - 1 - i) + 1 := by omega
        have e2 : r.length - (i + 1) = r.length - 1 - i := by omega
        have dr : r.drop (r.length - 1 - i) = x :: r.drop (r.length - i) := by rw [e1]; exact drop_cons ex
        have tk : r.take (r.length - i) = r.take (r.length - 1 - i) ++ [x] := by rw [e1]; exact take_succ_map (β := V) ex
        rw [tk] at it
        have ox := it x (List.mem_append_left _ (List.mem_append_right _ (List.mem_singleton.mpr rfl)))
        have hb' : H' b = some (.lst (ids.map nV)) := by rw [fr b neb]; exact hb
        refine ⟨_, rfl, _, _, _, _, _, rfl, ox, T.k_Item, T.n_Item_number, rfl, _, rfl, b, _, rfl, .inl (SqL.of hb'), rfl, flat_ids ids, _, rfl, ?_⟩
        show if (if false = true then !inV (nV x.id) (ids.map nV) else inV (nV x.id) (ids.map nV)) = true then _ else _
        rw [if_neg Bool.false_ne_true, inV_ids]
        cases hs : decide (x.id ∈ ids) with
        | true =>
          refine iteT ⟨by omega, ⟨some (V.ref (D.ia x.id)), ?_⟩, ?_, fr⟩
          · rw [e2, dr, List.any_cons, hs, Bool.true_or]
            rfl
          · rw [e2, dr]
            have ep : pas1 (fun i => decide (i ∈ ids)) x (r.drop (r.length - i)) = x := by
              unfold pas1
              rw [if_pos hs]
            intro y hy
            refine it y ?_
            show y ∈ _
            rcases List.mem_append.mp hy with z | z
            · exact List.mem_append_left _ (List.mem_append_left _ z)
            · rcases List.mem_cons.mp (show y ∈ pas1 (fun i => decide (i ∈ ids)) x (r.drop (r.length - i)) :: pas (fun i => decide (i ∈ ids)) (r.drop (r.length - i)) from z) with z | z
              · rw [ep] at z
                exact List.mem_append_left _ (List.mem_append_right _ (List.mem_singleton.mpr z))
              · exact List.mem_append_right _ z
        | false =>
          refine iteF ⟨_, rfl, _, rfl, ?_⟩
          cases hf : (r.drop (r.length - i)).any (fun y => decide (y.id ∈ ids)) with
          | true =>
            refine iteT ⟨_, rfl, _, _, _, _, _, rfl, ox, T.k_Item, T.n_Item_passed, rfl, _, _, rfl, rfl, _, rfl, _, _, _, _, rfl, ox, T.k_Item, T.n_Item_passed, (by show 5 < 1000; decide), ?_⟩
            have ep : pas1 (fun i => decide (i ∈ ids)) x (r.drop (r.length - i)) = bump x := by
              unfold pas1
              rw [if_neg (show ¬ decide (x.id ∈ ids) = true by rw [hs]; exact Bool.false_ne_true), if_pos hf]
            refine ⟨by omega, ⟨some (V.ref (D.ia x.id)), ?_⟩, ?_, fun c hc => ?_⟩
            · rw [e2, dr, List.any_cons, hs, Bool.false_or, hf]
              rfl
            · rw [e2, dr]
              intro y hy
              have nd2 : (idsOf (r.take (r.length - 1 - i) ++ pas (fun i => decide (i ∈ ids)) (x :: r.drop (r.length - i)))).Nodup := by
                rw [ids_append, pas_ids, ← ids_append, ← dr, List.take_append_drop]
                exact nd
              by_cases eyx : y.id = x.id
              · have yb : y = bump x := by
                  refine ids_inj nd2 hy (List.mem_append_right _ ?_) eyx
                  rw [← ep]
                  exact List.mem_cons_self
                subst yb
                show (upd H' (D.ia x.id) _) (D.ia x.id) = _
                rw [upd_same]
                rfl
              · have hy2 : y ∈ (r.take (r.length - 1 - i) ++ [x]) ++ pas (fun i => decide (i ∈ ids)) (r.drop (r.length - i)) := by
                  rcases List.mem_append.mp hy with z | z
                  · exact List.mem_append_left _ (List.mem_append_left _ z)
                  · rcases List.mem_cons.mp (show y ∈ pas1 (fun i => decide (i ∈ ids)) x (r.drop (r.length - i)) :: pas (fun i => decide (i ∈ ids)) (r.drop (r.length - i)) from z) with z | z
                    · rw [ep] at z
                      rw [z] at eyx
                      exact absurd rfl eyx
                    · exact List.mem_append_right _ z
                rw [upd_ne (it.ne hy2 (List.mem_append_left _ (List.mem_append_right _ (List.mem_singleton.mpr rfl))) eyx)]
                exact it y hy2
            · rw [upd_ne (hc x hx)]
              exact fr c hc
          | false =>
            refine iteF ⟨by omega, ⟨some (V.ref (D.ia x.id)), ?_⟩, ?_, fr⟩
            · rw [e2, dr, List.any_cons, hs, Bool.false_or, hf]
              rfl
            · rw [e2, dr]
              have ep : pas1 (fun i => decide (i ∈ ids)) x (r.drop (r.length - i)) = x := by
                unfold pas1
                rw [if_neg (show ¬ decide (x.id ∈ ids) = true by rw [hs]; exact Bool.false_ne_true), if_neg (show ¬ ((r.drop (r.length - i)).any fun y => decide (y.id ∈ ids)) = true by rw [hf]; exact Bool.false_ne_true)]
              intro y hy
              refine it y ?_
              show y ∈ _
              rcases List.mem_append.mp hy with z | z
              · exact List.mem_append_left _ (List.mem_append_left _ z)
              · rcases List.mem_cons.mp (show y ∈ pas1 (fun i => decide (i ∈ ids)) x (r.drop (r.length - i)) :: pas (fun i => decide (i ∈ ids)) (r.drop (r.length - i)) from z) with z | z
                · rw [ep] at z
                  exact List.mem_append_left _ (List.mem_append_right _ (List.mem_singleton.mpr z))
                · exact List.mem_append_right _ z
    · rintro σ H' ⟨_, ⟨v, rfl⟩, it, fr⟩
      rw [hrl, Nat.sub_self, List.take_zero, List.drop_zero, List.nil_append] at it
      refine k H' (fun pre x post e => ?_) fr
      have := it (pas1 (fun i => decide (i ∈ ids)) x post) (by rw [e]; exact pas_mem _ pre x post)
      rw [pas1_id] at this
      exact this

theorem cut_take {xs : List V} {m : Nat} : cutV xs none (some (m : Int)) = xs.take m := by
  unfold cutV
  rw [HT.sIx_none, HT.sIx_nat, List.drop_zero, Nat.sub_zero]
  by_cases h : m ≤ xs.length
  · rw [Nat.min_eq_left h]
  · rw [Nat.min_eq_right (by omega), List.take_length, List.take_of_length_le (by omega)]
theorem serve_out {s : State} {m : Int} (h : 1 ≤ m ∧ m ≤ 40) : Vamrqg.outcome s (.serve m) = if 1000000 ≤ s.time then .error (-7) else .ok (Vamrqg.served s m.toNat, Vamrqg.listed (idsOf (Vamrqg.batchOf s m.toNat))) := by
  show Vamrqg.andThen (Vamrqg.ranged m 1 40) _ = _
  rw [ranged_ok h]
  rfl
theorem hasId_dec (b : List Item) : Vamrqg.hasId b = fun i => decide (i ∈ idsOf b) := by
  funext i
  rw [Bool.eq_iff_iff, hasId_iff, decide_eq_true_eq]
theorem served_ids (b l : List Item) : (l.filter fun x => !Vamrqg.hasId b x.id).map (fun x => nV x.id) = ((idsOf l).filter fun i => !Vamrqg.hasId b i).map nV := by
  rw [← ids_filter (fun i => !Vamrqg.hasId b i) l, idsOf, List.map_map]
  rfl
def spServe (t : Ad) : Sp := fun vs H Q _ => ∃ (q : Addr) (s : State) (O : Own) (D : Ads) (n : Nat) (m : Int), vs = [.ref q, .int m] ∧ Rp t H q s O D n ∧ Dn t H q s O n (.serve m) Q
theorem ok_serve (T : Txt K mg t) : FnOk P w K mg base CX0 6 t.f_serve t.d_serve ["queue", "most"] (spServe t) := by
  refine T.F_serve.ok sc_serve (fun vs H Q E h => ?_) (fun cdv A outer s H vs Q E hr h => ?_)
  · obtain ⟨q, s, O, D, n, m, rfl, _⟩ := h
    rfl
  · obtain ⟨q, s, O, D, n, m, rfl, R, k⟩ := h
    have hu := hu_of hr
    refine ⟨_, (pss_cons (ps_if (pt_not (pt_chain op_le op_le pe_int (pv 1) (pe_gint rfl T.v_MOST_UNENDED))) (pss_one (ps_ret (pe_lst (pa_cons (pe_gint rfl T.v_OUT_OF_RANGE) pa_nil)))) pss_nil)
      (pss_cons (ps_if (pt_cmpR op_ge (pe_fldK (K := K) (pv 0)) (pe_gint rfl T.v_MOST_TIME) (nomark _)) (pss_one (ps_ret (pe_lst (pa_cons (pe_gint rfl T.v_TOO_MUCH) pa_nil)))) pss_nil)
      (pss_cons (ps_set (i := 2) sc_serve.nd rfl (Or.inr rfl) (pe_slice (sl_listK (K := K)) (pe_call (ok_numbers_in_order T) (hr.mono (by decide)) rfl T.g_numbers_in_order T.F_numbers_in_order.kp T.b_numbers_in_order .nil pass0 (pa_cons (pv 0) pa_nil)) po_none (po_some (pv 1))))
      (pss_cons (ps_expr (pe_call (ok_count_passed T) (hr.mono (by decide)) rfl T.g_count_passed T.F_count_passed.kp T.b_count_passed .nil pass0 (pa_cons (pe_call (ok_ready_items T) (hr.mono (by decide)) rfl T.g_ready_items T.F_ready_items.kp T.b_ready_items .nil pass0 (pa_cons (pv 0) pa_nil)) (pa_cons (pv 2) pa_nil))))
      (pss_cons (ps_fldK (K := K) (pv 0) (pe_lc rfl sc_serve.nd (pi_listK (K := K) (pe_fldK (K := K) (pv 0))) (own := [("number", 3)]) (blkOk_by (by show blkC ["queue", "most", "served", "number"] (defScope s_serve) _ _ = true; decide +kernel)) (fun _ _ _ _ _ => pg_name (i := 3) sc_serve.nd rfl (Or.inl rfl)) (fun _ _ _ _ _ => (pts_one (pt_cmpR (op_notIn_seqK (K := K)) (pv 3) (pv 2) (by with_unfolding_all rfl)))) (fun _ _ _ _ _ => (pv 3))))
      (pss_cons (ps_expr (pe_bm PySem.F.plainAttrs_list PySem.F.slot_list_extend PySem.F.type_list_extend mt_extend (pe_fldK (K := K) (pv 0)) (pa_cons (pv 2) pa_nil)))
      (pss_cons (ps_fldK (K := K) (pv 0) (pe_op op_add (pe_fldK (K := K) (pv 0)) pe_int))
      (pss_one (ps_ret (pe_op op_cat (pe_lst (pa_cons (pe_callB (call_len_seqK (K := K)) (by rfl) T.z_len PySem.boot_len (pa_cons (pv 2) pa_nil)) pa_nil)) (pv 2))))))))))), ?_⟩
    -- if not 1 <= most <= MOST_UNENDED
    refine ⟨_, rfl, _, _, rfl, rfl, _, rfl, ?_⟩
    refine chain_ite (fun c => ?_) (fun c => ?_)
    · refine ⟨(by show 1 ≤ sizeLine; decide), fun p hp => ?_⟩
      refine k.refused R ?_ (Same.refl H) hp
      show Vamrqg.andThen (Vamrqg.ranged m 1 40) _ = _
      rw [ranged_no c]
      rfl
    -- if queue.time >= MOST_TIME
    refine ⟨_, rfl, _, _, _, _, _, rfl, R.ob, T.k_Queue, T.n_Queue_time, rfl, _, _, rfl, rfl, _, rfl, ?_⟩
    refine ite2 (fun c1 => ?_) (fun c1 => ?_)
    · have c2 : 1000000 ≤ s.time := by have := of_decide_eq_true c1; omega
      refine ⟨(by show 1 ≤ sizeLine; decide), fun p hp => ?_⟩
      refine k.refused R ?_ (Same.refl H) hp
      rw [serve_out c, if_pos c2]
    have c2 : ¬ 1000000 ≤ s.time := fun z => c1 (decide_eq_true (by omega))
    have hout : Vamrqg.outcome s (.serve m) = .ok (Vamrqg.served s m.toNat, Vamrqg.listed (idsOf (Vamrqg.batchOf s m.toNat))) := by rw [serve_out c, if_neg c2]
    -- served = numbers_in_order(queue)[:most]
    refine ⟨_, rfl, q, s, O, D, n, rfl, R, fun H1 b s1 hb0 hb => ?_⟩
    have R1 := R.same s1
    refine ⟨_, rfl, m, rfl, b, _, rfl, SqL.of hb, fun E1 hE => ?_⟩
    have hm : m = (m.toNat : Int) := by omega
    have ecut : cutV ((idsOf (Vamrqg.order s)).map nV) none (some m) = (idsOf (Vamrqg.batchOf s m.toNat)).map nV := by
      rw [hm, cut_take, ← hm]
      unfold Vamrqg.batchOf idsOf
      rw [List.map_take, List.map_take]
    have sp1 := Same.new (o := .lst (cutV ((idsOf (Vamrqg.order s)).map nV) none (some m))) hE
    rw [ecut] at sp1 ⊢
    have h2' : (upd H1 E1 (.lst ((idsOf (Vamrqg.batchOf s m.toNat)).map nV))) E1 = some (.lst ((idsOf (Vamrqg.batchOf s m.toNat)).map nV)) := upd_same
    have s3 : Same H (upd H1 E1 (.lst ((idsOf (Vamrqg.batchOf s m.toNat)).map nV))) := s1.trans sp1
    have hbl : (Vamrqg.batchOf s m.toNat).length ≤ 40 := by
      have := served_count R.good m.toNat
      have := R.good.few
      omega
    have hE0 : H E1 = none := s1.free hE
    revert h2' s3 sp1
    generalize upd H1 E1 (.lst ((idsOf (Vamrqg.batchOf s m.toNat)).map nV)) = H2
    intro sp1 h2' s3
    -- count_passed(ready_items(queue), served)
    refine ⟨_, rfl, q, s, O, D, n, rfl, R.same s3, fun H4 a s4 ha0 ha4 => ?_⟩
    have sH4 := s3.trans s4
    have R4 := R.same sH4
    have h4' : H4 E1 = some (.lst ((idsOf (Vamrqg.batchOf s m.toNat)).map nV)) := s4 _ _ h2'
    refine ⟨_, rfl, a, E1, readyL s, idsOf (Vamrqg.batchOf s m.toNat), D, rfl, fun x hx => (R4.item x (readyL_in hx)).ob, ?_, ha4, h4', fun H5 it fr => ?_⟩
    · exact R.good.ndW.sublist (List.filter_sublist.map _)
    have fr5 : ∀ c lb, O c = some lb → (∀ x ∈ readyL s, lb ≠ .item x.id) → H5 c = H4 c := fun c lb h1 h2 => fr c fun x hx => lab_ne h1 (R.item x (readyL_in hx)).lo (h2 x hx)
    have frl : ∀ {c : Addr} {xs : List V}, H4 c = some (.lst xs) → H5 c = some (.lst xs) := fun {c xs} h => by
      rw [fr c fun x hx => ne_of h (R4.item x (readyL_in hx)).ob (by intro z; cases z)]
      exact h
    have q5 : H5 q = some (.ins t.c_Queue D.dq (fQ s.limit s.day s.time D)) := by rw [fr5 q _ R.lq (by simp)]; exact R4.ob
    have w5 := frl R4.oWt
    have r5 := frl R4.oR
    have e5 := frl h4'
    have w5' : H5 D.aWt = some (.lst (s.waiting.map fun x => nV x.id)) := by rw [w5, idsOf, List.map_map]; rfl
    -- queue.waiting = [number for number in queue.waiting if number not in served]
    refine ⟨_, rfl, _, _, _, _, _, rfl, q5, T.k_Queue, T.n_Queue_waiting, rfl, D.aWt, rfl, ⟨_, SqL.of w5⟩, fun E2 hE2 => ?_⟩
    have hwl : s.waiting.length < sizeLine := Nat.lt_of_le_of_lt (by have := R.good.few; omega : s.waiting.length ≤ 40) (by decide)
    refine lc_reads (l := s.waiting) (val := fun x => nV x.id) (p := fun x => !Vamrqg.hasId (Vamrqg.batchOf s m.toNat) x.id) (g := fun x => nV x.id) hE2 (SqL.of w5') hwl (fun _ _ => rfl) (fun x hx H6 s6 Q6 k6 => ?_) (fun x hx _ H6 s6 Q6 k6 => ⟨_, rfl, k6 H6 (Same.refl H6)⟩) (fun H6 s6 h6 => ?_)
    · refine ⟨_, rfl, _, rfl, E1, _, rfl, .inl (SqL.of (s6 _ _ e5)), rfl, flat_ids _, _, rfl, ?_⟩
      show Q6 (if true = true then !inV (nV x.id) ((idsOf (Vamrqg.batchOf s m.toNat)).map nV) else _) H6
      rw [if_pos rfl, inV_ids]
      have z := k6 H6 (Same.refl H6)
      rw [hasId_dec] at z
      exact z
    have q6 := s6 _ _ q5
    refine ⟨_, rfl, q, _, _, _, rfl, q6, T.k_Queue, T.n_Queue_waiting, (by show 9 < 1000; decide), ?_⟩
    -- queue.running.extend(served)
    have neE2q : E2 ≠ q := (ne_of_none q5 hE2).symm
    have neRq : D.aR ≠ q := lab_ne R.lR R.lq (by simp)
    have neE1q : E1 ≠ q := ne_of h4' R4.ob (by intro z; cases z)
    have neRE1 : D.aR ≠ E1 := ne_of_none R.oR hE0
    have neRE2 : D.aR ≠ E2 := ne_of_none r5 hE2
    have q7 : (upd H6 q (.ins t.c_Queue D.dq (putF "waiting" (.ref E2) (fQ s.limit s.day s.time D)))) q = some (.ins t.c_Queue D.dq (fQ s.limit s.day s.time { D with aWt := E2 })) := upd_same
    have r7 : (upd H6 q (.ins t.c_Queue D.dq (putF "waiting" (.ref E2) (fQ s.limit s.day s.time D)))) D.aR = some (.lst ((idsOf s.running).map nV)) := by rw [upd_ne neRq]; exact s6 _ _ r5
    have e7 : (upd H6 q (.ins t.c_Queue D.dq (putF "waiting" (.ref E2) (fQ s.limit s.day s.time D)))) E1 = some (.lst ((idsOf (Vamrqg.batchOf s m.toNat)).map nV)) := by rw [upd_ne neE1q]; exact s6 _ _ e5
    have hkeep7 : ∀ c, c ≠ q → (upd H6 q (.ins t.c_Queue D.dq (putF "waiting" (.ref E2) (fQ s.limit s.day s.time D)))) c = H6 c := fun c h => upd_ne h
    revert q7 r7 e7 hkeep7
    generalize upd H6 q (.ins t.c_Queue D.dq (putF "waiting" (.ref E2) (fQ s.limit s.day s.time D))) = H7
    intro q7 r7 e7 hkeep7
    refine ⟨_, rfl, _, _, _, _, _, rfl, q7, T.k_Queue, T.n_Queue_running, rfl, .inl ⟨rfl, _, SqL.of r7⟩, _, rfl, D.aR, E1, _, _, rfl, rfl, r7, e7, ?_, ?_⟩
    · rw [List.length_map, List.length_map, idsOf, idsOf, List.length_map, List.length_map]
      have := R.good.few
      exact Nat.le_trans (by omega : s.running.length + (Vamrqg.batchOf s m.toNat).length ≤ 80) (by decide)
    have q8 : (upd H7 D.aR (.lst ((idsOf s.running).map nV ++ (idsOf (Vamrqg.batchOf s m.toNat)).map nV))) q = some (.ins t.c_Queue D.dq (fQ s.limit s.day s.time { D with aWt := E2 })) := by rw [upd_ne neRq.symm]; exact q7
    have r8 : (upd H7 D.aR (.lst ((idsOf s.running).map nV ++ (idsOf (Vamrqg.batchOf s m.toNat)).map nV))) D.aR = some (.lst ((idsOf s.running).map nV ++ (idsOf (Vamrqg.batchOf s m.toNat)).map nV)) := upd_same
    have hkeep8 : ∀ c, c ≠ D.aR → (upd H7 D.aR (.lst ((idsOf s.running).map nV ++ (idsOf (Vamrqg.batchOf s m.toNat)).map nV))) c = H7 c := fun c h => upd_ne h
    revert q8 r8 hkeep8
    generalize upd H7 D.aR (.lst ((idsOf s.running).map nV ++ (idsOf (Vamrqg.batchOf s m.toNat)).map nV)) = H8
    intro q8 r8 hkeep8
    -- queue.time = queue.time + 1
    refine ⟨_, rfl, _, _, _, _, _, rfl, q8, T.k_Queue, T.n_Queue_time, rfl, _, _, rfl, rfl, _, rfl, q, _, _, _, rfl, q8, T.k_Queue, T.n_Queue_time, (by show 9 < 1000; decide), ?_⟩
    have q9 : (upd H8 q (.ins t.c_Queue D.dq (putF "time" (.int ((s.time : Int) + 1)) (fQ s.limit s.day s.time { D with aWt := E2 })))) q = some (.ins t.c_Queue D.dq (fQ s.limit s.day (s.time + 1) { D with aWt := E2 })) := upd_same
    have hkeep9 : ∀ c, c ≠ q → (upd H8 q (.ins t.c_Queue D.dq (putF "time" (.int ((s.time : Int) + 1)) (fQ s.limit s.day s.time { D with aWt := E2 })))) c = H8 c := fun c h => upd_ne h
    revert q9 hkeep9
    generalize upd H8 q (.ins t.c_Queue D.dq (putF "time" (.int ((s.time : Int) + 1)) (fQ s.limit s.day s.time { D with aWt := E2 }))) = H9
    intro q9 hkeep9
    have h96 : ∀ c, c ≠ q → c ≠ D.aR → H9 c = H6 c := fun c h1 h2 => by rw [hkeep9 c h1, hkeep8 c h2, hkeep7 c h1]
    have e9 : H9 E1 = some (.lst ((idsOf (Vamrqg.batchOf s m.toNat)).map nV)) := by rw [h96 E1 neE1q neRE1.symm]; exact s6 _ _ e5
    -- the representation behind it
    obtain ⟨O', D', R9, F9⟩ := R.serve (k := m.toNat) (e := E2) (H' := H9) (by omega) (sH4.free (by
      cases z : H4 E2 with
      | none => rfl
      | some o =>
        by_cases y : ∀ x ∈ readyL s, E2 ≠ D.ia x.id
        · rw [← fr E2 y, hE2] at z; cases z
        · have : ∃ x ∈ readyL s, E2 = D.ia x.id := by
            refine Classical.byContradiction fun z => y fun x hx ex => z ⟨x, hx, ex⟩
          obtain ⟨x, hx, ex⟩ := this
          obtain ⟨pre, post, hs⟩ := List.append_of_mem hx
          have := it pre x post hs
          rw [← ex, hE2] at this
          cases this)) q9 (by
        rw [h96 E2 neE2q neRE2.symm, h6, served_ids]) (by rw [hkeep9 _ neRq]; exact r8) (fun pre x post hs => by
        have hx : x ∈ readyL s := by unfold readyL; rw [hs]; exact List.mem_append_right _ List.mem_cons_self
        have I := R.item x (readyL_in hx)
        rw [h96 _ (lab_ne I.lo R.lq (by simp)) (lab_ne I.lo R.lR (by simp)), hasId_dec]
        exact s6 _ _ (it pre x post hs)) (fun c hc n1 n2 n3 => by
        cases z : H c with
        | none => exact absurd z hc
        | some o =>
          rw [h96 c n1 n2]
          refine s6 _ _ ?_
          rw [fr c n3]
          exact sH4 _ _ z)
    -- return [len(served)] + served
    refine ⟨_, rfl, E1, _, rfl, .inl (SqL.of e9), (by show 1 ≤ sizeLine; decide), fun p2 hp2 => ?_⟩
    refine ⟨_, rfl, p2, E1, _, _, rfl, rfl, upd_same, by rw [upd_ne (ne_of_none e9 hp2)]; exact e9, ?_, fun p3 hp3 => ?_⟩
    · rw [List.length_map, idsOf, List.length_map]
      exact Nat.le_trans (by show 1 + (Vamrqg.batchOf s m.toNat).length ≤ 41; omega) (by decide)
    have R10 := (R9.same (Same.new (o := .lst [V.int (((idsOf (Vamrqg.batchOf s m.toNat)).map nV).length : Int)]) hp2)).mono (Nat.le_succ n)
    have F10 : Fram O H O' (upd H9 p2 (.lst [V.int (((idsOf (Vamrqg.batchOf s m.toNat)).map nV).length : Int)])) := F9.trans (Fram.same (Same.new hp2))
    have z := k.ok1 hout R10 F10 hp3
    have el : (Vamrqg.listed (idsOf (Vamrqg.batchOf s m.toNat))).map V.int = [V.int (((idsOf (Vamrqg.batchOf s m.toNat)).map nV).length : Int)] ++ (idsOf (Vamrqg.batchOf s m.toNat)).map nV := by
      unfold Vamrqg.listed
      rw [List.map_cons, List.map_map, List.length_map]
      rfl
    rw [el] at z
    exact z
end
end Ag

/-! The calls that set how the queue goes. -/
set_option Elab.async false
set_option linter.all false
set_option maxRecDepth 100000
set_option maxHeartbeats 4000000
namespace Ag
open PySem PySem.Spec PyProof.Rows L2
open Vamrqg (State Item idsOf windowsOf endOf known)
section
variable {P : Program} {w : World} {K : PySem.W.Frag} {mg : Str → Option Value} {base : Heap} {t : Ad}
theorem one_le : 1 ≤ sizeLine := by decide
/-! ### tick -/
def spTick (t : Ad) : Sp := fun vs H Q _ => ∃ (q : Addr) (s : State) (O : Own) (D : Ads) (n : Nat) (m : Int), vs = [.ref q, .int m] ∧ Rp t H q s O D n ∧ Dn t H q s O n (.tick m) Q
theorem ok_tick (T : Txt K mg t) : FnOk P w K mg base CX0 2 t.f_tick t.d_tick ["queue", "hours"] (spTick t) := by
  refine T.F_tick.ok sc_tick (fun vs H Q E h => ?_) (fun cdv A outer s H vs Q E hr h => ?_)
  · obtain ⟨q, s, O, D, n, m, rfl, _⟩ := h
    rfl
  · obtain ⟨q, s, O, D, n, m, rfl, R, k⟩ := h
    have hu := hu_of hr
    refine ⟨_, (pss_cons (ps_if (pt_not (pt_chain op_le op_le pe_int (pv 1) (pe_gint rfl T.v_MOST_TICK))) (pss_one (ps_ret (pe_lst (pa_cons (pe_gint rfl T.v_OUT_OF_RANGE) pa_nil)))) pss_nil)
      (pss_cons (ps_if (pt_cmpR op_gt (pe_op op_add (pe_fldK (K := K) (pv 0)) (pv 1)) (pe_gint rfl T.v_MOST_TIME) (nomark _)) (pss_one (ps_ret (pe_lst (pa_cons (pe_gint rfl T.v_TOO_MUCH) pa_nil)))) pss_nil)
      (pss_cons (ps_fldK (K := K) (pv 0) (pe_op op_add (pe_fldK (K := K) (pv 0)) (pv 1)))
      (pss_one (ps_ret (pe_lst (pa_cons (pe_fldK (K := K) (pv 0)) pa_nil))))))), ?_⟩
    refine ⟨_, rfl, _, _, rfl, rfl, _, rfl, ?_⟩
    refine chain_ite (fun c => ?_) (fun c => ?_)
    · refine ⟨one_le, fun p hp => k.refused R ?_ (Same.refl H) hp⟩
      show Vamrqg.andThen (Vamrqg.ranged m 0 1000) _ = _
      rw [ranged_no c]
      rfl
    have hout : Vamrqg.outcome s (.tick m) = if 1000000 < s.time + m.toNat then .error (-7) else .ok (⟨s.limit, s.day, s.time + m.toNat, s.windows, s.frozen, s.stopped, s.waiting, s.running, s.ended⟩, [Vamrqg.ofNat (s.time + m.toNat)]) := by
      show Vamrqg.andThen (Vamrqg.ranged m 0 1000) _ = _
      rw [ranged_ok c]
      rfl
    refine ⟨_, rfl, _, _, _, _, _, rfl, R.ob, T.k_Queue, T.n_Queue_time, rfl, _, rfl, _, _, rfl, rfl, _, _, rfl, rfl, _, rfl, ?_⟩
    refine ite2 (fun c1 => ?_) (fun c1 => ?_)
    · have c2 : 1000000 < s.time + m.toNat := by have := of_decide_eq_true c1; omega
      refine ⟨one_le, fun p hp => k.refused R ?_ (Same.refl H) hp⟩
      rw [hout, if_pos c2]
    have c2 : ¬ 1000000 < s.time + m.toNat := fun z => c1 (decide_eq_true (by omega))
    rw [if_neg c2] at hout
    refine ⟨_, rfl, _, _, _, _, _, rfl, R.ob, T.k_Queue, T.n_Queue_time, rfl, _, rfl, _, _, rfl, rfl, _, rfl, q, _, _, _, rfl, R.ob, T.k_Queue, T.n_Queue_time, (by show 9 < 1000; decide), ?_⟩
    have em : (s.time : Int) + m = ((s.time + m.toNat : Nat) : Int) := by omega
    have q1 : (upd H q (.ins t.c_Queue D.dq (putF "time" (.int ((s.time : Int) + m)) (fQ s.limit s.day s.time D)))) q = some (.ins t.c_Queue D.dq (fQ s.limit s.day (s.time + m.toNat) D)) := by
      rw [upd_same, em]
      rfl
    obtain ⟨R1, F1⟩ := R.setq (H' := upd H q (.ins t.c_Queue D.dq (putF "time" (.int ((s.time : Int) + m)) (fQ s.limit s.day s.time D)))) (l := s.limit) (d := s.day) (m := s.time + m.toNat) (good_tick R.good (by omega)) q1 (fun b hb => upd_ne hb)
    refine ⟨_, rfl, _, _, _, _, _, rfl, q1, T.k_Queue, T.n_Queue_time, rfl, one_le, fun p hp => ?_⟩
    exact k.ok1 hout (R1.mono (Nat.le_succ n)) F1 hp

/-! ### freeze, thaw -/
theorem dK_len {n : Nat} (h : n ≤ 1000) : n < sizeLine := small1000 h
theorem frost_out {s : State} {c : Int} {on : Bool} (h : c = -1 ∨ (0 ≤ c ∧ c ≤ 7)) : ∃ f b, s.frost c on = .ok (⟨s.limit, s.day, s.time, s.windows, f, b, s.waiting, s.running, s.ended⟩, [0]) ∧
    (∀ j : Nat, f.contains j = if (j : Int) = c then on else s.frozen.contains j) ∧ b = (if c = -1 then on else s.stopped) := by
  unfold State.frost
  by_cases e : c = -1
  · rw [if_pos e]
    exact ⟨_, _, rfl, fun j => by rw [if_neg (by omega)], by rw [if_pos e]⟩
  · rw [if_neg e]
    have h' : 0 ≤ c ∧ c ≤ ((7 : Nat) : Int) := by omega
    refine ⟨(s.frozen.filter fun x => !decide (x = c.toNat)) ++ (if on = true then [c.toNat] else []), s.stopped, ?_, fun j => ?_, by rw [if_neg e]⟩
    · show Vamrqg.andThen (Vamrqg.ranged c 0 ((7 : Nat) : Int)) _ = _
      rw [ranged_ok h']
      rfl
    · rw [contains_put]
      by_cases ej : j = c.toNat
      · rw [if_pos ej, if_pos (by omega)]
      · rw [if_neg ej, if_neg (by omega)]
def spFrost (t : Ad) (mk : Int → Vamrqg.Call) (on : Bool) (ws : List V) : Sp := fun vs H Q _ => ∃ (q : Addr) (s : State) (O : Own) (D : Ads) (n : Nat) (c : Int), vs = .ref q :: .int c :: ws ∧ Rp t H q s O D n ∧ n ≤ 900 ∧ (∀ s, Vamrqg.outcome s (mk c) = s.frost c on) ∧ Dn t H q s O n (mk c) Q
def spSet (t : Ad) : Sp := fun vs H Q _ => ∃ (q : Addr) (s : State) (O : Own) (D : Ads) (n : Nat) (c : Int) (on : Bool) (cl : Vamrqg.Call), vs = [.ref q, .int c, .bl on] ∧ Rp t H q s O D n ∧ n ≤ 900 ∧ Vamrqg.outcome s cl = s.frost c on ∧ Dn t H q s O n cl Q
theorem ok_set_frozen (T : Txt K mg t) : FnOk P w K mg base CX0 2 t.f_set_frozen t.d_set_frozen ["queue", "group", "value"] (spSet t) := by
  refine T.F_set_frozen.ok sc_set_frozen (fun vs H Q E h => ?_) (fun cdv A outer s H vs Q E hr h => ?_)
  · obtain ⟨q, s, O, D, n, c, on, cl, rfl, _⟩ := h
    rfl
  · obtain ⟨q, s, O, D, n, c, on, cl, rfl, R, hn, hc, k⟩ := h
    have hu := hu_of hr
    refine ⟨_, (pss_cons (ps_if (PW.pt (pw_and (pt_cmpR op_ne (pv 1) (pe_gint rfl T.v_EVERYTHING) (nomark _)) (pw_and1 (pt_not (pt_chain op_le op_le pe_int (pv 1) (pe_gint rfl T.v_LAST_GROUP)))))) (pss_one (ps_ret (pe_lst (pa_cons (pe_gint rfl T.v_OUT_OF_RANGE) pa_nil)))) pss_nil)
      (pss_cons (ps_dput hu (pe_fldK (K := K) (pv 0)) (pv 1) (pv 2) rfl)
      (pss_one (ps_ret (pe_lst (pa_cons pe_int pa_nil)))))), ?_⟩
    -- what is done where the class is one
    have act : (c = -1 ∨ (0 ≤ c ∧ c ≤ 7)) → ∀ H' p, (H' = upd H D.aF (.dK (putK D.kF (Sum.inl c) (.bl on)))) → H' p = none → Q (.ref p) (upd H' p (.lst [V.int 0])) := by
      intro h H' p e hp
      obtain ⟨f, b, e1, e2, e3⟩ := frost_out (s := s) (on := on) h
      rw [e1] at hc
      have hF : H' D.aF = some (.dK (putK D.kF (Sum.inl c) (.bl on))) := by rw [e]; exact upd_same
      obtain ⟨R1, F1⟩ := R.frost (H' := H') (c := c) (on := on) (f := f) (b := b) hF (fun a ha => by rw [e]; exact upd_ne ha) (fun j => by
        rw [valV_put, e2]
        by_cases ej : (j : Int) = c
        · rw [if_pos ej, if_pos (by rw [ej])]
          rfl
        · rw [if_neg ej, if_neg (key_ne ej)]
          exact R.fro j) (by
        rw [valV_put, e3]
        by_cases ec : c = -1
        · rw [if_pos ec, if_pos (by rw [ec])]
          rfl
        · rw [if_neg ec, if_neg (key_ne (fun z => ec z.symm))]
          exact R.sto)
      exact k.ok1 hc R1 F1 hp
    have no : ¬ (c = -1 ∨ (0 ≤ c ∧ c ≤ 7)) → ∀ p, H p = none → Q (.ref p) (upd H p (.lst [V.int (-1)])) := by
      intro h p hp
      refine k.refused R ?_ (Same.refl H) hp
      rw [hc]
      unfold State.frost
      rw [if_neg (fun z => h (.inl z))]
      show Vamrqg.andThen (Vamrqg.ranged c 0 ((7 : Nat) : Int)) _ = _
      rw [ranged_no (fun z => h (.inr (by omega)))]
      rfl
    -- if group != EVERYTHING and not 0 <= group <= LAST_GROUP
    have last : (c = -1 ∨ (0 ≤ c ∧ c ≤ 7)) → (tSeq (sDPut (tFld K (tVar 0) "frozen") (tVar 1) (tVar 2)) (tRet (tLst (tCons (tC (.int 0)) tNil)))) { nx := fun _ H' => Q .non H', rt := Q } (start ["queue", "group", "value"] [.ref q, .int c, .bl on]) H := by
      intro h
      refine ⟨_, rfl, _, rfl, _, _, _, _, _, rfl, R.ob, T.k_Queue, T.n_Queue_frozen, rfl, _, rfl, D.aF, _, rfl, DPut.k (k := Sum.inl c) R.oF (dK_len (Nat.le_trans R.nF (by omega))), one_le, fun p hp => ?_⟩
      exact act h _ p rfl hp
    refine ⟨_, rfl, rfl, _, rfl, ?_⟩
    by_cases ec : c = -1
    · subst ec
      rw [decide_eq_true (rfl : V.int (-1) = V.int (-1))]
      refine iteF (iteF ?_)
      exact last (.inl rfl)
    · rw [decide_eq_false (fun z => ec (V.int.inj z))]
      refine iteT ⟨_, rfl, _, _, rfl, rfl, _, rfl, ?_⟩
      refine chain_ite (fun c1 => ?_) (fun c1 => ?_)
      · exact ⟨one_le, fun p hp => no (fun z => z.elim ec c1) p hp⟩
      · exact last (.inr c1)
def spFreeze (t : Ad) : Sp := fun vs H Q _ => ∃ (q : Addr) (s : State) (O : Own) (D : Ads) (n : Nat) (c : Int), vs = [.ref q, .int c] ∧ Rp t H q s O D n ∧ n ≤ 900 ∧ Dn t H q s O n (.freeze c) Q
theorem ok_freeze (T : Txt K mg t) : FnOk P w K mg base CX0 3 t.f_freeze t.d_freeze ["queue", "group"] (spFreeze t) := by
  refine T.F_freeze.ok sc_freeze (fun vs H Q E h => ?_) (fun cdv A outer s H vs Q E hr h => ?_)
  · obtain ⟨q, s, O, D, n, c, rfl, _⟩ := h
    rfl
  · obtain ⟨q, s, O, D, n, c, rfl, R, hn, k⟩ := h
    exact ⟨_, (pss_one (ps_ret (pe_call (ok_set_frozen T) (hr.mono (by decide)) rfl T.g_set_frozen T.F_set_frozen.kp T.b_set_frozen .nil pass0 (pa_cons (pv 0) (pa_cons (pv 1) (pa_cons pe_bl pa_nil)))))), _, rfl, _, rfl, q, s, O, D, n, c, true, .freeze c, rfl, R, hn, rfl, k⟩
def spThaw (t : Ad) : Sp := fun vs H Q _ => ∃ (q : Addr) (s : State) (O : Own) (D : Ads) (n : Nat) (c : Int), vs = [.ref q, .int c] ∧ Rp t H q s O D n ∧ n ≤ 900 ∧ Dn t H q s O n (.thaw c) Q
theorem ok_thaw (T : Txt K mg t) : FnOk P w K mg base CX0 3 t.f_thaw t.d_thaw ["queue", "group"] (spThaw t) := by
  refine T.F_thaw.ok sc_thaw (fun vs H Q E h => ?_) (fun cdv A outer s H vs Q E hr h => ?_)
  · obtain ⟨q, s, O, D, n, c, rfl, _⟩ := h
    rfl
  · obtain ⟨q, s, O, D, n, c, rfl, R, hn, k⟩ := h
    exact ⟨_, (pss_one (ps_ret (pe_call (ok_set_frozen T) (hr.mono (by decide)) rfl T.g_set_frozen T.F_set_frozen.kp T.b_set_frozen .nil pass0 (pa_cons (pv 0) (pa_cons (pv 1) (pa_cons pe_bl pa_nil)))))), _, rfl, _, rfl, q, s, O, D, n, c, false, .thaw c, rfl, R, hn, rfl, k⟩

/-! ### config -/
theorem config_out {s : State} {l d : Int} (h1 : 0 ≤ l ∧ l ≤ 20) (h2 : 1 ≤ d ∧ d ≤ 24) : Vamrqg.outcome s (.config l d) = if s.waiting.isEmpty = false ∨ s.running.isEmpty = false then .error (-8) else .ok (⟨l.toNat, d.toNat, s.time, [], s.frozen, s.stopped, [], [], s.ended⟩, [0]) := by
  show Vamrqg.andThen (Vamrqg.ranged l 0 ((20 : Nat) : Int)) _ = _
  rw [ranged_ok (by omega)]
  show Vamrqg.andThen (Vamrqg.ranged d 1 ((24 : Nat) : Int)) _ = _
  rw [ranged_ok (by omega)]
  rfl
theorem config_no {s : State} {l d : Int} (h : ¬ ((0 ≤ l ∧ l ≤ 20) ∧ (1 ≤ d ∧ d ≤ 24))) : Vamrqg.outcome s (.config l d) = .error (-1) := by
  show Vamrqg.andThen (Vamrqg.ranged l 0 ((20 : Nat) : Int)) _ = _
  by_cases h1 : 0 ≤ l ∧ l ≤ 20
  · rw [ranged_ok (by omega)]
    show Vamrqg.andThen (Vamrqg.ranged d 1 ((24 : Nat) : Int)) _ = _
    rw [ranged_no (fun z => h ⟨h1, by omega⟩)]
    rfl
  · rw [ranged_no (fun z => h1 (by omega))]
    rfl
def spConfig (t : Ad) : Sp := fun vs H Q _ => ∃ (q : Addr) (s : State) (O : Own) (D : Ads) (n : Nat) (l d : Int), vs = [.ref q, .int l, .int d] ∧ Rp t H q s O D n ∧ Dn t H q s O n (.config l d) Q
theorem ok_config (T : Txt K mg t) : FnOk P w K mg base CX0 3 t.f_config t.d_config ["queue", "limit", "day"] (spConfig t) := by
  refine T.F_config.ok sc_config (fun vs H Q E h => ?_) (fun cdv A outer s H vs Q E hr h => ?_)
  · obtain ⟨q, s, O, D, n, l, d, rfl, _⟩ := h
    rfl
  · obtain ⟨q, s, O, D, n, l, d, rfl, R, k⟩ := h
    have hu := hu_of hr
    refine ⟨_, (pss_cons (ps_if (PW.pt (pw_or (pt_not (pt_chain op_le op_le pe_int (pv 1) (pe_gint rfl T.v_MOST_LIMIT))) (pw_or1 (pt_not (pt_chain op_le op_le pe_int (pv 2) (pe_gint rfl T.v_MOST_HOURS)))))) (pss_one (ps_ret (pe_lst (pa_cons (pe_gint rfl T.v_OUT_OF_RANGE) pa_nil)))) pss_nil)
      (pss_cons (ps_if (pt_cmpR op_gt (pe_call (ok_count_unended T) (hr.mono (by decide)) rfl T.g_count_unended T.F_count_unended.kp T.b_count_unended .nil pass0 (pa_cons (pv 0) pa_nil)) pe_int (nomark _)) (pss_one (ps_ret (pe_lst (pa_cons (pe_gint rfl T.v_ITEMS_THERE) pa_nil)))) pss_nil)
      (pss_cons (ps_fldK (K := K) (pv 0) (pv 1))
      (pss_cons (ps_fldK (K := K) (pv 0) (pv 2))
      (pss_cons (ps_fldK (K := K) (pv 0) pe_dnewK)
      (pss_one (ps_ret (pe_lst (pa_cons pe_int pa_nil))))))))), ?_⟩
    refine ⟨_, rfl, _, _, rfl, rfl, _, rfl, ?_⟩
    refine chain_ite (fun c => ?_) (fun c => ?_)
    · refine iteT ⟨one_le, fun p hp => k.refused R (config_no fun z => c z.1) (Same.refl H) hp⟩
    refine ⟨_, rfl, _, _, rfl, rfl, _, rfl, ?_⟩
    refine chain_ite (fun c1 => ?_) (fun c1 => ?_)
    · refine ⟨one_le, fun p hp => k.refused R (config_no fun z => c1 z.2) (Same.refl H) hp⟩
    refine ⟨_, rfl, q, s, O, D, n, rfl, R, fun H1 s1 => ⟨_, _, rfl, rfl, _, rfl, ?_⟩⟩
    have hout := config_out (s := s) c c1
    refine ite2 (fun c2 => ?_) (fun c2 => ?_)
    · refine ⟨one_le, fun p hp => k.refused R ?_ s1 hp⟩
      have := of_decide_eq_true c2
      rw [hout, if_pos]
      by_cases e : s.waiting = []
      · right
        cases er : s.running with
        | nil =>
          rw [e, er] at this
          exact absurd this (by decide)
        | cons _ _ => rfl
      · left
        cases er : s.waiting with
        | nil => exact absurd er e
        | cons _ _ => rfl
    have c3 : ¬ (0 : Int) < (s.waiting.length : Int) + (s.running.length : Int) := fun z => c2 (decide_eq_true z)
    have hw : s.waiting = [] := List.eq_nil_of_length_eq_zero (by omega)
    have hrn : s.running = [] := List.eq_nil_of_length_eq_zero (by omega)
    rw [if_neg (by rw [hw, hrn]; simp)] at hout
    have R1 := R.same s1
    have el : l = (l.toNat : Int) := by omega
    have ed : d = (d.toNat : Int) := by omega
    refine ⟨_, rfl, _, rfl, q, _, _, _, rfl, R1.ob, T.k_Queue, T.n_Queue_limit, (by show 9 < 1000; decide), ?_⟩
    refine ⟨_, rfl, _, rfl, q, _, _, _, rfl, upd_same, T.k_Queue, T.n_Queue_day, (by show 9 < 1000; decide), ?_⟩
    refine fun p hp => ⟨_, rfl, q, _, _, _, rfl, (by rw [upd_ne (ne_of_none upd_same hp)]; exact upd_same), T.k_Queue, T.n_Queue_windows, (by show 9 < 1000; decide), one_le, fun p2 hp2 => ?_⟩
    have hpq : p ≠ q := fun e => by rw [e, upd_same] at hp; cases hp
    have hp0 : H1 p = none := by
      have z := hp
      rw [upd_ne hpq, upd_ne hpq] at z
      exact z
    obtain ⟨O', R2, F2⟩ := R1.config (l := l.toNat) (d := d.toNat) (p := p) (H' := upd (upd (upd (upd H1 q (.ins t.c_Queue D.dq (putF "limit" (.int l) (fQ s.limit s.day s.time D)))) q (.ins t.c_Queue D.dq (putF "day" (.int d) (putF "limit" (.int l) (fQ s.limit s.day s.time D))))) p (.dK [])) q (.ins t.c_Queue D.dq (putF "windows" (.ref p) (putF "day" (.int d) (putF "limit" (.int l) (fQ s.limit s.day s.time D))))))
      (by omega) (by omega) hw hrn hp0 (by rw [upd_same, el, ed]; rfl) (by rw [upd_ne hpq, upd_same]) (fun b h1 h2 => by rw [upd_ne h1, upd_ne h2, upd_ne h1, upd_ne h1])
    refine k.ok1 hout (R2.mono (Nat.le_succ n)) ?_ hp2
    exact (Fram.same s1).trans F2
end
end Ag

/-! Windows. -/
set_option Elab.async false
set_option linter.all false
set_option maxRecDepth 100000
set_option maxHeartbeats 4000000
namespace Ag
open PySem PySem.Spec PyProof.Rows L2
open Vamrqg (State Item idsOf windowsOf endOf known)
section
variable {P : Program} {w : World} {K : PySem.W.Frag} {mg : Str → Option Value} {base : Heap} {t : Ad}
def spIsWindow : Sp := fun vs H Q _ => ∃ (a : Addr) (x y d : Int), vs = [.ref a, .int d] ∧ H a = some (.tup [.int x, .int y]) ∧ ∀ H', Same H H' → Q (.bl (okPair d (x, y))) H'
theorem ok_is_window (T : Txt K mg t) : FnOk P w K mg base CX0 2 t.f_is_window t.d_is_window ["pair", "day"] spIsWindow := by
  refine T.F_is_window.ok sc_is_window (fun vs H Q E h => ?_) (fun cdv A outer s H vs Q E hr h => ?_)
  · obtain ⟨a, x, y, d, rfl, _⟩ := h
    rfl
  · obtain ⟨a, x, y, d, rfl, ha, k⟩ := h
    have q := k H (Same.refl H)
    unfold okPair at q
    refine ⟨_, (pss_one (ps_ret (pe_chain3 op_le op_lt op_le pe_int (pe_ix (ix_tupK (K := K)) (pv 0) pe_int (fun _ _ => rfl)) (pe_ix (ix_tupK (K := K)) (pv 0) pe_int (fun _ _ => rfl)) (pv 1)))), ?_⟩
    refine ⟨_, rfl, _, _, _, _, rfl, rfl, SqT.of ha, rfl, _, _, rfl, rfl, _, rfl, ?_⟩
    refine ite2 (fun c1 => ?_) (fun c1 => ?_)
    · refine ⟨_, rfl, _, _, _, _, rfl, rfl, SqT.of ha, rfl, _, _, rfl, rfl, _, rfl, ?_⟩
      refine ite2 (fun c2 => ?_) (fun c2 => ?_)
      · refine ⟨_, rfl, _, _, rfl, rfl, ?_⟩
        have e1 : decide (0 ≤ x) = true := c1
        have e2 : decide (x < y) = true := c2
        rw [show decide (0 ≤ (x, y).1) = true from e1, show decide ((x, y).1 < (x, y).2) = true from e2] at q
        exact q
      · have e2 : decide (x < y) = false := by rw [Bool.not_eq_true] at c2; exact c2
        rw [show decide ((x, y).1 < (x, y).2) = false from e2, Bool.and_false, Bool.false_and] at q
        exact q
    · have e1 : decide (0 ≤ x) = false := by rw [Bool.not_eq_true] at c1; exact c1
      rw [show decide (0 ≤ (x, y).1) = false from e1, Bool.false_and, Bool.false_and] at q
      exact q
theorem rg2 {n : Nat} (h : n % 2 = 0) (h8 : n ≤ 8) : RgC 0 (n : Int) 2 (n / 2) := by
  have : n = 0 ∨ n = 2 ∨ n = 4 ∨ n = 6 ∨ n = 8 := by omega
  rcases this with rfl | rfl | rfl | rfl | rfl <;> exact ⟨by decide, by decide, by decide, by decide⟩
theorem paired_snoc {α β : Type} {F : α → β → Prop} {x : α} {y : β} : ∀ {l : List α} {m : List β}, Paired F l m → F x y → Paired F (l ++ [x]) (m ++ [y])
  | _, _, .nil, h => .cons h .nil
  | _, _, .cons r t, h => .cons r (paired_snoc t h)
/-- a new list of new pairs comes out -/
def spPairs (K : PySem.W.Frag) : Sp := fun vs H Q _ => ∃ (a : Addr) (ns : List Int), vs = [.ref a] ∧ SqL K H a (ns.map V.int) ∧ ns.length % 2 = 0 ∧ ns.length ≤ 8 ∧
  ∀ (H' : Hp) (p : Addr) (ts : List Addr), Same H H' → H p = none → (∀ a ∈ ts, H a = none) → H' p = some (.lst (ts.map V.ref)) → Paired (fun (a : Addr) (w : Int × Int) => H' a = some (.tup [.int w.1, .int w.2])) ts (pairsOf ns) → Q (.ref p) H'
theorem ok_pairs_of (T : Txt K mg t) : FnOk P w K mg base CX0 2 t.f_pairs_of t.d_pairs_of ["hours"] (spPairs K) := by
  refine T.F_pairs_of.ok sc_pairs_of (fun vs H Q E h => ?_) (fun cdv A outer s H vs Q E hr h => ?_)
  · obtain ⟨a, ns, rfl, _⟩ := h
    rfl
  · obtain ⟨a, ns, rfl, ha, h2, h8, k⟩ := h
    refine ⟨_, (pss_one (ps_ret (pe_lc rfl sc_pairs_of.nd (pi_range3 rfl T.z_range (pa_cons pe_int (pa_cons (pe_callB (call_len_seqK (K := K)) (by rfl) T.z_len PySem.boot_len (pa_cons (pv 0) pa_nil)) (pa_cons pe_int pa_nil)))) (own := [("place", 1)]) (blkOk_by (by show blkC ["hours", "place"] (defScope s_pairs_of) _ _ = true; decide +kernel)) (fun _ _ _ _ _ => pg_name (i := 1) sc_pairs_of.nd rfl (Or.inl rfl)) (fun _ _ _ _ _ => pts_nil) (fun _ _ _ _ _ => (pe_tup (pa_cons (pe_ix (ix_listK (K := K)) (pv 0) (pv 1) (fun _ _ => rfl)) (pa_cons (pe_ix (ix_listK (K := K)) (pv 0) (pe_op op_add (pv 1) pe_int) (fun _ _ => rfl)) pa_nil))))))), ?_⟩
    refine ⟨_, rfl, a, _, rfl, .inl ha, 0, _, 2, ns.length / 2, rfl, ?_, fun E1 hE => ?_⟩
    · rw [List.length_map]
      exact rg2 h2 h8
    have hpl := pairs_len ns h2
    have en : ns.length / 2 = (pairsOf ns).length := by omega
    rw [en]
    refine lc_rangeC (fun i H' => i ≤ (pairsOf ns).length ∧ Same H H' ∧ ∃ ts : List Addr, H' E1 = some (.lst (ts.map V.ref)) ∧ ts.length = i ∧ (∀ a ∈ ts, H a = none) ∧ Paired (fun (a : Addr) (w : Int × Int) => H' a = some (.tup [.int w.1, .int w.2])) ts ((pairsOf ns).take i)) ?_ ?_ ?_
    · exact ⟨Nat.zero_le _, Same.new hE, [], upd_same, rfl, fun _ h => (by cases h), .nil⟩
    · rintro i H' hi ⟨_, s1, ts, hD, htl, hf, hp⟩
      cases ew : (pairsOf ns)[i]? with
      | none => rw [List.getElem?_eq_none_iff] at ew; omega
      | some w =>
        obtain ⟨g1, g2⟩ := pairs_get ns i w ew
        refine ⟨rfl, ?_⟩
        unfold tYes
        dsimp only
        rw [if_pos rfl]
        refine ⟨_, rfl, _, rfl, a, _, _, _, rfl, rfl, s1.seq ha, at_of (j := 2 * i) (v := V.int w.1) (by omega) (by rw [List.getElem?_map, g1]; rfl), ?_⟩
        refine ⟨_, rfl, _, rfl, _, _, rfl, rfl, a, _, _, _, rfl, rfl, s1.seq ha, at_of (j := 2 * i + 1) (v := V.int w.2) (by omega) (by rw [List.getElem?_map, g2]; rfl), (by show 2 ≤ sizeLine; decide), fun p hpn => ?_⟩
        have hne : E1 ≠ p := ne_of_none hD hpn
        refine ⟨ts.map V.ref, by rw [upd_ne hne]; exact hD, ?_, ?_⟩
        · rw [List.length_map, htl]
          exact Nat.lt_of_lt_of_le hi (Nat.le_trans (by omega : (pairsOf ns).length ≤ 8) (by decide))
        · have hpE : p ≠ E1 := hne.symm
          refine ⟨hi, fun b o hb => ?_, ts ++ [p], ?_, ?_, ?_, ?_⟩
          · rw [upd_ne (ne_of_none hb hE), upd_ne (ne_of_none (s1 _ _ hb) hpn)]
            exact s1 _ _ hb
          · rw [upd_same, List.map_append]
            rfl
          · rw [List.length_append, htl]
            rfl
          · intro c hc
            rcases List.mem_append.mp hc with z | z
            · exact hf c z
            · rw [List.mem_singleton] at z
              subst z
              exact s1.free hpn
          · rw [take_succ_map (β := V) ew]
            refine paired_snoc (paired_mono hp fun b v hb => ?_) ?_
            · rw [upd_ne (ne_of hb hD (by intro z; cases z)), upd_ne (ne_of_none hb hpn)]
              exact hb
            · rw [upd_ne hpE, upd_same]
    · rintro H' ⟨_, s1, ts, hD, htl, hf, hp⟩
      rw [List.take_length] at hp
      exact k H' E1 ts s1 hE hf hD hp

def spWindow (t : Ad) (K : PySem.W.Frag) : Sp := fun vs H Q _ => ∃ (q a : Addr) (s : State) (O : Own) (D : Ads) (n : Nat) (c : Int) (ns : List Int), vs = [.ref q, .int c, .ref a] ∧ Rp t H q s O D n ∧ n ≤ 900 ∧ SqL K H a (ns.map V.int) ∧ ns.length ≤ 20 ∧ Dn t H q s O n (.window c ns) Q
theorem natPair_ok {d : Nat} {w : Int × Int} (h : okPair d w = true) : ((natPair w).1 : Int) = w.1 ∧ ((natPair w).2 : Int) = w.2 ∧ (natPair w).1 < (natPair w).2 ∧ (natPair w).2 ≤ d := by
  unfold okPair at h
  simp only [Bool.and_eq_true, decide_eq_true_eq] at h
  unfold natPair
  obtain ⟨⟨h1, h2⟩, h3⟩ := h
  refine ⟨?_, ?_, ?_, ?_⟩
  · show (w.1.toNat : Int) = w.1
    omega
  · show (w.2.toNat : Int) = w.2
    omega
  · show w.1.toNat < w.2.toNat
    omega
  · show w.2.toNat ≤ d
    omega
theorem paired_nat {H : Hp} {d : Nat} : ∀ {ts : List Addr} {ws : List (Int × Int)}, Paired (fun (a : Addr) (w : Int × Int) => H a = some (.tup [.int w.1, .int w.2])) ts ws → ws.all (okPair d) = true →
    Paired (fun (a : Addr) (w : Nat × Nat) => H a = some (.tup [nV w.1, nV w.2])) ts (ws.map natPair)
  | _, _, .nil, _ => .nil
  | _, _, .cons (b := b) r h, ha => by
    rw [List.all_cons, Bool.and_eq_true] at ha
    refine .cons ?_ (paired_nat h ha.2)
    obtain ⟨e1, e2, _⟩ := natPair_ok ha.1
    show _ = some (HO.tup [V.int ((natPair b).1 : Int), V.int ((natPair b).2 : Int)])
    rw [e1, e2]
    exact r
theorem ok_window (T : Txt K mg t) : FnOk P w K mg base CX0 3 t.f_window t.d_window ["queue", "group", "hours"] (spWindow t K) := by
  refine T.F_window.ok sc_window (fun vs H Q E h => ?_) (fun cdv A outer s H vs Q E hr h => ?_)
  · obtain ⟨q, a, s, O, D, n, c, ns, rfl, _⟩ := h
    rfl
  · obtain ⟨q, a, s, O, D, n, c, ns, rfl, R, hn, ha, hlen, k⟩ := h
    have hu := hu_of hr
    refine ⟨_, (pss_cons (ps_if (pt_not (pt_chain op_le op_le pe_int (pv 1) (pe_gint rfl T.v_LAST_GROUP))) (pss_one (ps_ret (pe_lst (pa_cons (pe_gint rfl T.v_OUT_OF_RANGE) pa_nil)))) pss_nil)
      (pss_cons (ps_if (PW.pt (pw_or (pt_cmpR op_ne (pe_op op_mod (pe_callB (call_len_seqK (K := K)) (by rfl) T.z_len PySem.boot_len (pa_cons (pv 2) pa_nil)) pe_int) pe_int (nomark _)) (pw_or1 (pt_cmpR op_gt (pe_callB (call_len_seqK (K := K)) (by rfl) T.z_len PySem.boot_len (pa_cons (pv 2) pa_nil)) (pe_op op_mul pe_int (pe_gint rfl T.v_MOST_WINDOWS)) (nomark _))))) (pss_one (ps_ret (pe_lst (pa_cons (pe_gint rfl T.v_BAD_ROW) pa_nil)))) pss_nil)
      (pss_cons (ps_set (i := 3) sc_window.nd rfl (Or.inl rfl) (pe_call (ok_pairs_of T) (hr.mono (by decide)) rfl T.g_pairs_of T.F_pairs_of.kp T.b_pairs_of .nil pass0 (pa_cons (pv 2) pa_nil)))
      (pss_cons (ps_if (pt_not (pt_val (pe_callB (cr_allK (K := K)) (by rfl) T.z_all PyProof.Rows.boot_all (pa_cons (pe_lc rfl sc_window.nd (pi_listK (K := K) (pv 3)) (own := [("pair", 4)]) (blkOk_by (by show blkC ["queue", "group", "hours", "pairs", "pair"] (defScope s_window) _ _ = true; decide +kernel)) (fun _ _ _ _ _ => pg_name (i := 4) sc_window.nd rfl (Or.inl rfl)) (fun _ _ _ _ _ => pts_nil) (fun _ _ _ _ _ => (pe_call (ok_is_window T) (hr.mono (by decide)) rfl T.g_is_window T.F_is_window.kp T.b_is_window .nil pass0 (pa_cons (pv 4) (pa_cons (pe_fldK (K := K) (pv 0)) pa_nil))))) pa_nil)))) (pss_one (ps_ret (pe_lst (pa_cons (pe_gint rfl T.v_BAD_ROW) pa_nil)))) pss_nil)
      (pss_cons (ps_dput hu (pe_fldK (K := K) (pv 0)) (pv 1) (pv 3) rfl)
      (pss_one (ps_ret (pe_lst (pa_cons (pe_callB (call_len_seqK (K := K)) (by rfl) T.z_len PySem.boot_len (pa_cons (pv 3) pa_nil)) pa_nil))))))))), ?_⟩
    refine ⟨_, rfl, _, _, rfl, rfl, _, rfl, ?_⟩
    refine chain_ite (fun c1 => ?_) (fun c1 => ?_)
    · refine ⟨one_le, fun p hp => k.refused R ?_ (Same.refl H) hp⟩
      show Vamrqg.andThen (Vamrqg.ranged c 0 ((7 : Nat) : Int)) _ = _
      rw [ranged_no (fun z => c1 (by omega))]
      rfl
    have bad : ∀ {H1 : Hp} (s1 : Same H H1) (h : ¬ (ns.length % 2 = 0 ∧ ns.length ≤ 8 ∧ (pairsOf ns).all (okPair s.day) = true)) p (hp : H1 p = none), Q (.ref p) (upd H1 p (.lst [V.int (-2)])) := fun {H1} s1 h p hp => k.refused R (window_bad c1 h) s1 hp
    -- len(hours) % 2 != 0 or len(hours) > 2 * MOST_WINDOWS
    refine ⟨_, rfl, a, _, rfl, .inl ha, _, _, rfl, rfl, (by show (0 : Int) < 2; decide), rfl, _, rfl, ?_⟩
    rw [List.length_map]
    by_cases e2 : ns.length % 2 = 0
    · have d2 : decide (V.int ((ns.length : Int) % 2) = V.int 0) = true := decide_eq_true (by rw [show (ns.length : Int) % 2 = 0 by omega])
      rw [d2]
      refine iteF ⟨_, rfl, a, _, rfl, .inl ha, _, _, rfl, rfl, .inl ⟨by decide, by decide⟩, _, _, rfl, rfl, _, rfl, ?_⟩
      rw [List.length_map]
      refine ite2 (fun c3 => ?_) (fun c3 => ?_)
      · have := of_decide_eq_true c3
        exact ⟨one_le, fun p hp => bad (Same.refl H) (fun z => by omega) p hp⟩
      have h8 : ns.length ≤ 8 := by
        have : ¬ (2 * 4 : Int) < (ns.length : Int) := fun z => c3 (decide_eq_true z)
        omega
      -- pairs = pairs_of(hours)
      refine ⟨_, rfl, a, ns, rfl, ha, e2, h8, fun H1 p ts s1 hp0 hf hp hpr => ?_⟩
      obtain ⟨l, el1, el2, hl⟩ := paired_zip hpr
      have R1 := R.same s1
      have hp' : H1 p = some (.lst (l.map fun x => V.ref x.1)) := by
        rw [hp, el1, List.map_map]
        rfl
      have hpl := pairs_len ns e2
      have hll : l.length ≤ 4 := by
        have := congrArg List.length el2
        rw [List.length_map] at this
        omega
      -- if not all([is_window(pair, queue.day) for pair in pairs])
      refine ⟨_, rfl, p, rfl, ⟨_, SqL.of hp⟩, fun E1 hE => ?_⟩
      refine lc_reads (l := l) (val := fun x => V.ref x.1) (p := fun _ => true) (g := fun x => V.bl (okPair s.day x.2)) hE (SqL.of hp') (Nat.lt_of_le_of_lt hll (by decide)) (fun _ _ => rfl) (fun x hx H2 s2 Q2 k2 => k2 H2 (Same.refl H2)) (fun x hx _ H2 s2 Q2 k2 => ?_) (fun H2 s2 h2 => ?_)
      · exact ⟨_, rfl, _, rfl, _, _, _, _, _, rfl, (R1.same s2).ob, T.k_Queue, T.n_Queue_day, rfl, x.1, x.2.1, x.2.2, s.day, rfl, s2 _ _ (hl x hx), fun H3 s3 => k2 H3 s3⟩
      refine ⟨E1, l.map (fun x => okPair s.day x.2), rfl, SqL.of (by
        rw [h2, List.filter_eq_self.mpr (fun _ _ => rfl), List.map_map]
        rfl), _, rfl, ?_⟩
      have eall : (l.map fun x => okPair s.day x.2).all id = (pairsOf ns).all (okPair s.day) := by
        rw [el2, List.all_map, List.all_map]
        rfl
      rw [eall]
      have s12 := s1.trans s2
      cases ea : (pairsOf ns).all (okPair s.day) with
      | false =>
        refine iteT ⟨one_le, fun p hp => bad s12 (fun z => ?_) p hp⟩
        rw [ea] at z
        cases z.2.2
      | true =>
        refine iteF ?_
        have R2 := R.same s12
        have ec : c = (c.toNat : Int) := by omega
        -- queue.windows[group] = pairs
        refine ⟨_, rfl, _, rfl, _, _, _, _, _, rfl, R2.ob, T.k_Queue, T.n_Queue_windows, rfl, _, rfl, D.aW, _, rfl, DPut.k (k := Sum.inl c) R2.oW (dK_len (Nat.le_trans R.nW (by omega))), ?_⟩
        have neWp : D.aW ≠ p := ne_of_none R.oW hp0
        have hW : (upd H2 D.aW (.dK (putK D.kW (Sum.inl c) (.ref p)))) D.aW = some (.dK (putK D.kW (Sum.inl (c.toNat : Int)) (.ref p))) := by rw [upd_same, ← ec]
        have hp3 : (upd H2 D.aW (.dK (putK D.kW (Sum.inl c) (.ref p)))) p = some (.lst (ts.map V.ref)) := by rw [upd_ne neWp.symm]; exact s2 _ _ hp
        obtain ⟨O', R3, F3⟩ := R.window (c := c.toNat) (l := p) (ts := ts) (ws := (pairsOf ns).map natPair) (H' := upd H2 D.aW (.dK (putK D.kW (Sum.inl c) (.ref p)))) hp0 hf (by rw [List.length_map]; omega) (fun w hw => by
            obtain ⟨v, hv, rfl⟩ := List.mem_map.mp hw
            exact (natPair_ok (List.all_eq_true.mp ea v hv)).2.2) hW hp3
          (paired_mono (paired_nat hpr ea) fun b v hb => by
            rw [upd_ne (ne_of (s2 _ _ hb) R2.oW (by intro z; cases z))]
            exact s2 _ _ hb)
          (fun b hb hne => by
            cases z : H b with
            | none => exact absurd z hb
            | some o =>
              rw [upd_ne hne]
              exact s12 _ _ z)
        refine ⟨_, rfl, p, _, rfl, .inl (SqL.of hp3), one_le, fun p2 hp2 => ?_⟩
        have hlt : ts.length = (pairsOf ns).length := by
          rw [el1, el2, List.length_map, List.length_map]
        have z := k.ok1 (window_out c1 e2 h8 ea) R3 F3 hp2
        have el : ([Vamrqg.ofNat (pairsOf ns).length] : List Int).map V.int = [V.int ((ts.map V.ref).length : Int)] := by
          rw [List.length_map, hlt]
          rfl
        rw [el] at z
        exact z
    · have d2 : decide (V.int ((ns.length : Int) % 2) = V.int 0) = false := decide_eq_false (fun z => by have := V.int.inj z; omega)
      rw [d2]
      exact iteT (iteT ⟨one_le, fun p hp => bad (Same.refl H) (fun z => e2 z.1) p hp⟩)
end
end Ag

/-! outcome, again, withdraw. -/
set_option Elab.async false
set_option linter.all false
set_option maxRecDepth 100000
set_option maxHeartbeats 4000000
namespace Ag
open PySem PySem.Spec PyProof.Rows L2
open Vamrqg (State Item idsOf windowsOf endOf known)
section
variable {P : Program} {w : World} {K : PySem.W.Frag} {mg : Str → Option Value} {base : Heap} {t : Ad}
theorem two_le : 2 ≤ sizeLine := by decide
def spOutcome (t : Ad) : Sp := fun vs H Q _ => ∃ (q : Addr) (s : State) (O : Own) (D : Ads) (n : Nat) (i ok : Int), vs = [.ref q, .int i, .int ok] ∧ Rp t H q s O D n ∧ Dn t H q s O n (.outcome i ok) Q
theorem outcome_out {s : State} {i ok : Int} (h : 0 ≤ ok ∧ ok ≤ 1) : Vamrqg.outcome s (.outcome i ok) = s.runs i fun x => .ok (s.with_ s.waiting (Vamrqg.dropId s.running x.id) (s.ended ++ [(x.id, if ok.toNat = 1 then Vamrqg.End.landed else Vamrqg.End.rejected)]), [Vamrqg.ofNat (s.ended.length + 1)]) := by
  show Vamrqg.andThen (Vamrqg.ranged ok 0 1) _ = _
  rw [ranged_ok h]
  rfl
theorem ok_outcome (T : Txt K mg t) : FnOk P w K mg base CX0 2 t.f_outcome t.d_outcome ["queue", "number", "landed"] (spOutcome t) := by
  refine T.F_outcome.ok sc_outcome (fun vs H Q E h => ?_) (fun cdv A outer s H vs Q E hr h => ?_)
  · obtain ⟨q, s, O, D, n, i, ok, rfl, _⟩ := h
    rfl
  · obtain ⟨q, s, O, D, n, i, ok, rfl, R, k⟩ := h
    have hu := hu_of hr
    refine ⟨_, (pss_cons (ps_if (pt_cmpR (op_notIn_seqK (K := K)) (pv 2) (pe_tup (pa_cons pe_int (pa_cons pe_int pa_nil))) (by with_unfolding_all rfl)) (pss_one (ps_ret (pe_lst (pa_cons (pe_gint rfl T.v_OUT_OF_RANGE) pa_nil)))) pss_nil)
      (pss_cons (ps_if (pt_cmpR (op_notIn_seqK (K := K)) (pv 1) (pe_fldK (K := K) (pv 0)) (by with_unfolding_all rfl)) (pss_one (ps_ret (pe_lst (pa_cons (pe_gint rfl T.v_NO_SUCH_ITEM) pa_nil)))) pss_nil)
      (pss_cons (ps_expr (pe_bm PySem.F.plainAttrs_list PySem.F.slot_list_remove PySem.F.type_list_remove mt_remove (pe_fldK (K := K) (pv 0)) (pa_cons (pv 1) pa_nil)))
      (pss_cons (ps_dput hu (pe_fldK (K := K) (pv 0)) (pv 1) (pe_ifExp (pt_cmpR op_eq (pv 2) pe_int (nomark _)) (pe_gint rfl T.v_LANDED) (pe_gint rfl T.v_REJECTED)) rfl)
      (pss_one (ps_ret (pe_lst (pa_cons (pe_callB call_lenD (by rfl) T.z_len PySem.boot_len (pa_cons (pe_fldK (K := K) (pv 0)) pa_nil)) pa_nil)))))))), ?_⟩
    -- if landed not in (0, 1)
    refine ⟨_, rfl, two_le, fun tp htp => ⟨tp, _, rfl, .inr (SqT.of upd_same), rfl, rfl, _, rfl, ?_⟩⟩
    have s1 := Same.new (o := .tup [V.int 0, V.int 1]) htp
    revert s1
    generalize upd H tp (.tup [V.int 0, V.int 1]) = H1
    intro s1
    have R1 := R.same s1
    show if (if true = true then !inV (.int ok) [V.int 0, V.int 1] else inV (.int ok) [V.int 0, V.int 1]) = true then _ else _
    rw [if_pos rfl, in01]
    by_cases c : 0 ≤ ok ∧ ok ≤ 1
    rotate_left
    · rw [decide_eq_false c]
      refine iteT ⟨one_le, fun p hp => k.refused R ?_ s1 hp⟩
      show Vamrqg.andThen (Vamrqg.ranged ok 0 1) _ = _
      rw [ranged_no c]
      rfl
    rw [decide_eq_true c]
    refine iteF ?_
    have hout := outcome_out (s := s) (i := i) c
    -- if number not in queue.running
    refine ⟨_, rfl, _, rfl, _, _, _, _, _, rfl, R1.ob, T.k_Queue, T.n_Queue_running, rfl, D.aR, _, rfl, .inl (SqL.of R1.oR), rfl, flat_ids _, _, rfl, ?_⟩
    show if (if true = true then !inV (.int i) ((idsOf s.running).map nV) else inV (.int i) ((idsOf s.running).map nV)) = true then _ else _
    rw [if_pos rfl, inV_find]
    cases ef : s.running.find? (fun x => decide ((x.id : Int) = i)) with
    | none =>
      refine iteT ⟨one_le, fun p hp => k.refused R ?_ s1 hp⟩
      rw [hout, runs_none ef]
    | some x =>
      refine iteF ?_
      rw [runs_some ef] at hout
      obtain ⟨hx, ei⟩ := find_id ef
      subst ei
      have g := R.good
      have hend : endOf s x.id = none := (endOf_none x.id).mpr (g.re (mem_ids hx))
      obtain ⟨j, hj, hno, her⟩ := remove_first g.ndR (mem_ids hx)
      rw [drop_ids] at her
      -- queue.running.remove(number)
      refine ⟨_, rfl, _, _, _, _, _, rfl, R1.ob, T.k_Queue, T.n_Queue_running, rfl, .inl ⟨rfl, _, SqL.of R1.oR⟩, _, rfl, D.aR, intsL (idsOf s.running), (x.id : Int), j, rfl, rfl, by rw [ints_V]; exact R1.oR, hj, hno, ?_⟩
      rw [her]
      have neRq : D.aR ≠ q := lab_ne R.lR R.lq (by simp)
      have neRE : D.aR ≠ D.aE := lab_ne R.lR R.lE (by simp)
      have neRW : D.aR ≠ D.aWt := lab_ne R.lR R.lWt (by simp)
      have neEq : D.aE ≠ q := lab_ne R.lE R.lq (by simp)
      have neEW : D.aE ≠ D.aWt := lab_ne R.lE R.lWt (by simp)
      have q2 : (upd H1 D.aR (.lst ((idsOf (Vamrqg.dropId s.running x.id)).map nV))) q = some (.ins t.c_Queue D.dq (fQ s.limit s.day s.time D)) := by rw [upd_ne neRq.symm]; exact R1.ob
      have e2 : (upd H1 D.aR (.lst ((idsOf (Vamrqg.dropId s.running x.id)).map nV))) D.aE = some (.dK D.kE) := by rw [upd_ne neRE.symm]; exact R1.oE
      have fin : ∀ e : Vamrqg.End, e = (if ok.toNat = 1 then Vamrqg.End.landed else Vamrqg.End.rejected) → ∀ H3 p, H3 = upd (upd H1 D.aR (.lst ((idsOf (Vamrqg.dropId s.running x.id)).map nV))) D.aE (.dK (putK D.kE (Sum.inl (x.id : Int)) (V.int (endN e)))) → H3 p = none → Q (.ref p) (upd H3 p (.lst [V.int ((putK D.kE (Sum.inl (x.id : Int)) (V.int (endN e))).length : Int)])) := by
        intro e he H3 p e3 hp
        rw [← he] at hout
        obtain ⟨l1, l2⟩ := R1.ends (e := e) hend s.waiting (Vamrqg.dropId s.running x.id)
        obtain ⟨R3, F3⟩ := R1.move (H' := H3) (w := s.waiting) (r := Vamrqg.dropId s.running x.id) (e := s.ended ++ [(x.id, e)]) (good_outcome g hx e) (by rw [e3, upd_ne neEW.symm, upd_ne neRW.symm]; exact R1.oWt) (by rw [e3, upd_ne neRE, upd_same]) (by rw [e3, upd_same]) l1 l2
          (fun b h1 h2 h3 => by rw [e3, upd_ne h3, upd_ne h2]) (fun y hy => by
            rcases List.mem_append.mp hy with z | z
            · exact List.mem_append_left _ z
            · exact List.mem_append_right _ (mem_drop z).1) (known_outcome e hx) (by
            have := drop_len g.ndR (mem_ids hx)
            rw [List.length_append, List.length_singleton]
            omega)
        have z := k.ok1 hout (R3.mono (Nat.le_succ n)) ((Fram.same s1).trans F3) hp
        rw [l1, List.length_map, List.length_append, List.length_singleton]
        exact z
      -- queue.ended[number] = LANDED if landed == 1 else REJECTED
      refine ⟨_, rfl, rfl, _, rfl, ?_⟩
      by_cases c1 : ok = 1
      · rw [decide_eq_true (by rw [c1])]
        refine iteT ⟨_, rfl, _, _, _, _, _, rfl, q2, T.k_Queue, T.n_Queue_ended, rfl, _, rfl, D.aE, _, rfl, DPut.k (k := Sum.inl (x.id : Int)) e2 (dK_len (by have := R.nE; have := g.all; omega)), ?_⟩
        refine ⟨_, rfl, _, _, _, _, _, rfl, (by rw [upd_ne neEq.symm]; exact q2), T.k_Queue, T.n_Queue_ended, rfl, D.aE, _, rfl, upd_same, one_le, fun p hp => ?_⟩
        exact fin .landed (by rw [c1]; rfl) _ p rfl hp
      · rw [decide_eq_false (fun z => c1 (V.int.inj z))]
        refine iteF ⟨_, rfl, _, _, _, _, _, rfl, q2, T.k_Queue, T.n_Queue_ended, rfl, _, rfl, D.aE, _, rfl, DPut.k (k := Sum.inl (x.id : Int)) e2 (dK_len (by have := R.nE; have := g.all; omega)), ?_⟩
        refine ⟨_, rfl, _, _, _, _, _, rfl, (by rw [upd_ne neEq.symm]; exact q2), T.k_Queue, T.n_Queue_ended, rfl, D.aE, _, rfl, upd_same, one_le, fun p hp => ?_⟩
        exact fin .rejected (by rw [if_neg (by omega)]) _ p rfl hp

def spAgain (t : Ad) : Sp := fun vs H Q _ => ∃ (q : Addr) (s : State) (O : Own) (D : Ads) (n : Nat) (i : Int), vs = [.ref q, .int i] ∧ Rp t H q s O D n ∧ Dn t H q s O n (.again i) Q
theorem ok_again (T : Txt K mg t) : FnOk P w K mg base CX0 2 t.f_again t.d_again ["queue", "number"] (spAgain t) := by
  refine T.F_again.ok sc_again (fun vs H Q E h => ?_) (fun cdv A outer s H vs Q E hr h => ?_)
  · obtain ⟨q, s, O, D, n, i, rfl, _⟩ := h
    rfl
  · obtain ⟨q, s, O, D, n, i, rfl, R, k⟩ := h
    have hu := hu_of hr
    refine ⟨_, (pss_cons (ps_if (pt_cmpR (op_notIn_seqK (K := K)) (pv 1) (pe_fldK (K := K) (pv 0)) (by with_unfolding_all rfl)) (pss_one (ps_ret (pe_lst (pa_cons (pe_gint rfl T.v_NO_SUCH_ITEM) pa_nil)))) pss_nil)
      (pss_cons (ps_expr (pe_bm PySem.F.plainAttrs_list PySem.F.slot_list_remove PySem.F.type_list_remove mt_remove (pe_fldK (K := K) (pv 0)) (pa_cons (pv 1) pa_nil)))
      (pss_cons (ps_expr (pe_bm PySem.F.plainAttrs_list PySem.F.slot_list_insert PySem.F.type_list_insert mt_insert (pe_fldK (K := K) (pv 0)) (pa_cons pe_int (pa_cons (pv 1) pa_nil))))
      (pss_one (ps_ret (pe_lst (pa_cons (pe_callB (call_len_seqK (K := K)) (by rfl) T.z_len PySem.boot_len (pa_cons (pe_fldK (K := K) (pv 0)) pa_nil)) pa_nil))))))), ?_⟩
    have hout : Vamrqg.outcome s (.again i) = s.runs i fun x => .ok (s.with_ (x :: s.waiting) (Vamrqg.dropId s.running x.id) s.ended, [Vamrqg.ofNat (s.waiting.length + 1)]) := rfl
    -- if number not in queue.running
    refine ⟨_, rfl, _, rfl, _, _, _, _, _, rfl, R.ob, T.k_Queue, T.n_Queue_running, rfl, D.aR, _, rfl, .inl (SqL.of R.oR), rfl, flat_ids _, _, rfl, ?_⟩
    show if (if true = true then !inV (.int i) ((idsOf s.running).map nV) else inV (.int i) ((idsOf s.running).map nV)) = true then _ else _
    rw [if_pos rfl, inV_find]
    cases ef : s.running.find? (fun x => decide ((x.id : Int) = i)) with
    | none =>
      refine iteT ⟨one_le, fun p hp => k.refused R ?_ (Same.refl H) hp⟩
      rw [hout, runs_none ef]
    | some x =>
      refine iteF ?_
      rw [runs_some ef] at hout
      obtain ⟨hx, ei⟩ := find_id ef
      subst ei
      have g := R.good
      obtain ⟨j, hj, hno, her⟩ := remove_first g.ndR (mem_ids hx)
      rw [drop_ids] at her
      -- queue.running.remove(number)
      refine ⟨_, rfl, _, _, _, _, _, rfl, R.ob, T.k_Queue, T.n_Queue_running, rfl, .inl ⟨rfl, _, SqL.of R.oR⟩, _, rfl, D.aR, intsL (idsOf s.running), (x.id : Int), j, rfl, rfl, by rw [ints_V]; exact R.oR, hj, hno, ?_⟩
      rw [her]
      have neRq : D.aR ≠ q := lab_ne R.lR R.lq (by simp)
      have neRE : D.aR ≠ D.aE := lab_ne R.lR R.lE (by simp)
      have neRW : D.aR ≠ D.aWt := lab_ne R.lR R.lWt (by simp)
      have neWq : D.aWt ≠ q := lab_ne R.lWt R.lq (by simp)
      have neEW : D.aE ≠ D.aWt := lab_ne R.lE R.lWt (by simp)
      have q2 : (upd H D.aR (.lst ((idsOf (Vamrqg.dropId s.running x.id)).map nV))) q = some (.ins t.c_Queue D.dq (fQ s.limit s.day s.time D)) := by rw [upd_ne neRq.symm]; exact R.ob
      have w2 : (upd H D.aR (.lst ((idsOf (Vamrqg.dropId s.running x.id)).map nV))) D.aWt = some (.lst ((idsOf s.waiting).map nV)) := by rw [upd_ne neRW.symm]; exact R.oWt
      -- queue.waiting.insert(0, number)
      refine ⟨_, rfl, _, _, _, _, _, rfl, q2, T.k_Queue, T.n_Queue_waiting, rfl, .inl ⟨rfl, _, SqL.of w2⟩, _, rfl, D.aWt, _, _, rfl, rfl, w2, ?_, ?_⟩
      · rw [List.length_map, idsOf, List.length_map]
        exact Nat.lt_of_le_of_lt (by have := g.few; omega : s.waiting.length ≤ 40) (by decide)
      refine ⟨_, rfl, _, _, _, _, _, rfl, (by rw [upd_ne neWq.symm]; exact q2), T.k_Queue, T.n_Queue_waiting, rfl, D.aWt, _, rfl, .inl (SqL.of upd_same), one_le, fun p hp => ?_⟩
      have el : V.int (x.id : Int) :: (idsOf s.waiting).map nV = (idsOf (x :: s.waiting)).map nV := rfl
      obtain ⟨R3, F3⟩ := R.move (H' := upd (upd H D.aR (.lst ((idsOf (Vamrqg.dropId s.running x.id)).map nV))) D.aWt (.lst (V.int (x.id : Int) :: (idsOf s.waiting).map nV))) (w := x :: s.waiting) (r := Vamrqg.dropId s.running x.id) (e := s.ended) (kE' := D.kE) (good_again g hx) (by rw [upd_same, el]) (by rw [upd_ne neRW, upd_same]) (by rw [upd_ne neEW, upd_ne neRE.symm]; exact R.oE) R.lsE R.end_
          (fun b h1 h2 h3 => by rw [upd_ne h1, upd_ne h2]) (fun y hy => by
            rcases List.mem_append.mp hy with z | z
            · rcases List.mem_cons.mp z with z | z
              · rw [z]; exact List.mem_append_right _ hx
              · exact List.mem_append_left _ z
            · exact List.mem_append_right _ (mem_drop z).1) (known_again hx) (by
            have := drop_len g.ndR (mem_ids hx)
            rw [List.length_cons]
            omega)
      have z := k.ok1 hout (R3.mono (Nat.le_succ n)) F3 hp
      have e5 : ([Vamrqg.ofNat (s.waiting.length + 1)] : List Int).map V.int = [V.int ((V.int (x.id : Int) :: (idsOf s.waiting).map nV).length : Int)] := by
        rw [List.length_cons, List.length_map, idsOf, List.length_map]
        rfl
      rw [e5] at z
      exact z

def spWithdraw (t : Ad) : Sp := fun vs H Q _ => ∃ (q : Addr) (s : State) (O : Own) (D : Ads) (n : Nat) (i : Int), vs = [.ref q, .int i] ∧ Rp t H q s O D n ∧ Dn t H q s O n (.withdraw i) Q
theorem ok_withdraw (T : Txt K mg t) : FnOk P w K mg base CX0 2 t.f_withdraw t.d_withdraw ["queue", "number"] (spWithdraw t) := by
  refine T.F_withdraw.ok sc_withdraw (fun vs H Q E h => ?_) (fun cdv A outer s H vs Q E hr h => ?_)
  · obtain ⟨q, s, O, D, n, i, rfl, _⟩ := h
    rfl
  · obtain ⟨q, s, O, D, n, i, rfl, R, k⟩ := h
    have hu := hu_of hr
    refine ⟨_, (pss_cons (ps_if (pt_cmpR (op_notIn_seqK (K := K)) (pv 1) (pe_fldK (K := K) (pv 0)) (by with_unfolding_all rfl)) (pss_one (ps_ret (pe_lst (pa_cons (pe_gint rfl T.v_NO_SUCH_ITEM) pa_nil)))) pss_nil)
      (pss_cons (ps_expr (pe_bm PySem.F.plainAttrs_list PySem.F.slot_list_remove PySem.F.type_list_remove mt_remove (pe_fldK (K := K) (pv 0)) (pa_cons (pv 1) pa_nil)))
      (pss_cons (ps_dput hu (pe_fldK (K := K) (pv 0)) (pv 1) (pe_gint rfl T.v_WITHDRAWN) rfl)
      (pss_one (ps_ret (pe_lst (pa_cons (pe_callB (call_len_seqK (K := K)) (by rfl) T.z_len PySem.boot_len (pa_cons (pe_fldK (K := K) (pv 0)) pa_nil)) pa_nil))))))), ?_⟩
    have hout : Vamrqg.outcome s (.withdraw i) = s.withdraw i := rfl
    unfold Vamrqg.State.withdraw at hout
    -- if number not in queue.waiting
    refine ⟨_, rfl, _, rfl, _, _, _, _, _, rfl, R.ob, T.k_Queue, T.n_Queue_waiting, rfl, D.aWt, _, rfl, .inl (SqL.of R.oWt), rfl, flat_ids _, _, rfl, ?_⟩
    show if (if true = true then !inV (.int i) ((idsOf s.waiting).map nV) else inV (.int i) ((idsOf s.waiting).map nV)) = true then _ else _
    rw [if_pos rfl, inV_find]
    cases ef : s.waiting.find? (fun x => decide ((x.id : Int) = i)) with
    | none =>
      rw [ef] at hout
      exact iteT ⟨one_le, fun p hp => k.refused R hout (Same.refl H) hp⟩
    | some x =>
      refine iteF ?_
      rw [ef] at hout
      obtain ⟨hx, ei⟩ := find_id ef
      subst ei
      have g := R.good
      have hend : endOf s x.id = none := (endOf_none x.id).mpr (g.we (mem_ids hx))
      obtain ⟨j, hj, hno, her⟩ := remove_first g.ndW (mem_ids hx)
      rw [drop_ids] at her
      -- queue.waiting.remove(number)
      refine ⟨_, rfl, _, _, _, _, _, rfl, R.ob, T.k_Queue, T.n_Queue_waiting, rfl, .inl ⟨rfl, _, SqL.of R.oWt⟩, _, rfl, D.aWt, intsL (idsOf s.waiting), (x.id : Int), j, rfl, rfl, by rw [ints_V]; exact R.oWt, hj, hno, ?_⟩
      rw [her]
      have neWq : D.aWt ≠ q := lab_ne R.lWt R.lq (by simp)
      have neRE : D.aR ≠ D.aE := lab_ne R.lR R.lE (by simp)
      have neRW : D.aR ≠ D.aWt := lab_ne R.lR R.lWt (by simp)
      have neEq : D.aE ≠ q := lab_ne R.lE R.lq (by simp)
      have neEW : D.aE ≠ D.aWt := lab_ne R.lE R.lWt (by simp)
      have q2 : (upd H D.aWt (.lst ((idsOf (Vamrqg.dropId s.waiting x.id)).map nV))) q = some (.ins t.c_Queue D.dq (fQ s.limit s.day s.time D)) := by rw [upd_ne neWq.symm]; exact R.ob
      have e2 : (upd H D.aWt (.lst ((idsOf (Vamrqg.dropId s.waiting x.id)).map nV))) D.aE = some (.dK D.kE) := by rw [upd_ne neEW]; exact R.oE
      -- queue.ended[number] = WITHDRAWN
      refine ⟨_, rfl, _, _, _, _, _, rfl, q2, T.k_Queue, T.n_Queue_ended, rfl, _, rfl, D.aE, _, rfl, DPut.k (k := Sum.inl (x.id : Int)) e2 (dK_len (by have := R.nE; have := g.all; omega)), ?_⟩
      have w3 : (upd (upd H D.aWt (.lst ((idsOf (Vamrqg.dropId s.waiting x.id)).map nV))) D.aE (.dK (putK D.kE (Sum.inl (x.id : Int)) (V.int 9)))) D.aWt = some (.lst ((idsOf (Vamrqg.dropId s.waiting x.id)).map nV)) := by rw [upd_ne neEW.symm, upd_same]
      refine ⟨_, rfl, _, _, _, _, _, rfl, (by rw [upd_ne neEq.symm]; exact q2), T.k_Queue, T.n_Queue_waiting, rfl, D.aWt, _, rfl, .inl (SqL.of w3), one_le, fun p hp => ?_⟩
      obtain ⟨l1, l2⟩ := R.ends (e := Vamrqg.End.withdrawn) hend (Vamrqg.dropId s.waiting x.id) s.running
      obtain ⟨R3, F3⟩ := R.move (H' := upd (upd H D.aWt (.lst ((idsOf (Vamrqg.dropId s.waiting x.id)).map nV))) D.aE (.dK (putK D.kE (Sum.inl (x.id : Int)) (V.int 9)))) (w := Vamrqg.dropId s.waiting x.id) (r := s.running) (e := s.ended ++ [(x.id, Vamrqg.End.withdrawn)]) (good_withdraw g hx Vamrqg.End.withdrawn) w3 (by rw [upd_ne neRE, upd_ne neRW]; exact R.oR) upd_same l1 l2
          (fun b h1 h2 h3 => by rw [upd_ne h3, upd_ne h1]) (fun y hy => by
            rcases List.mem_append.mp hy with z | z
            · exact List.mem_append_left _ (mem_drop z).1
            · exact List.mem_append_right _ z) (known_withdraw Vamrqg.End.withdrawn hx) (by
            have := drop_len g.ndW (mem_ids hx)
            rw [List.length_append, List.length_singleton]
            omega)
      have z := k.ok1 hout (R3.mono (Nat.le_succ n)) F3 hp
      have e5 : ([Vamrqg.ofNat (s.waiting.length - 1)] : List Int).map V.int = [V.int (((idsOf (Vamrqg.dropId s.waiting x.id)).map nV).length : Int)] := by
        have := drop_len g.ndW (mem_ids hx)
        rw [List.length_map, idsOf, List.length_map, show s.waiting.length - 1 = (Vamrqg.dropId s.waiting x.id).length by omega]
        rfl
      rw [e5] at z
      exact z
end
end Ag

/-! why, place, next_open, status. -/
set_option Elab.async false
set_option linter.all false
set_option maxRecDepth 100000
set_option maxHeartbeats 4000000
namespace Ag
open PySem PySem.Spec PyProof.Rows L2
open Vamrqg (State Item idsOf windowsOf endOf known)
section
variable {P : Program} {w : World} {K : PySem.W.Frag} {mg : Str → Option Value} {base : Heap} {t : Ad}
theorem listed_V (h : Int) (l : List Nat) : (h :: Vamrqg.listed l).map V.int = [V.int h, V.int ((l.map nV).length : Int)] ++ l.map nV := by
  unfold Vamrqg.listed
  rw [List.map_cons, List.map_cons, List.map_map, List.length_map]
  rfl
def spWhyW (t : Ad) : Sp := fun vs H Q _ => ∃ (q : Addr) (s : State) (O : Own) (D : Ads) (n : Nat) (x : Item), vs = [.ref q, .ref (D.ia x.id)] ∧ Rp t H q s O D n ∧ x ∈ s.waiting ++ s.running ∧
  ∀ (H' : Hp) (p : Addr), Same H H' → H p = none → H' p = some (.lst ((Vamrqg.whyWaiting s x).map V.int)) → Q (.ref p) H'
theorem ok_why_waiting (T : Txt K mg t) : FnOk P w K mg base CX0 3 t.f_why_waiting t.d_why_waiting ["queue", "item"] (spWhyW t) := by
  refine T.F_why_waiting.ok sc_why_waiting (fun vs H Q E h => ?_) (fun cdv A outer s H vs Q E hr h => ?_)
  · obtain ⟨q, s, O, D, n, x, rfl, _⟩ := h
    rfl
  · obtain ⟨q, s, O, D, n, x, rfl, R, hx, k⟩ := h
    have hu := hu_of hr
    refine ⟨_, (pss_cons (ps_setLc (i := 2) rfl sc_why_waiting.nd rfl rfl (sw_true rfl rfl rfl rfl) (pi_listK (K := K) (pe_fldK (K := K) (pv 1))) (own := [("need", 3)]) (blkOk_by (by show blkC ["queue", "item", "missing", "need", "lost"] (defScope s_why_waiting) _ _ = true; decide +kernel)) (fun _ _ _ _ _ => pg_name (i := 3) sc_why_waiting.nd rfl (Or.inl rfl)) (fun _ _ _ _ _ => (pts_one (pt_not (pt_val (pe_call (ok_has_landed T) (hr.mono (by decide)) rfl T.g_has_landed T.F_has_landed.kp T.b_has_landed .nil pass0 (pa_cons (pv 0) (pa_cons (pv 3) pa_nil))))))) (fun _ _ _ _ _ => (pv 3)))
      (pss_cons (ps_setLc (i := 4) rfl sc_why_waiting.nd rfl rfl (sw_true rfl rfl rfl rfl) (pi_listK (K := K) (pv 2)) (own := [("need", 3)]) (blkOk_by (by show blkC ["queue", "item", "missing", "need", "lost"] (defScope s_why_waiting) _ _ = true; decide +kernel)) (fun _ _ _ _ _ => pg_name (i := 3) sc_why_waiting.nd rfl (Or.inl rfl)) (fun _ _ _ _ _ => (pts_one (pt_cmp (pc_din hu (pv 3) (pe_fldK (K := K) (pv 0)))))) (fun _ _ _ _ _ => (pv 3)))
      (pss_cons (ps_if (pt_cmpR op_gt (pe_callB (call_len_seqK (K := K)) (by rfl) T.z_len PySem.boot_len (pa_cons (pv 4) pa_nil)) pe_int (nomark _)) (pss_one (ps_ret (pe_op op_cat (pe_lst (pa_cons (pe_gint rfl T.v_NEEDS_LOST) (pa_cons (pe_callB (call_len_seqK (K := K)) (by rfl) T.z_len PySem.boot_len (pa_cons (pv 4) pa_nil)) pa_nil))) (pv 4)))) pss_nil)
      (pss_cons (ps_if (pt_cmpR op_gt (pe_callB (call_len_seqK (K := K)) (by rfl) T.z_len PySem.boot_len (pa_cons (pv 2) pa_nil)) pe_int (nomark _)) (pss_one (ps_ret (pe_op op_cat (pe_lst (pa_cons (pe_gint rfl T.v_NEEDS_MISSING) (pa_cons (pe_callB (call_len_seqK (K := K)) (by rfl) T.z_len PySem.boot_len (pa_cons (pv 2) pa_nil)) pa_nil))) (pv 2)))) pss_nil)
      (pss_cons (ps_if (pt_val (pe_call (ok_is_frozen T) (hr.mono (by decide)) rfl T.g_is_frozen T.F_is_frozen.kp T.b_is_frozen .nil pass0 (pa_cons (pv 0) (pa_cons (pe_fldK (K := K) (pv 1)) pa_nil)))) (pss_one (ps_ret (pe_lst (pa_cons (pe_gint rfl T.v_FROZEN) pa_nil)))) pss_nil)
      (pss_cons (ps_if (pt_not (pt_val (pe_call (ok_is_within_hours T) (hr.mono (by decide)) rfl T.g_is_within_hours T.F_is_within_hours.kp T.b_is_within_hours .nil pass0 (pa_cons (pv 0) (pa_cons (pe_fldK (K := K) (pv 1)) (pa_cons (pe_fldK (K := K) (pv 0)) pa_nil)))))) (pss_one (ps_ret (pe_lst (pa_cons (pe_gint rfl T.v_OUTSIDE_HOURS) pa_nil)))) pss_nil)
      (pss_one (ps_ret (pe_lst (pa_cons (pe_gint rfl T.v_READY) (pa_cons (pe_fldK (K := K) (pv 1)) pa_nil))))))))))), ?_⟩
    have I := R.item x hx
    have hn6 : x.needs.length ≤ 6 := (R.good.its x hx).2.2.2
    have hn : x.needs.length < sizeLine := Nat.lt_of_le_of_lt hn6 (by decide)
    -- missing
    refine ⟨_, rfl, _, _, _, _, _, rfl, I.ob, T.k_Item, T.n_Item_needs, rfl, D.na x.id, rfl, ⟨_, SqL.of I.nd⟩, fun E1 hE => ?_⟩
    refine lc_reads (l := x.needs) (val := nV) (p := fun i => !Vamrqg.isLanded s i) (g := nV) hE (SqL.of I.nd) hn (fun _ _ => rfl) (fun i hi H2 s2 Q2 k2 => ?_) (fun i hi _ H2 s2 Q2 k2 => ⟨_, rfl, k2 H2 (Same.refl H2)⟩) (fun H2 s2 h2 => ?_)
    · exact ⟨_, rfl, _, rfl, q, _, D.aE, _, D.kE, s, i, rfl, (R.same s2).ob, rfl, .inl (R.same s2).oE, R.end_ _, fun H3 s3 => ⟨_, rfl, k2 H3 s3⟩⟩
    have R2 := R.same s2
    -- lost
    refine ⟨_, rfl, E1, rfl, ⟨_, SqL.of h2⟩, fun E2 hE2 => ?_⟩
    refine lc_reads (l := x.needs.filter fun i => !Vamrqg.isLanded s i) (val := nV) (p := fun i => (endOf s i).isSome) (g := nV) hE2 (SqL.of h2) (Nat.lt_of_le_of_lt (List.length_filter_le _ _) hn) (fun _ _ => rfl) (fun i hi H3 s3 Q3 k3 => ?_) (fun i hi _ H3 s3 Q3 k3 => ⟨_, rfl, k3 H3 (Same.refl H3)⟩) (fun H3 s3 h3 => ?_)
    · have R3 := R2.same s3
      refine ⟨_, rfl, _, rfl, _, _, _, _, _, rfl, R3.ob, T.k_Queue, T.n_Queue_ended, rfl, D.aE, _, rfl, DGet.k (k := Sum.inl (i : Int)) R3.oE, _, rfl, ?_⟩
      have ev : (valV D.kE (Sum.inl (i : Int))).isSome = (endOf s i).isSome := by
        rw [R.end_, endI_nat, Option.isSome_map]
      rw [ev]
      exact k3 H3 (Same.refl H3)
    rw [filter_lost] at h3
    have h2' := s3 _ _ h2
    have s23 := s2.trans s3
    have R3 := R.same s23
    have I3 := R3.item x hx
    have hl6 : (x.needs.filter (Vamrqg.isLost s)).length ≤ 6 := Nat.le_trans (List.length_filter_le _ _) hn6
    have hm6 : (x.needs.filter fun i => !Vamrqg.isLanded s i).length ≤ 6 := Nat.le_trans (List.length_filter_le _ _) hn6
    -- if len(lost) > 0
    refine ⟨_, rfl, E2, _, rfl, .inl (SqL.of h3), _, _, rfl, rfl, _, rfl, ?_⟩
    rw [List.length_map]
    refine ite2 (fun c => ?_) (fun c => ?_)
    · have c' := of_decide_eq_true c
      have ew : Vamrqg.whyWaiting s x = 5 :: Vamrqg.listed (x.needs.filter (Vamrqg.isLost s)) := by
        unfold Vamrqg.whyWaiting
        rw [if_pos (by rw [any_filter]; exact decide_eq_true (by omega))]
      refine ⟨_, rfl, E2, _, rfl, .inl (SqL.of h3), two_le, fun c hc => ⟨_, rfl, c, E2, _, _, rfl, rfl, upd_same, Same.new hc _ _ h3, ?_, fun p hp => ?_⟩⟩
      · rw [List.length_map]
        exact Nat.le_trans (Nat.add_le_add_left hl6 2) (by decide)
      · have sf := s23.trans (Same.new (o := .lst [V.int 5, V.int (((x.needs.filter (Vamrqg.isLost s)).map nV).length : Int)]) hc)
        refine k _ p (sf.after (sf.free hp)) (sf.free hp) ?_
        rw [upd_same, ew, listed_V]
    have c1 : ¬ 0 < (x.needs.filter (Vamrqg.isLost s)).length := fun z => c (decide_eq_true (by omega))
    have n1 : ¬ x.needs.any (Vamrqg.isLost s) = true := by
      rw [any_filter]
      exact fun z => c1 (of_decide_eq_true z)
    -- if len(missing) > 0
    refine ⟨_, rfl, E1, _, rfl, .inl (SqL.of h2'), _, _, rfl, rfl, _, rfl, ?_⟩
    rw [List.length_map]
    refine ite2 (fun c => ?_) (fun c => ?_)
    · have c' := of_decide_eq_true c
      have ew : Vamrqg.whyWaiting s x = 4 :: Vamrqg.listed (x.needs.filter fun i => !Vamrqg.isLanded s i) := by
        unfold Vamrqg.whyWaiting
        rw [if_neg n1, if_pos (by rw [all_filter, decide_eq_true (by omega)]; rfl)]
      refine ⟨_, rfl, E1, _, rfl, .inl (SqL.of h2'), two_le, fun c hc => ⟨_, rfl, c, E1, _, _, rfl, rfl, upd_same, Same.new hc _ _ h2', ?_, fun p hp => ?_⟩⟩
      · rw [List.length_map]
        exact Nat.le_trans (Nat.add_le_add_left hm6 2) (by decide)
      · have sf := s23.trans (Same.new (o := .lst [V.int 4, V.int (((x.needs.filter fun i => !Vamrqg.isLanded s i).map nV).length : Int)]) hc)
        refine k _ p (sf.after (sf.free hp)) (sf.free hp) ?_
        rw [upd_same, ew, listed_V]
    have c2 : ¬ 0 < (x.needs.filter fun i => !Vamrqg.isLanded s i).length := fun z => c (decide_eq_true (by omega))
    have n2 : ¬ x.needs.all (Vamrqg.isLanded s) = false := by
      rw [all_filter, decide_eq_false c2]
      exact fun z => by cases z
    -- if is_frozen(queue, item.group)
    refine ⟨_, rfl, _, rfl, _, _, _, _, _, rfl, I3.ob, T.k_Item, T.n_Item_group, rfl, q, s, O, D, n, x.cls, rfl, R3, fun H4 s4 => ⟨_, rfl, ?_⟩⟩
    have s24 := s23.trans s4
    cases hf : Vamrqg.isFrozen s x.cls with
    | true =>
      have ew : Vamrqg.whyWaiting s x = [2] := by
        unfold Vamrqg.whyWaiting
        rw [if_neg n1, if_neg n2, if_pos hf]
      refine iteT ⟨one_le, fun p hp => k _ p (s24.after (s24.free hp)) (s24.free hp) ?_⟩
      rw [upd_same, ew]
      rfl
    | false =>
      refine iteF ?_
      have n3 : ¬ Vamrqg.isFrozen s x.cls = true := by rw [hf]; exact Bool.false_ne_true
      have R4 := R.same s24
      have I4 := R4.item x hx
      refine ⟨_, rfl, _, rfl, _, _, _, _, _, rfl, I4.ob, T.k_Item, T.n_Item_group, rfl, _, rfl, _, _, _, _, _, rfl, R4.ob, T.k_Queue, T.n_Queue_time, rfl, q, s, O, D, n, x.cls, s.time, rfl, R4, fun H5 s5 => ⟨_, rfl, ?_⟩⟩
      have s25 := s24.trans s5
      cases ho : Vamrqg.openAt s x.cls s.time with
      | false =>
        have ew : Vamrqg.whyWaiting s x = [3] := by
          unfold Vamrqg.whyWaiting
          rw [if_neg n1, if_neg n2, if_neg n3, if_pos ho]
        refine iteT ⟨one_le, fun p hp => k _ p (s25.after (s25.free hp)) (s25.free hp) ?_⟩
        rw [upd_same, ew]
        rfl
      | true =>
        have ew : Vamrqg.whyWaiting s x = [1, Vamrqg.ofNat x.passed] := by
          unfold Vamrqg.whyWaiting
          rw [if_neg n1, if_neg n2, if_neg n3, if_neg (by rw [ho]; exact fun z => by cases z)]
        refine iteF ?_
        have I5 := (R.same s25).item x hx
        refine ⟨_, rfl, _, _, _, _, _, rfl, I5.ob, T.k_Item, T.n_Item_passed, rfl, two_le, fun p hp => k _ p (s25.after (s25.free hp)) (s25.free hp) ?_⟩
        rw [upd_same, ew]
        rfl

theorem asked_why (s : State) (i : Int) {l : List Int} (h : s.why i = .ok l) : Vamrqg.outcome s (.why i) = .ok (s, l) := by
  show Vamrqg.andThen (s.why i) _ = _
  rw [h]
  rfl
theorem asked_whyE (s : State) (i : Int) {r : Int} (h : s.why i = .error r) : Vamrqg.outcome s (.why i) = .error r := by
  show Vamrqg.andThen (s.why i) _ = _
  rw [h]
  rfl
def spWhy (t : Ad) : Sp := fun vs H Q _ => ∃ (q : Addr) (s : State) (O : Own) (D : Ads) (n : Nat) (i : Int), vs = [.ref q, .int i] ∧ Rp t H q s O D n ∧ Dn t H q s O n (.why i) Q
theorem ok_why (T : Txt K mg t) : FnOk P w K mg base CX0 4 t.f_why t.d_why ["queue", "number"] (spWhy t) := by
  refine T.F_why.ok sc_why (fun vs H Q E h => ?_) (fun cdv A outer s H vs Q E hr h => ?_)
  · obtain ⟨q, s, O, D, n, i, rfl, _⟩ := h
    rfl
  · obtain ⟨q, s, O, D, n, i, rfl, R, k⟩ := h
    have hu := hu_of hr
    refine ⟨_, (pss_cons (ps_if (pt_cmp (pc_dnotin hu (pv 1) (pe_fldK (K := K) (pv 0)))) (pss_one (ps_ret (pe_lst (pa_cons (pe_gint rfl T.v_NO_SUCH_ITEM) pa_nil)))) pss_nil)
      (pss_cons (ps_if (pt_cmp (pc_din hu (pv 1) (pe_fldK (K := K) (pv 0)))) (pss_one (ps_ret (pe_lst (pa_cons (pe_dget hu (pe_fldK (K := K) (pv 0)) (pv 1) (fun _ _ => rfl)) pa_nil)))) pss_nil)
      (pss_cons (ps_if (pt_cmpR (op_in_seqK (K := K)) (pv 1) (pe_fldK (K := K) (pv 0)) (by with_unfolding_all rfl)) (pss_one (ps_ret (pe_lst (pa_cons (pe_gint rfl T.v_RUNS) pa_nil)))) pss_nil)
      (pss_one (ps_ret (pe_call (ok_why_waiting T) (hr.mono (by decide)) rfl T.g_why_waiting T.F_why_waiting.kp T.b_why_waiting .nil pass0 (pa_cons (pv 0) (pa_cons (pe_dget hu (pe_fldK (K := K) (pv 0)) (pv 1) (fun _ _ => rfl)) pa_nil)))))))), ?_⟩
    -- if number not in queue.known
    refine ⟨_, rfl, _, rfl, _, _, _, _, _, rfl, R.ob, T.k_Queue, T.n_Queue_known, rfl, D.aK, _, rfl, DGet.k (k := Sum.inl i) R.oK, _, rfl, ?_⟩
    rw [R.kno]
    cases hk : knI s i with
    | false =>
      exact iteT ⟨one_le, fun p hp => k.refused R (asked_whyE s i (why_none hk)) (Same.refl H) hp⟩
    | true =>
      refine iteF ?_
      -- if number in queue.ended
      refine ⟨_, rfl, _, rfl, _, _, _, _, _, rfl, R.ob, T.k_Queue, T.n_Queue_ended, rfl, D.aE, _, rfl, DGet.k (k := Sum.inl i) R.oE, _, rfl, ?_⟩
      rw [R.end_]
      cases he : endI s i with
      | some e =>
        refine iteT ⟨_, rfl, _, _, _, _, _, rfl, R.ob, T.k_Queue, T.n_Queue_ended, rfl, _, rfl, D.aE, V.int (endN e), rfl, ?_, one_le, fun p hp => ?_⟩
        · have z := DGet.k (k := Sum.inl i) R.oE
          rw [R.end_, he] at z
          exact z
        · exact k.told R (asked_why s i (why_end R.good he)) (Same.new hp) hp upd_same
      | none =>
        refine iteF ?_
        -- if number in queue.running
        refine ⟨_, rfl, _, rfl, _, _, _, _, _, rfl, R.ob, T.k_Queue, T.n_Queue_running, rfl, D.aR, _, rfl, .inl (SqL.of R.oR), rfl, flat_ids _, _, rfl, ?_⟩
        show if (if false = true then !inV (.int i) ((idsOf s.running).map nV) else inV (.int i) ((idsOf s.running).map nV)) = true then _ else _
        rw [if_neg Bool.false_ne_true, inV_find]
        cases ef : s.running.find? (fun x => decide ((x.id : Int) = i)) with
        | some x =>
          exact iteT ⟨one_le, fun p hp => k.told R (asked_why s i (why_run R.good (by rw [ef]; rfl))) (Same.new hp) hp upd_same⟩
        | none =>
          refine iteF ?_
          obtain ⟨x, hw⟩ := waits hk he ef
          obtain ⟨hx, ei⟩ := find_id hw
          subst ei
          refine ⟨_, rfl, _, rfl, _, _, _, _, _, rfl, R.ob, T.k_Queue, T.n_Queue_known, rfl, _, rfl, D.aK, V.ref (D.ia x.id), rfl, ?_, q, s, O, D, n, x, rfl, R, List.mem_append_left _ hx, fun H1 p s1 hf hp => ?_⟩
          · have z := DGet.k (k := Sum.inl (x.id : Int)) R.oK
            rw [kno_of R (List.mem_append_left _ hx)] at z
            exact z
          · exact k.told R (asked_why s _ (why_wait hw)) s1 hf hp

def spPlace (t : Ad) : Sp := fun vs H Q _ => ∃ (q : Addr) (s : State) (O : Own) (D : Ads) (n : Nat) (i : Int), vs = [.ref q, .int i] ∧ Rp t H q s O D n ∧ Dn t H q s O n (.place i) Q
theorem ok_place (T : Txt K mg t) : FnOk P w K mg base CX0 6 t.f_place t.d_place ["queue", "number"] (spPlace t) := by
  refine T.F_place.ok sc_place (fun vs H Q E h => ?_) (fun cdv A outer s H vs Q E hr h => ?_)
  · obtain ⟨q, s, O, D, n, i, rfl, _⟩ := h
    rfl
  · obtain ⟨q, s, O, D, n, i, rfl, R, k⟩ := h
    have hu := hu_of hr
    refine ⟨_, (pss_cons (ps_set (i := 2) sc_place.nd rfl (Or.inl rfl) (pe_call (ok_numbers_in_order T) (hr.mono (by decide)) rfl T.g_numbers_in_order T.F_numbers_in_order.kp T.b_numbers_in_order .nil pass0 (pa_cons (pv 0) pa_nil)))
      (pss_cons (ps_if (pt_cmpR (op_notIn_seqK (K := K)) (pv 1) (pv 2) (by with_unfolding_all rfl)) (pss_one (ps_ret (pe_lst (pa_cons (pe_gint rfl T.v_NO_SUCH_ITEM) pa_nil)))) pss_nil)
      (pss_one (ps_ret (pe_lst (pa_cons (pe_bm PySem.F.plainAttrs_list PySem.F.slot_list_index PySem.F.type_list_index (mt_indexK (K := K)) (pv 2) (pa_cons (pv 1) pa_nil)) pa_nil)))))), ?_⟩
    have hout : Vamrqg.outcome s (.place i) = Vamrqg.andThen (s.place i) fun l => .ok (s, l) := rfl
    refine ⟨_, rfl, q, s, O, D, n, rfl, R, fun H1 a s1 ha0 ha => ?_⟩
    refine ⟨_, rfl, _, rfl, a, _, rfl, .inl (SqL.of ha), rfl, flat_ids _, _, rfl, ?_⟩
    show if (if true = true then !inV (.int i) ((idsOf (Vamrqg.order s)).map nV) else inV (.int i) ((idsOf (Vamrqg.order s)).map nV)) = true then _ else _
    rw [if_pos rfl, inV_find]
    cases ef : (Vamrqg.order s).find? (fun x => decide ((x.id : Int) = i)) with
    | none =>
      refine iteT ⟨one_le, fun p hp => k.refused R ?_ s1 hp⟩
      rw [hout, place_none ef]
      rfl
    | some x =>
      obtain ⟨j, h1, h2, h3⟩ := place_some ef
      obtain ⟨_, ei⟩ := find_id ef
      rw [h1] at hout
      refine iteF ⟨_, rfl, .inl ⟨rfl, _, SqL.of ha⟩, _, rfl, a, _, V.int i, j, nV x.id, rfl, rfl, SqL.of ha, rfl, flat_ids _, by rw [List.getElem?_map, h2]; rfl, ?_, fun m z hm hz => ?_, one_le, fun p hp => ?_⟩
      · show ((x.id : Int) == i) = true
        simpa using ei
      · rw [List.getElem?_map] at hz
        cases e : (idsOf (Vamrqg.order s))[m]? with
        | none => rw [e] at hz; cases hz
        | some y =>
          rw [e] at hz
          have ez : nV y = z := Option.some.inj hz
          subst ez
          show ((y : Int) == i) = false
          simpa using h3 m y hm e
      · exact k.told R hout (s1.after (s1.free hp)) (s1.free hp) upd_same

def spNextOpen (t : Ad) : Sp := fun vs H Q _ => ∃ (q : Addr) (s : State) (O : Own) (D : Ads) (n : Nat) (c : Int), vs = [.ref q, .int c] ∧ Rp t H q s O D n ∧ Dn t H q s O n (.nextOpen c) Q
theorem ok_next_open (T : Txt K mg t) : FnOk P w K mg base CX0 3 t.f_next_open t.d_next_open ["queue", "group"] (spNextOpen t) := by
  refine T.F_next_open.ok sc_next_open (fun vs H Q E h => ?_) (fun cdv A outer s H vs Q E hr h => ?_)
  · obtain ⟨q, s, O, D, n, c, rfl, _⟩ := h
    rfl
  · obtain ⟨q, s, O, D, n, c, rfl, R, k⟩ := h
    have hu := hu_of hr
    refine ⟨_, (pss_cons (ps_if (pt_not (pt_chain op_le op_le pe_int (pv 1) (pe_gint rfl T.v_LAST_GROUP))) (pss_one (ps_ret (pe_lst (pa_cons (pe_gint rfl T.v_OUT_OF_RANGE) pa_nil)))) pss_nil)
      (pss_one (ps_ret (pe_lst (pa_cons (pe_callB (cr_minK (K := K)) (by rfl) T.z_min PyProof.Rows.boot_min (pa_cons (pe_lc rfl sc_next_open.nd (pi_range1 rfl T.z_range (pa_cons (pe_fldK (K := K) (pv 0)) pa_nil)) (own := [("later", 2)]) (blkOk_by (by show blkC ["queue", "group", "later"] (defScope s_next_open) _ _ = true; decide +kernel)) (fun _ _ _ _ _ => pg_name (i := 2) sc_next_open.nd rfl (Or.inl rfl)) (fun _ _ _ _ _ => (pts_one (pt_val (pe_call (ok_is_within_hours T) (hr.mono (by decide)) rfl T.g_is_within_hours T.F_is_within_hours.kp T.b_is_within_hours .nil pass0 (pa_cons (pv 0) (pa_cons (pv 1) (pa_cons (pe_op op_add (pe_fldK (K := K) (pv 0)) (pv 2)) pa_nil))))))) (fun _ _ _ _ _ => (pv 2))) pa_nil)) pa_nil))))), ?_⟩
    have hout : Vamrqg.outcome s (.nextOpen c) = Vamrqg.andThen (s.nextOpen c) fun l => .ok (s, l) := rfl
    refine ⟨_, rfl, _, _, rfl, rfl, _, rfl, ?_⟩
    refine chain_ite (fun c1 => ?_) (fun c1 => ?_)
    · refine ⟨one_le, fun p hp => k.refused R ?_ (Same.refl H) hp⟩
      rw [hout]
      show Vamrqg.andThen (Vamrqg.andThen (Vamrqg.ranged c 0 ((7 : Nat) : Int)) _) _ = _
      rw [ranged_no (fun z => c1 (by omega))]
      rfl
    have hout2 : Vamrqg.outcome s (.nextOpen c) = .ok (s, [Vamrqg.ofNat (Vamrqg.wait s c.toNat)]) := by
      rw [hout]
      show Vamrqg.andThen (Vamrqg.andThen (Vamrqg.ranged c 0 ((7 : Nat) : Int)) _) _ = _
      rw [ranged_ok (by omega)]
      rfl
    obtain ⟨cn, rfl⟩ : ∃ cn : Nat, c = (cn : Int) := ⟨c.toNat, by omega⟩
    have hd := R.good.day
    refine ⟨_, rfl, _, _, _, _, _, rfl, R.ob, T.k_Queue, T.n_Queue_day, rfl, (s.day : Int), rfl, by omega, by omega, fun E1 hE => ?_⟩
    refine lc_readsR (n := s.day) (p := fun j => Vamrqg.openAt s cn (s.time + j)) (g := fun j => V.int ((0 : Int) + (j : Nat))) hE (Nat.lt_of_le_of_lt hd.2 (by decide)) (fun _ _ => rfl) (fun j hj H2 s2 Q2 k2 => ?_) (fun j hj _ H2 s2 Q2 k2 => ⟨_, rfl, k2 H2 (Same.refl H2)⟩) (fun H2 s2 h2 => ?_)
    · have R2 := R.same s2
      refine ⟨_, rfl, _, rfl, _, rfl, _, _, _, _, _, rfl, R2.ob, T.k_Queue, T.n_Queue_time, rfl, _, rfl, _, _, rfl, rfl, q, s, O, D, n, cn, s.time + j, ?_, R2, fun H3 s3 => ⟨_, rfl, k2 H3 s3⟩⟩
      have e : (s.time : Int) + (0 + (j : Int)) = ((s.time + j : Nat) : Int) := by omega
      show [V.ref q, V.int (cn : Int), V.int ((s.time : Int) + (0 + (j : Int)))] = _
      rw [e]
    have eg : ((List.range s.day).filter fun j => Vamrqg.openAt s cn (s.time + j)).map (fun (j : Nat) => V.int ((0 : Int) + (j : Nat))) = (((List.range s.day).filter fun j => Vamrqg.openAt s cn (s.time + j)).map fun (j : Nat) => (j : Int)).map V.int := by
      rw [List.map_map]
      refine List.map_congr_left fun j _ => ?_
      show V.int (0 + (j : Int)) = V.int (j : Int)
      rw [Int.zero_add]
    rw [eg] at h2
    refine ⟨E1, _, rfl, SqL.of h2, ?_, fun m hm hle => ⟨one_le, fun p hp => ?_⟩⟩
    · rw [List.length_map]
      obtain ⟨j, h3, h4⟩ := open_some R.good cn
      exact List.length_pos_of_mem (List.mem_filter.mpr ⟨List.mem_range.mpr h3, h4⟩)
    · have em := wait_is R.good cn hm hle
      subst em
      exact k.told R hout2 (s2.after (s2.free hp)) (s2.free hp) upd_same

def spStatus (t : Ad) : Sp := fun vs H Q _ => ∃ (q : Addr) (s : State) (O : Own) (D : Ads) (n : Nat), vs = [.ref q] ∧ Rp t H q s O D n ∧ Dn t H q s O n .status Q
theorem ok_status (T : Txt K mg t) : FnOk P w K mg base CX0 3 t.f_status t.d_status ["queue"] (spStatus t) := by
  refine T.F_status.ok sc_status (fun vs H Q E h => ?_) (fun cdv A outer s H vs Q E hr h => ?_)
  · obtain ⟨q, s, O, D, n, rfl, _⟩ := h
    rfl
  · obtain ⟨q, s, O, D, n, rfl, R, k⟩ := h
    have hu := hu_of hr
    refine ⟨_, (pss_cons (ps_set (i := 1) sc_status.nd rfl (Or.inl rfl) (pe_callB (call_len_seqK (K := K)) (by rfl) T.z_len PySem.boot_len (pa_cons (pe_lock (pe_lc rfl sc_status.nd (pi_keys (pe_fldK (K := K) (pv 0))) (own := [("number", 2)]) (blkOk_by (by show blkC ["queue", "landed", "number", "lost"] (defScope s_status) _ _ = true; decide +kernel)) (fun _ _ _ _ _ => pg_name (i := 2) sc_status.nd rfl (Or.inl rfl)) (fun _ _ _ _ _ => (pts_one (pt_val (pe_call (ok_has_landed T) (hr.mono (by decide)) rfl T.g_has_landed T.F_has_landed.kp T.b_has_landed .nil pass0 (pa_cons (pv 0) (pa_cons (pv 2) pa_nil)))))) (fun _ _ _ _ _ => (pv 2)))) pa_nil)))
      (pss_cons (ps_set (i := 3) sc_status.nd rfl (Or.inl rfl) (pe_op op_sub (pe_callB call_lenD (by rfl) T.z_len PySem.boot_len (pa_cons (pe_fldK (K := K) (pv 0)) pa_nil)) (pv 1)))
      (pss_one (ps_ret (pe_lst (pa_cons (pe_fldK (K := K) (pv 0)) (pa_cons (pe_fldK (K := K) (pv 0)) (pa_cons (pe_fldK (K := K) (pv 0)) (pa_cons (pe_callB (call_len_seqK (K := K)) (by rfl) T.z_len PySem.boot_len (pa_cons (pe_fldK (K := K) (pv 0)) pa_nil)) (pa_cons (pe_callB (call_len_seqK (K := K)) (by rfl) T.z_len PySem.boot_len (pa_cons (pe_fldK (K := K) (pv 0)) pa_nil)) (pa_cons (pv 1) (pa_cons (pv 3) pa_nil)))))))))))), ?_⟩
    have neEq : q ≠ D.aE := lab_ne R.lq R.lE (by simp)
    -- landed = len([number for number in queue.ended if has_landed(queue, number)])
    refine ⟨D.aE, .dK D.kE, R.oE, trivial, fun od => ?_⟩
    have q1 : (upd H D.aE (.frz od (.dK D.kE))) q = some (.ins t.c_Queue D.dq (fQ s.limit s.day s.time D)) := by rw [upd_ne neEq]; exact R.ob
    have e1 : (upd H D.aE (.frz od (.dK D.kE))) D.aE = some (.frz od (.dK D.kE)) := upd_same
    have kp1 : ∀ b, b ≠ D.aE → (upd H D.aE (.frz od (.dK D.kE))) b = H b := fun b h => upd_ne h
    revert q1 e1 kp1
    generalize upd H D.aE (.frz od (.dK D.kE)) = H1
    intro q1 e1 kp1
    refine ⟨_, rfl, _, _, _, _, _, rfl, q1, T.k_Queue, T.n_Queue_ended, rfl, D.aE, od, rfl, .inl ⟨D.kE, e1, fun E1 hE => ?_⟩⟩
    have hkeys : D.kE.map (·.1) = s.ended.map (fun p => (Sum.inl (p.1 : Int) : Key)) := by
      rw [R.lsE, List.map_map]
      rfl
    refine lc_readsK (l := s.ended) (key := fun p => (Sum.inl (p.1 : Int) : Key)) (p := fun x => Vamrqg.isLanded s x.1) (g := fun x => nV x.1) hkeys hE e1 (Nat.lt_of_le_of_lt (by have := R.good.all; omega : s.ended.length ≤ 400) (by decide)) (fun _ _ => rfl) (fun x hx H2 s2 Q2 k2 => ?_) (fun x hx _ H2 s2 Q2 k2 => ⟨_, rfl, k2 H2 (Same.refl H2)⟩) (fun H2 s2 h2 => ?_)
    · exact ⟨_, rfl, _, rfl, q, _, D.aE, _, D.kE, s, x.1, rfl, s2 _ _ q1, rfl, .inr ⟨od, s2 _ _ e1⟩, R.end_ _, fun H3 s3 => ⟨_, rfl, k2 H3 s3⟩⟩
    refine ⟨s2 _ _ e1, ?_⟩
    have sf : Same H (upd H2 D.aE (.dK D.kE)) := fun b o hb => by
      by_cases eb : b = D.aE
      · subst eb
        rw [upd_same, ← hb]
        exact R.oE.symm
      · rw [upd_ne eb]
        exact s2 _ _ (by rw [kp1 b eb]; exact hb)
    have neE1 : E1 ≠ D.aE := (ne_of_none e1 hE).symm
    have h2' : (upd H2 D.aE (.dK D.kE)) E1 = some (.lst ((s.ended.filter fun x => Vamrqg.isLanded s x.1).map fun x => nV x.1)) := by rw [upd_ne neE1]; exact h2
    have Rf := R.same sf
    refine ⟨E1, _, rfl, .inl (SqL.of h2'), ?_⟩
    -- lost = len(queue.ended) - landed
    refine ⟨_, rfl, _, _, _, _, _, rfl, Rf.ob, T.k_Queue, T.n_Queue_ended, rfl, D.aE, _, rfl, Rf.oE, _, rfl, _, _, rfl, rfl, ?_⟩
    refine ⟨_, rfl, _, _, _, _, _, rfl, Rf.ob, T.k_Queue, T.n_Queue_limit, rfl, _, rfl, _, _, _, _, _, rfl, Rf.ob, T.k_Queue, T.n_Queue_day, rfl, _, rfl, _, _, _, _, _, rfl, Rf.ob, T.k_Queue, T.n_Queue_time, rfl, ?_⟩
    refine ⟨_, rfl, _, _, _, _, _, rfl, Rf.ob, T.k_Queue, T.n_Queue_waiting, rfl, D.aWt, _, rfl, .inl (SqL.of Rf.oWt), _, rfl, _, _, _, _, _, rfl, Rf.ob, T.k_Queue, T.n_Queue_running, rfl, D.aR, _, rfl, .inl (SqL.of Rf.oR), _, rfl, _, rfl, (by show 7 ≤ sizeLine; decide), fun p hp => ?_⟩
    refine k.told R rfl (sf.after (sf.free hp)) (sf.free hp) ?_
    rw [upd_same]
    have hl := lost_count s
    have el : ((s.ended.filter fun x => Vamrqg.isLost s x.1).length : Int) = (D.kE.length : Int) - (((s.ended.filter fun x => Vamrqg.isLanded s x.1).map fun x => nV x.1).length : Int) := by
      rw [List.length_map, R.nE]
      omega
    show some (HO.lst [nV s.limit, nV s.day, nV s.time, _, _, _, V.int _]) = some (HO.lst [V.int (s.limit : Int), V.int (s.day : Int), V.int (s.time : Int), V.int (s.waiting.length : Int), V.int (s.running.length : Int), V.int ((s.ended.filter fun x => Vamrqg.isLanded s x.1).length : Int), V.int ((s.ended.filter fun x => Vamrqg.isLost s x.1).length : Int)])
    rw [el, List.length_map, List.length_map, List.length_map, idsOf, idsOf, List.length_map, List.length_map]
end
end Ag

/-! add. -/
set_option Elab.async false
set_option linter.all false
set_option maxRecDepth 100000
set_option maxHeartbeats 4000000
namespace Ag
open PySem PySem.Spec PyProof.Rows L2
open Vamrqg (State Item idsOf windowsOf endOf known)
section
variable {P : Program} {w : World} {K : PySem.W.Frag} {mg : Str → Option Value} {base : Heap} {t : Ad}
def spAreNeeds (K : PySem.W.Frag) : Sp := fun vs H Q _ => ∃ (a : Addr) (ns : List Int), vs = [.ref a] ∧ SqL K H a (ns.map V.int) ∧ ns.length ≤ 20 ∧ ∀ H', Same H H' → Q (.bl (okNeeds ns)) H'
theorem ok_are_needs (T : Txt K mg t) : FnOk P w K mg base CX0 2 t.f_are_needs t.d_are_needs ["needs"] (spAreNeeds K) := by
  refine T.F_are_needs.ok sc_are_needs (fun vs H Q E h => ?_) (fun cdv A outer s H vs Q E hr h => ?_)
  · obtain ⟨a, ns, rfl, _⟩ := h
    rfl
  · obtain ⟨a, ns, rfl, ha, h20, k⟩ := h
    refine ⟨_, (pss_cons (ps_if (PW.pt (pw_or (pt_cmpR op_gt (pe_callB (call_len_seqK (K := K)) (by rfl) T.z_len PySem.boot_len (pa_cons (pv 0) pa_nil)) (pe_gint rfl T.v_MOST_NEEDS) (nomark _)) (pw_or1 (pt_cmpR op_ne (pe_callB call_lenSet (by rfl) T.z_len PySem.boot_len (pa_cons (pe_callTy (call_setL (K := K)) (by rfl) T.z_set PyProof.Rows.boot_set (pa_cons (pv 0) pa_nil)) pa_nil)) (pe_callB (call_len_seqK (K := K)) (by rfl) T.z_len PySem.boot_len (pa_cons (pv 0) pa_nil)) (nomark _))))) (pss_one (ps_ret pe_bl)) pss_nil)
      (pss_one (ps_ret (pe_callB (cr_allK (K := K)) (by rfl) T.z_all PyProof.Rows.boot_all (pa_cons (pe_lc rfl sc_are_needs.nd (pi_listK (K := K) (pv 0)) (own := [("need", 1)]) (blkOk_by (by show blkC ["needs", "need"] (defScope s_are_needs) _ _ = true; decide +kernel)) (fun _ _ _ _ _ => pg_name (i := 1) sc_are_needs.nd rfl (Or.inl rfl)) (fun _ _ _ _ _ => pts_nil) (fun _ _ _ _ _ => (pe_chain op_le op_le pe_int (pv 1) (pe_gint rfl T.v_LAST_NUMBER)))) pa_nil))))), ?_⟩
    -- len(needs) > MOST_NEEDS
    refine ⟨_, rfl, a, _, rfl, .inl ha, _, _, rfl, rfl, _, rfl, ?_⟩
    rw [List.length_map]
    refine ite2 (fun c => ?_) (fun c => ?_)
    · have c' := of_decide_eq_true c
      have q := k H (Same.refl H)
      unfold okNeeds at q
      rw [decide_eq_false (show ¬ ns.length ≤ 6 by omega), Bool.false_and, Bool.false_and] at q
      exact iteT q
    have c6 : ns.length ≤ 6 := by
      have : ¬ (6 : Int) < (ns.length : Int) := fun z => c (decide_eq_true z)
      omega
    -- len(set(needs)) != len(needs)
    refine ⟨_, rfl, a, ns, rfl, ha, by omega, fun S p hp => ⟨p, S, _, rfl, upd_same, ?_⟩⟩
    have s1 := Same.new (o := .set S (dedup ns).length) hp
    refine ⟨_, rfl, a, _, rfl, .inl (s1.seq ha), rfl, _, rfl, ?_⟩
    have ed := dedup_distinct ns
    rw [List.length_map]
    have e1 : decide (V.int ((dedup ns).length : Int) = V.int (ns.length : Int)) = Vamrqg.distinct ns := by
      rw [← ed]
      refine decide_eq_decide.mpr ⟨fun z => ?_, fun z => by rw [z]⟩
      have := V.int.inj z
      omega
    rw [e1]
    cases hd : Vamrqg.distinct ns with
    | false =>
      refine iteT ?_
      have q := k _ s1
      unfold okNeeds at q
      rw [hd, Bool.and_false, Bool.false_and] at q
      exact q
    | true =>
      refine iteF ?_
      refine ⟨_, rfl, a, rfl, ⟨_, s1.seq ha⟩, fun E1 hE => ?_⟩
      refine lc_reads (l := ns) (val := V.int) (p := fun _ => true) (g := fun z => V.bl (inRange z)) hE (s1.seq ha) (Nat.lt_of_le_of_lt h20 (by decide)) (fun _ _ => rfl) (fun x hx H2 s2 Q2 k2 => k2 H2 (Same.refl H2)) (fun z hz _ H2 s2 Q2 k2 => ?_) (fun H2 s2 h2 => ?_)
      · refine ⟨_, rfl, _, _, rfl, rfl, _, rfl, ?_⟩
        have q := k2 H2 (Same.refl H2)
        unfold inRange at q
        refine ite2 (fun c1 => ?_) (fun c1 => ?_)
        · refine ⟨_, _, rfl, rfl, ?_⟩
          rw [c1, Bool.true_and] at q
          exact q
        · rw [Bool.not_eq_true] at c1
          rw [c1, Bool.false_and] at q
          exact q
      · refine ⟨E1, ns.map inRange, rfl, SqL.of ?_, ?_⟩
        · rw [h2, List.filter_eq_self.mpr (fun _ _ => rfl), List.map_map]
          rfl
        · have q := k _ (s1.trans s2)
          unfold okNeeds at q
          rw [decide_eq_true c6, hd, Bool.true_and, Bool.true_and] at q
          rw [List.all_map, Function.id_comp]
          exact q

def spRefusal (t : Ad) (K : PySem.W.Frag) : Sp := fun vs H Q _ => ∃ (q a : Addr) (s : State) (O : Own) (D : Ads) (n : Nat) (i p c : Int) (ns : List Int), vs = [.ref q, .int i, .int p, .int c, .ref a] ∧ Rp t H q s O D n ∧ SqL K H a (ns.map V.int) ∧ ns.length ≤ 20 ∧
  ∀ (H' : Hp) (r : Int), Same H H' → ((r ≠ 0 ∧ s.add i p c ns = .error r) ∨ (r = 0 ∧ AddOk s i p c ns)) → Q (.int r) H'
theorem ok_refusal_of_add (T : Txt K mg t) : FnOk P w K mg base CX0 3 t.f_refusal_of_add t.d_refusal_of_add ["queue", "number", "prio", "group", "needs"] (spRefusal t K) := by
  refine T.F_refusal_of_add.ok sc_refusal_of_add (fun vs H Q E h => ?_) (fun cdv A outer s H vs Q E hr h => ?_)
  · obtain ⟨q, a, s, O, D, n, i, p, c, ns, rfl, _⟩ := h
    rfl
  · obtain ⟨q, a, s, O, D, n, i, p, c, ns, rfl, R, ha, h20, k⟩ := h
    have hu := hu_of hr
    refine ⟨_, (pss_cons (ps_if (PW.pt (pw_or (pt_not (pt_chain op_le op_le pe_int (pv 1) (pe_gint rfl T.v_LAST_NUMBER))) (pw_or (pt_not (pt_chain op_le op_le pe_int (pv 2) (pe_gint rfl T.v_LAST_PRIO))) (pw_or1 (pt_not (pt_chain op_le op_le pe_int (pv 3) (pe_gint rfl T.v_LAST_GROUP))))))) (pss_one (ps_ret (pe_gint rfl T.v_OUT_OF_RANGE))) pss_nil)
      (pss_cons (ps_if (pt_not (pt_val (pe_call (ok_are_needs T) (hr.mono (by decide)) rfl T.g_are_needs T.F_are_needs.kp T.b_are_needs .nil pass0 (pa_cons (pv 4) pa_nil)))) (pss_one (ps_ret (pe_gint rfl T.v_BAD_ROW))) pss_nil)
      (pss_cons (ps_if (pt_cmp (pc_din hu (pv 1) (pe_fldK (K := K) (pv 0)))) (pss_one (ps_ret (pe_gint rfl T.v_NUMBER_TAKEN))) pss_nil)
      (pss_cons (ps_if (pt_not (pt_val (pe_callB (cr_allK (K := K)) (by rfl) T.z_all PyProof.Rows.boot_all (pa_cons (pe_lc rfl sc_refusal_of_add.nd (pi_listK (K := K) (pv 4)) (own := [("need", 5)]) (blkOk_by (by show blkC ["queue", "number", "prio", "group", "needs", "need"] (defScope s_refusal_of_add) _ _ = true; decide +kernel)) (fun _ _ _ _ _ => pg_name (i := 5) sc_refusal_of_add.nd rfl (Or.inl rfl)) (fun _ _ _ _ _ => pts_nil) (fun _ _ _ _ _ => (pe_cmp (pc_din hu (pv 5) (pe_fldK (K := K) (pv 0)))))) pa_nil)))) (pss_one (ps_ret (pe_gint rfl T.v_NO_SUCH_ITEM))) pss_nil)
      (pss_cons (ps_if (PW.pt (pw_or (pt_cmpR op_ge (pe_call (ok_count_unended T) (hr.mono (by decide)) rfl T.g_count_unended T.F_count_unended.kp T.b_count_unended .nil pass0 (pa_cons (pv 0) pa_nil)) (pe_gint rfl T.v_MOST_UNENDED) (nomark _)) (pw_or1 (pt_cmpR op_ge (pe_callB call_lenD (by rfl) T.z_len PySem.boot_len (pa_cons (pe_fldK (K := K) (pv 0)) pa_nil)) (pe_gint rfl T.v_MOST_KNOWN) (nomark _))))) (pss_one (ps_ret (pe_gint rfl T.v_TOO_MUCH))) pss_nil)
      (pss_one (ps_ret (pe_gint rfl T.v_NO_REFUSAL)))))))), ?_⟩
    have out : ¬ ((0 ≤ i ∧ i ≤ 999) ∧ (0 ≤ p ∧ p ≤ 9) ∧ (0 ≤ c ∧ c ≤ 7)) → Q (.int (-1)) H := fun h => k H (-1) (Same.refl H) (.inl ⟨by decide, add_range h⟩)
    refine ⟨_, rfl, _, _, rfl, rfl, _, rfl, ?_⟩
    refine chain_ite (fun c1 => ?_) (fun c1 => ?_)
    · exact iteT (out fun z => c1 z.1)
    refine ⟨_, rfl, _, _, rfl, rfl, _, rfl, ?_⟩
    refine chain_ite (fun c2 => ?_) (fun c2 => ?_)
    · exact iteT (out fun z => c2 z.2.1)
    refine ⟨_, rfl, _, _, rfl, rfl, _, rfl, ?_⟩
    refine chain_ite (fun c3 => ?_) (fun c3 => ?_)
    · exact out fun z => c3 z.2.2
    have hin := add_inside (s := s) (ns := ns) ⟨c1, c2, c3⟩
    -- if not are_needs(needs)
    refine ⟨_, rfl, a, ns, rfl, ha, h20, fun H1 s1 => ⟨_, rfl, ?_⟩⟩
    cases hok : okNeeds ns with
    | false =>
      refine iteT (k H1 (-2) s1 (.inl ⟨by decide, ?_⟩))
      rw [hin, needs_no hok]
      rfl
    | true =>
      refine iteF ?_
      obtain ⟨e1, e2, e3⟩ := needs_ok hok
      rw [e1] at hin
      have hin' : s.add i p c ns = if known s i.toNat = true then .error (-9) else if (ns.map Int.toNat).all (known s) = false then .error (-6) else if 40 ≤ s.waiting.length + s.running.length ∨ 400 ≤ s.waiting.length + s.running.length + s.ended.length then .error (-7)
          else .ok (s.with_ (s.waiting ++ [⟨i.toNat, p.toNat, c.toNat, ns.map Int.toNat, 0⟩]) s.running s.ended, [Vamrqg.ofNat (s.waiting.length + 1)]) := hin
      have R1 := R.same s1
      -- if number in queue.known
      refine ⟨_, rfl, _, rfl, _, _, _, _, _, rfl, R1.ob, T.k_Queue, T.n_Queue_known, rfl, D.aK, _, rfl, DGet.k (k := Sum.inl i) R1.oK, _, rfl, ?_⟩
      rw [R.kno]
      have ekn : knI s i = known s i.toNat := by
        unfold knI
        rw [decide_eq_true c1.1, Bool.true_and]
      cases hk : known s i.toNat with
      | true =>
        rw [if_pos (by rw [ekn, hk])]
        refine iteT (k H1 (-9) s1 (.inl ⟨by decide, ?_⟩))
        rw [hin', if_pos hk]
      | false =>
        rw [if_neg (by rw [ekn, hk]; exact Bool.false_ne_true)]
        refine iteF ?_
        have nk : ¬ known s i.toNat = true := by rw [hk]; exact Bool.false_ne_true
        rw [if_neg nk] at hin'
        -- if not all([need in queue.known for need in needs])
        refine ⟨_, rfl, a, rfl, ⟨_, s1.seq ha⟩, fun E1 hE => ?_⟩
        refine lc_reads (l := ns) (val := V.int) (p := fun _ => true) (g := fun z => V.bl (knI s z)) hE (s1.seq ha) (Nat.lt_of_le_of_lt h20 (by decide)) (fun _ _ => rfl) (fun x hx H2 s2 Q2 k2 => k2 H2 (Same.refl H2)) (fun z hz _ H2 s2 Q2 k2 => ?_) (fun H2 s2 h2 => ?_)
        · have R2 := R1.same s2
          refine ⟨_, rfl, _, rfl, _, _, _, _, _, rfl, R2.ob, T.k_Queue, T.n_Queue_known, rfl, D.aK, _, rfl, DGet.k (k := Sum.inl z) R2.oK, ?_⟩
          rw [R.kno]
          have q := k2 H2 (Same.refl H2)
          cases hz : knI s z with
          | true => rw [hz] at q; exact q
          | false => rw [hz] at q; exact q
        have s12 := s1.trans s2
        refine ⟨E1, ns.map (knI s), rfl, SqL.of (by
          rw [h2, List.filter_eq_self.mpr (fun _ _ => rfl), List.map_map]
          rfl), _, rfl, ?_⟩
        rw [List.all_map, Function.id_comp]
        rw [all_known e3] at hin'
        cases hall : ns.all (knI s) with
        | false =>
          refine iteT (k H2 (-6) s12 (.inl ⟨by decide, ?_⟩))
          rw [hin', if_pos hall]
        | true =>
          refine iteF ?_
          rw [if_neg (by rw [hall]; exact fun z => by cases z)] at hin'
          -- if count_unended(queue) >= MOST_UNENDED or len(queue.known) >= MOST_KNOWN
          refine ⟨_, rfl, q, s, O, D, n, rfl, R.same s12, fun H3 s3 => ⟨_, _, rfl, rfl, _, rfl, ?_⟩⟩
          have s13 := s12.trans s3
          have R3 := R.same s13
          refine ite2 (fun c4 => ?_) (fun c4 => ?_)
          · have := of_decide_eq_true c4
            refine iteT (k H3 (-7) s13 (.inl ⟨by decide, ?_⟩))
            rw [hin', if_pos (.inl (by omega))]
          have f4 : s.waiting.length + s.running.length < 40 := by
            have : ¬ (40 : Int) ≤ (s.waiting.length : Int) + (s.running.length : Int) := fun z => c4 (decide_eq_true z)
            omega
          refine ⟨_, rfl, _, _, _, _, _, rfl, R3.ob, T.k_Queue, T.n_Queue_known, rfl, D.aK, _, rfl, R3.oK, _, _, rfl, rfl, _, rfl, ?_⟩
          have hnk := R.nK
          refine ite2 (fun c5 => ?_) (fun c5 => ?_)
          · have := of_decide_eq_true c5
            refine k H3 (-7) s13 (.inl ⟨by decide, ?_⟩)
            rw [hin', if_pos (.inr (by omega))]
          have f5 : s.waiting.length + s.running.length + s.ended.length < 400 := by
            have : ¬ (400 : Int) ≤ (D.kK.length : Int) := fun z => c5 (decide_eq_true z)
            omega
          rw [if_neg (by omega)] at hin'
          exact k H3 0 s13 (.inr ⟨rfl, ⟨⟨c1, c2, c3⟩, ⟨e2, e3⟩, hk, f4, f5, hin'⟩⟩)

def spItem (t : Ad) : Sp := fun vs H Q _ => ∃ (x dx : Addr) (nu pr gr nd : V), vs = [.ref x, nu, pr, gr, nd] ∧ H x = some (.ins t.c_Item dx []) ∧
  ∀ H' : Hp, H' x = some (.ins t.c_Item dx [("number", nu), ("prio", pr), ("group", gr), ("needs", nd), ("passed", .int 0)]) → (∀ b, b ≠ x → H' b = H b) → Q .non H'
theorem ok_Item_init (T : Txt K mg t) : FnOk P w K mg base CX0 2 t.f_Item_init t.d_Item_init ["self", "number", "prio", "group", "needs"] (spItem t) := by
  refine T.F_Item_init.ok sc_Item_init (fun vs H Q E h => ?_) (fun cdv A outer s H vs Q E hr h => ?_)
  · obtain ⟨x, dx, nu, pr, gr, nd, rfl, _⟩ := h
    rfl
  · obtain ⟨x, dx, nu, pr, gr, nd, rfl, hx, k⟩ := h
    refine ⟨_, (pss_cons (ps_fldK (K := K) (pv 0) (pv 1))
      (pss_cons (ps_fldK (K := K) (pv 0) (pv 2))
      (pss_cons (ps_fldK (K := K) (pv 0) (pv 3))
      (pss_cons (ps_fldK (K := K) (pv 0) (pv 4))
      (pss_one (ps_fldK (K := K) (pv 0) pe_int)))))), ?_⟩
    refine ⟨_, rfl, _, rfl, x, _, dx, _, rfl, hx, T.k_Item, T.n_Item_number, (by show 0 < 1000; decide), ?_⟩
    refine ⟨_, rfl, _, rfl, x, _, dx, _, rfl, upd_same, T.k_Item, T.n_Item_prio, (by show 1 < 1000; decide), ?_⟩
    refine ⟨_, rfl, _, rfl, x, _, dx, _, rfl, upd_same, T.k_Item, T.n_Item_group, (by show 2 < 1000; decide), ?_⟩
    refine ⟨_, rfl, _, rfl, x, _, dx, _, rfl, upd_same, T.k_Item, T.n_Item_needs, (by show 3 < 1000; decide), ?_⟩
    refine ⟨_, rfl, x, _, dx, _, rfl, upd_same, T.k_Item, T.n_Item_passed, (by show 4 < 1000; decide), ?_⟩
    refine k _ ?_ fun b hb => ?_
    · rw [upd_same]
      rfl
    · rw [upd_ne hb, upd_ne hb, upd_ne hb, upd_ne hb, upd_ne hb]

def spAdd (t : Ad) (K : PySem.W.Frag) : Sp := fun vs H Q _ => ∃ (q a : Addr) (s : State) (O : Own) (D : Ads) (n : Nat) (i p c : Int) (ns : List Int), vs = [.ref q, .int i, .int p, .int c, .ref a] ∧ Rp t H q s O D n ∧ SqL K H a (ns.map V.int) ∧ ns.length ≤ 20 ∧ Dn t H q s O n (.add i p c ns) Q
theorem ok_add (T : Txt K mg t) : FnOk P w K mg base CX0 4 t.f_add t.d_add ["queue", "number", "prio", "group", "needs"] (spAdd t K) := by
  refine T.F_add.ok sc_add (fun vs H Q E h => ?_) (fun cdv A outer s H vs Q E hr h => ?_)
  · obtain ⟨q, a, s, O, D, n, i, p, c, ns, rfl, _⟩ := h
    rfl
  · obtain ⟨q, a, s, O, D, n, i, p, c, ns, rfl, R, ha, h20, k⟩ := h
    have hu := hu_of hr
    refine ⟨_, (pss_cons (ps_set (i := 5) sc_add.nd rfl (Or.inl rfl) (pe_call (ok_refusal_of_add T) (hr.mono (by decide)) rfl T.g_refusal_of_add T.F_refusal_of_add.kp T.b_refusal_of_add .nil pass0 (pa_cons (pv 0) (pa_cons (pv 1) (pa_cons (pv 2) (pa_cons (pv 3) (pa_cons (pv 4) pa_nil)))))))
      (pss_cons (ps_if (pt_cmpR op_ne (pv 5) (pe_gint rfl T.v_NO_REFUSAL) (nomark _)) (pss_one (ps_ret (pe_lst (pa_cons (pv 5) pa_nil)))) pss_nil)
      (pss_cons (ps_dput hu (pe_fldK (K := K) (pv 0)) (pv 1) (pe_make T.mk_Item (ok_Item_init T) (hr.mono (by decide)) rfl T.g_Item T.b_Item_init .nil pass0 (pa_cons (pv 1) (pa_cons (pv 2) (pa_cons (pv 3) (pa_cons (pe_callTy (call_list_ofK (K := K)) (by rfl) T.z_list PyProof.Rows.boot_list (pa_cons (pv 4) pa_nil)) pa_nil))))) rfl)
      (pss_cons (ps_expr (pe_bm PySem.F.plainAttrs_list PySem.F.slot_list_append PySem.F.type_list_append mt_append (pe_fldK (K := K) (pv 0)) (pa_cons (pv 1) pa_nil)))
      (pss_one (ps_ret (pe_lst (pa_cons (pe_callB (call_len_seqK (K := K)) (by rfl) T.z_len PySem.boot_len (pa_cons (pe_fldK (K := K) (pv 0)) pa_nil)) pa_nil)))))))), ?_⟩
    have hout : Vamrqg.outcome s (.add i p c ns) = s.add i p c ns := rfl
    refine ⟨_, rfl, _, rfl, _, rfl, _, rfl, _, rfl, q, a, s, O, D, n, i, p, c, ns, rfl, R, ha, h20, fun H1 r s1 hcase => ?_⟩
    refine ⟨_, rfl, rfl, _, rfl, ?_⟩
    rcases hcase with ⟨hr0, he⟩ | ⟨hr0, ok⟩
    · rw [decide_eq_false (fun z => hr0 (V.int.inj z))]
      exact iteT ⟨_, rfl, one_le, fun p hp => k.refused R (hout.trans he) s1 hp⟩
    · subst hr0
      refine iteF ?_
      obtain ⟨iN, rfl⟩ : ∃ iN : Nat, i = (iN : Int) := ⟨i.toNat, by have := ok.rg.1.1; omega⟩
      obtain ⟨pN, rfl⟩ : ∃ pN : Nat, p = (pN : Int) := ⟨p.toNat, by have := ok.rg.2.1.1; omega⟩
      obtain ⟨cN, rfl⟩ : ∃ cN : Nat, c = (cN : Int) := ⟨c.toNat, by have := ok.rg.2.2.1; omega⟩
      have R1 := R.same s1
      have heq := hout.trans ok.eq
      -- queue.known[number] = Item(number, prio, group, list(needs))
      refine ⟨_, rfl, _, rfl, _, rfl, _, rfl, a, _, rfl, .inl (s1.seq ha), fun nl hnl => ?_⟩
      intro x dx nx ndx nex
      refine ⟨x, dx, _, _, _, _, rfl, upd_same, fun H2 hx2 kp2 => ⟨rfl, ?_⟩⟩
      have s2 : Same H1 H2 := fun b o hb => by
        have n1 : b ≠ nl := ne_of_none hb hnl
        have hb' : (upd H1 nl (.lst (ns.map V.int))) b = some o := by rw [upd_ne n1]; exact hb
        rw [kp2 b (ne_of_none hb' nx), upd_ne (ne_of_none hb' nx), upd_ne (ne_of_none hb' ndx)]
        exact hb'
      have nlx : nl ≠ x := ne_of_none upd_same nx
      have nldx : nl ≠ dx := ne_of_none upd_same ndx
      have hnl2 : H2 nl = some (.lst (ns.map V.int)) := by
        rw [kp2 nl nlx, upd_ne nlx, upd_ne nldx, upd_same]
      have s12 := s1.trans s2
      have R2 := R.same s12
      have g := R.good
      refine ⟨_, rfl, _, _, _, _, _, rfl, R2.ob, T.k_Queue, T.n_Queue_known, rfl, _, rfl, D.aK, _, rfl, DPut.k (k := Sum.inl (iN : Int)) R2.oK (dK_len (by have := R.nK; have := ok.all; omega)), ?_⟩
      have neKq : D.aK ≠ q := lab_ne R.lK R.lq (by simp)
      have neKW : D.aK ≠ D.aWt := lab_ne R.lK R.lWt (by simp)
      have neWq : D.aWt ≠ q := lab_ne R.lWt R.lq (by simp)
      have q3 : (upd H2 D.aK (.dK (putK D.kK (Sum.inl (iN : Int)) (.ref x)))) q = some (.ins t.c_Queue D.dq (fQ s.limit s.day s.time D)) := by rw [upd_ne neKq.symm]; exact R2.ob
      have w3 : (upd H2 D.aK (.dK (putK D.kK (Sum.inl (iN : Int)) (.ref x)))) D.aWt = some (.lst ((idsOf s.waiting).map nV)) := by rw [upd_ne neKW.symm]; exact R2.oWt
      -- queue.waiting.append(number)
      refine ⟨_, rfl, _, _, _, _, _, rfl, q3, T.k_Queue, T.n_Queue_waiting, rfl, .inl ⟨rfl, _, SqL.of w3⟩, _, rfl, D.aWt, _, _, rfl, rfl, w3, ?_, ?_⟩
      · rw [List.length_map, idsOf, List.length_map]
        exact Nat.lt_of_le_of_lt (by have := g.few; omega : s.waiting.length ≤ 40) (by decide)
      refine ⟨_, rfl, _, _, _, _, _, rfl, (by rw [upd_ne neWq.symm]; exact q3), T.k_Queue, T.n_Queue_waiting, rfl, D.aWt, _, rfl, .inl (SqL.of upd_same), one_le, fun p2 hp2 => ?_⟩
      have fx : H x = none := s1.free (by
        have z := nx
        rw [upd_ne nlx.symm] at z
        exact z)
      have fnl : H nl = none := s1.free hnl
      have nKx : D.aK ≠ x := ne_of_none R.oK fx
      have nWx : D.aWt ≠ x := ne_of_none R.oWt fx
      have nKn : D.aK ≠ nl := ne_of_none R.oK fnl
      have nWn : D.aWt ≠ nl := ne_of_none R.oWt fnl
      obtain ⟨O', D', R3, F3⟩ := R.add (x := ⟨iN, pN, cN, ns.map Int.toNat, 0⟩) (a := x) (dx := dx) (nl := nl) (H' := upd (upd H2 D.aK (.dK (putK D.kK (Sum.inl (iN : Int)) (.ref x)))) D.aWt (.lst ((idsOf s.waiting).map nV ++ [V.int (iN : Int)])))
        ok.kn (by
          obtain ⟨r1, r2, r3⟩ := ok.rg
          refine ⟨?_, ?_, ?_, ?_⟩
          · show cN ≤ 7
            omega
          · show pN ≤ 9
            omega
          · show iN ≤ 999
            omega
          · show (ns.map Int.toNat).length ≤ 6
            rw [List.length_map]
            exact ok.nd.1) ok.few ok.all fx fnl (by rw [upd_ne neKW, upd_same]) upd_same (by rw [upd_ne nWx.symm, upd_ne nKx.symm, hx2]; rfl) (by
          rw [upd_ne nWn.symm, upd_ne nKn.symm, hnl2, nat_needs ok.nd.2]) (fun b hb h1 h2 => by
          rw [upd_ne h2, upd_ne h1]
          cases z : H b with
          | none => exact absurd z hb
          | some o => exact s12 _ _ z)
      have z := k.ok1 heq (R3.mono (Nat.le_succ n)) F3 hp2
      have e5 : ([Vamrqg.ofNat (s.waiting.length + 1)] : List Int).map V.int = [V.int (((idsOf s.waiting).map nV ++ [V.int (iN : Int)]).length : Int)] := by
        rw [List.length_append, List.length_map, idsOf, List.length_map, List.length_singleton]
        rfl
      rw [e5] at z
      exact z
end
end Ag

/-! The reader; the queue at its beginning; the calls by their numbers. -/
set_option Elab.async false
set_option linter.all false
set_option maxRecDepth 100000
set_option maxHeartbeats 4000000
namespace Ag
open PySem PySem.Spec PyProof.Rows L2
open Vamrqg (State Item idsOf windowsOf endOf known)
/-- all but r stays -/
def Frd (r : Addr) (H H1 : Hp) : Prop := ∀ b o, H b = some o → b ≠ r → H1 b = some o
theorem Frd.refl (r : Addr) (H : Hp) : Frd r H H := fun _ _ h _ => h
theorem Frd.trans {r : Addr} {H H1 H2 : Hp} (a : Frd r H H1) (b : Frd r H1 H2) : Frd r H H2 := fun c o h n => b c o (a c o h n) n
theorem cut_drop {xs : List V} {p m : Nat} : cutV xs (some (p : Int)) (some ((p + m : Nat) : Int)) = (xs.drop p).take m := by
  unfold cutV
  rw [HT.sIx_nat, HT.sIx_nat]
  by_cases h : p ≤ xs.length
  · rw [Nat.min_eq_left h]
    by_cases h2 : p + m ≤ xs.length
    · rw [Nat.min_eq_left h2, show p + m - p = m by omega]
    · rw [Nat.min_eq_right (by omega), List.take_of_length_le (by rw [List.length_drop]; omega), List.take_of_length_le (by rw [List.length_drop]; omega)]
  · rw [Nat.min_eq_right (show xs.length ≤ p + m by omega), Nat.min_eq_right (show xs.length ≤ p by omega), List.drop_length, List.take_nil, List.drop_of_length_le (by omega), List.take_nil]
section
variable {P : Program} {w : World} {K : PySem.W.Frag} {mg : Str → Option Value} {base : Heap} {t : Ad}
theorem seq_fr {H H1 : Hp} {a r C dr : Addr} {fs : List (Str × V)} {xs : List V} (h : SqL K H a xs) (hr : H r = some (.ins C dr fs)) (fr : Frd r H H1) : SqL K H1 a xs := by
  rcases h with (h | ⟨o, h⟩) | h
  · exact .inl (.inl (fr _ _ h (ne_of h hr (by intro z; cases z))))
  · exact .inl (.inr ⟨o, fr _ _ h (ne_of h hr (by intro z; cases z))⟩)
  · exact .inr h
def spReader (t : Ad) : Sp := fun vs H Q _ => ∃ (r dr a : Addr), vs = [.ref r, .ref a] ∧ H r = some (.ins t.c_Reader dr []) ∧ ∀ H' : Hp, H' r = some (.ins t.c_Reader dr (fR a 0)) → (∀ b, b ≠ r → H' b = H b) → Q .non H'
theorem ok_Reader_init (T : Txt K mg t) : FnOk P w K mg base CX0 2 t.f_Reader_init t.d_Reader_init ["self", "numbers"] (spReader t) := by
  refine T.F_Reader_init.ok sc_Reader_init (fun vs H Q E h => ?_) (fun cdv A outer s H vs Q E hr h => ?_)
  · obtain ⟨r, dr, a, rfl, _⟩ := h
    rfl
  · obtain ⟨r, dr, a, rfl, hx, k⟩ := h
    refine ⟨_, (pss_cons (ps_fldK (K := K) (pv 0) (pv 1))
      (pss_one (ps_fldK (K := K) (pv 0) pe_int))), ?_⟩
    refine ⟨_, rfl, _, rfl, r, _, dr, _, rfl, hx, T.k_Reader, T.n_Reader_numbers, (by show 0 < 1000; decide), ?_⟩
    refine ⟨_, rfl, r, _, dr, _, rfl, upd_same, T.k_Reader, T.n_Reader_position, (by show 1 < 1000; decide), ?_⟩
    refine k _ ?_ fun b hb => ?_
    · rw [upd_same]
      rfl
    · rw [upd_ne hb, upd_ne hb]
def spDone (t : Ad) (K : PySem.W.Frag) : Sp := fun vs H Q _ => ∃ (r dr a : Addr) (pos : Nat) (ns : List Int), vs = [.ref r] ∧ H r = some (.ins t.c_Reader dr (fR a pos)) ∧ SqL K H a (ns.map V.int) ∧ ∀ H', Same H H' → Q (.bl (decide (ns.length ≤ pos))) H'
theorem ok_Reader_is_done (T : Txt K mg t) : FnOk P w K mg base CX0 2 t.f_Reader_is_done t.d_Reader_is_done ["self"] (spDone t K) := by
  refine T.F_Reader_is_done.ok sc_Reader_is_done (fun vs H Q E h => ?_) (fun cdv A outer s H vs Q E hr h => ?_)
  · obtain ⟨r, dr, a, pos, ns, rfl, _⟩ := h
    rfl
  · obtain ⟨r, dr, a, pos, ns, rfl, ho, ha, k⟩ := h
    refine ⟨_, (pss_one (ps_ret (pe_cmpR op_ge (pe_fldK (K := K) (pv 0)) (pe_callB (call_len_seqK (K := K)) (by rfl) T.z_len PySem.boot_len (pa_cons (pe_fldK (K := K) (pv 0)) pa_nil)) (nomark _)))), ?_⟩
    refine ⟨_, rfl, _, _, _, _, _, rfl, ho, T.k_Reader, T.n_Reader_position, rfl, _, rfl, _, _, _, _, _, rfl, ho, T.k_Reader, T.n_Reader_numbers, rfl, a, _, rfl, .inl ha, _, _, rfl, rfl, ?_⟩
    have q := k H (Same.refl H)
    have e : decide (((ns.map V.int).length : Int) ≤ (pos : Int)) = decide (ns.length ≤ pos) := by
      rw [List.length_map]
      exact decide_eq_decide.mpr (by omega)
    show Q (.bl (decide (((ns.map V.int).length : Int) ≤ (pos : Int)))) H
    rw [e]
    exact q
def spSeveral (t : Ad) (K : PySem.W.Frag) : Sp := fun vs H Q _ => ∃ (r dr a : Addr) (pos m : Nat) (ns : List Int), vs = [.ref r, nV m] ∧ H r = some (.ins t.c_Reader dr (fR a pos)) ∧ SqL K H a (ns.map V.int) ∧
  ∀ (H' : Hp) (p : Addr), H' r = some (.ins t.c_Reader dr (fR a (pos + m))) → H p = none → H' p = some (.lst (((ns.drop pos).take m).map V.int)) → Frd r H H' → Q (.ref p) H'
theorem ok_Reader_take_several (T : Txt K mg t) : FnOk P w K mg base CX0 2 t.f_Reader_take_several t.d_Reader_take_several ["self", "amount"] (spSeveral t K) := by
  refine T.F_Reader_take_several.ok sc_Reader_take_several (fun vs H Q E h => ?_) (fun cdv A outer s H vs Q E hr h => ?_)
  · obtain ⟨r, dr, a, pos, m, ns, rfl, _⟩ := h
    rfl
  · obtain ⟨r, dr, a, pos, m, ns, rfl, ho, ha, k⟩ := h
    refine ⟨_, (pss_cons (ps_set (i := 2) sc_Reader_take_several.nd rfl (Or.inl rfl) (pe_op op_add (pe_fldK (K := K) (pv 0)) (pv 1)))
      (pss_cons (ps_set (i := 3) sc_Reader_take_several.nd rfl (Or.inl rfl) (pe_slice (sl_listK (K := K)) (pe_fldK (K := K) (pv 0)) (po_some (pe_fldK (K := K) (pv 0))) (po_some (pv 2))))
      (pss_cons (ps_fldK (K := K) (pv 0) (pv 2))
      (pss_one (ps_ret (pv 3)))))), ?_⟩
    -- behind = self.position + amount
    refine ⟨_, rfl, _, _, _, _, _, rfl, ho, T.k_Reader, T.n_Reader_position, rfl, _, rfl, _, _, rfl, rfl, ?_⟩
    -- taken = self.numbers[self.position:behind]
    refine ⟨_, rfl, _, _, _, _, _, rfl, ho, T.k_Reader, T.n_Reader_numbers, rfl, _, rfl, _, _, _, _, _, rfl, ho, T.k_Reader, T.n_Reader_position, rfl, (pos : Int), rfl, _, rfl, ((pos + m : Nat) : Int), ?_, a, _, rfl, ha, fun p hp => ?_⟩
    · show V.int ((pos : Int) + (m : Int)) = V.int ((pos + m : Nat) : Int)
      rw [Int.natCast_add]
    have rp : r ≠ p := ne_of_none ho hp
    -- self.position = behind
    refine ⟨_, rfl, _, rfl, r, _, dr, _, rfl, (by rw [upd_ne rp]; exact ho), T.k_Reader, T.n_Reader_position, (by show 2 < 1000; decide), ?_⟩
    refine ⟨_, rfl, k _ p ?_ hp ?_ fun b o hb hne => ?_⟩
    · rw [upd_same]
      show some (HO.ins t.c_Reader dr [("numbers", V.ref a), ("position", V.int ((pos : Int) + (m : Int)))]) = some (HO.ins t.c_Reader dr [("numbers", V.ref a), ("position", V.int ((pos + m : Nat) : Int))])
      rw [Int.natCast_add]
    · rw [upd_ne rp.symm, upd_same, cut_drop, List.map_take, List.map_drop]
    · rw [upd_ne hne, upd_ne (ne_of_none hb hp)]
      exact hb
def spTake (t : Ad) (K : PySem.W.Frag) : Sp := fun vs H Q _ => ∃ (r dr a : Addr) (pos : Nat) (ns : List Int) (z : Int) (rest : List Int), vs = [.ref r] ∧ H r = some (.ins t.c_Reader dr (fR a pos)) ∧ SqL K H a (ns.map V.int) ∧ ns.drop pos = z :: rest ∧
  ∀ H' : Hp, H' r = some (.ins t.c_Reader dr (fR a (pos + 1))) → Frd r H H' → Q (.int z) H'
theorem ok_Reader_take (T : Txt K mg t) : FnOk P w K mg base CX0 3 t.f_Reader_take t.d_Reader_take ["self"] (spTake t K) := by
  refine T.F_Reader_take.ok sc_Reader_take (fun vs H Q E h => ?_) (fun cdv A outer s H vs Q E hr h => ?_)
  · obtain ⟨r, dr, a, pos, ns, z, rest, rfl, _⟩ := h
    rfl
  · obtain ⟨r, dr, a, pos, ns, z, rest, rfl, ho, ha, hd, k⟩ := h
    refine ⟨_, (pss_one (ps_ret (pe_ix (ix_listK (K := K)) (pe_meth (pv 0) T.k_Reader T.mt_Reader_take_several (ok_Reader_take_several T) (hr.mono (by decide)) T.b_Reader_take_several .nil pass0 (pa_cons pe_int pa_nil)) pe_int (fun _ _ => rfl)))), ?_⟩
    refine ⟨_, rfl, r, dr, _, rfl, ho, rfl, r, dr, a, pos, 1, ns, rfl, ho, ha, fun H1 p h1 hp hl fr => ?_⟩
    rw [hd] at hl
    exact ⟨p, _, _, _, rfl, rfl, SqL.of hl, at_of (j := 0) (v := V.int z) rfl rfl, k H1 h1 fr⟩
def spRow (t : Ad) (K : PySem.W.Frag) : Sp := fun vs H Q _ => ∃ (r dr a : Addr) (pos : Nat) (ns : List Int) (row rest : List Int), vs = [.ref r] ∧ H r = some (.ins t.c_Reader dr (fR a pos)) ∧ SqL K H a (ns.map V.int) ∧ ns.drop pos = (row.length : Int) :: (row ++ rest) ∧
  ∀ (H' : Hp) (p : Addr), H' r = some (.ins t.c_Reader dr (fR a (pos + 1 + row.length))) → H' p = some (.lst (row.map V.int)) → Frd r H H' → Q (.ref p) H'
theorem ok_Reader_take_row (T : Txt K mg t) : FnOk P w K mg base CX0 4 t.f_Reader_take_row t.d_Reader_take_row ["self"] (spRow t K) := by
  refine T.F_Reader_take_row.ok sc_Reader_take_row (fun vs H Q E h => ?_) (fun cdv A outer s H vs Q E hr h => ?_)
  · obtain ⟨r, dr, a, pos, ns, row, rest, rfl, _⟩ := h
    rfl
  · obtain ⟨r, dr, a, pos, ns, row, rest, rfl, ho, ha, hd, k⟩ := h
    refine ⟨_, (pss_cons (ps_set (i := 1) sc_Reader_take_row.nd rfl (Or.inl rfl) (pe_meth0 (pv 0) T.k_Reader T.mt_Reader_take (ok_Reader_take T) (hr.mono (by decide)) T.b_Reader_take .nil pass0))
      (pss_one (ps_ret (pe_meth (pv 0) T.k_Reader T.mt_Reader_take_several (ok_Reader_take_several T) (hr.mono (by decide)) T.b_Reader_take_several .nil pass0 (pa_cons (pv 1) pa_nil))))), ?_⟩
    refine ⟨_, rfl, r, dr, _, rfl, ho, rfl, r, dr, a, pos, ns, _, _, rfl, ho, ha, hd, fun H1 h1 fr => ?_⟩
    refine ⟨_, rfl, r, dr, _, rfl, h1, rfl, _, rfl, r, dr, a, pos + 1, row.length, ns, rfl, h1, seq_fr ha ho fr, fun H2 p h2 hp hl fr2 => ?_⟩
    rw [drop_next hd, List.take_left] at hl
    exact k H2 p h2 hl (fr.trans fr2)

/-! ### a queue and a reader -/
structure QR (t : Ad) (K : PySem.W.Frag) (H : Hp) (q r a dr : Addr) (s : State) (O : Own) (D : Ads) (n : Nat) (ns : List Int) (pos : Nat) : Prop where
  R : Rp t H q s O D n
  rd : H r = some (.ins t.c_Reader dr (fR a pos))
  rO : O r = none
  sq : SqL K H a (ns.map V.int)
theorem QR.moved {H H1 : Hp} {q r a dr : Addr} {s : State} {O : Own} {D : Ads} {n : Nat} {ns : List Int} {pos pos1 : Nat} (X : QR t K H q r a dr s O D n ns pos) (h1 : H1 r = some (.ins t.c_Reader dr (fR a pos1))) (fr : Frd r H H1) : QR t K H1 q r a dr s O D n ns pos1 where
  R := X.R.other (fun b o hb ho => fr b o hb (fun z => ho (by rw [z]; exact X.rO))) (fun b hb => by
    cases e : H b with
    | none => rfl
    | some o =>
      by_cases z : b = r
      · rw [z, h1] at hb; cases hb
      · rw [fr b o e z] at hb; cases hb)
  rd := h1
  rO := X.rO
  sq := seq_fr X.sq X.rd fr
def DnR (t : Ad) (H : Hp) (q r a dr : Addr) (s : State) (O : Own) (n pos1 : Nat) (c : Vamrqg.Call) (Q : VK) : Prop := ∀ (H' : Hp) (O' : Own) (D' : Ads) (p : Addr), Rp t H' q (Vamrqg.step s c).1 O' D' (n + 1) → H' r = some (.ins t.c_Reader dr (fR a pos1)) → O' r = none →
  (∀ b o, H b = some o → O b = none → b ≠ r → H' b = some o ∧ O' b = none ∧ b ≠ p) → H' p = some (.lst ((VamrqgNeutral.encode (Vamrqg.step s c).2).map V.int)) → Q (.ref p) H'
theorem DnR.dn {H H1 : Hp} {q r a dr : Addr} {s : State} {O : Own} {D : Ads} {n : Nat} {ns : List Int} {pos1 : Nat} {c : Vamrqg.Call} {Q : VK} (k : DnR t H q r a dr s O n pos1 c Q) (X : QR t K H1 q r a dr s O D n ns pos1) (fr : Frd r H H1) : Dn t H1 q s O n c Q := fun H' O' D' p R' F hf hp =>
  k H' O' D' p R' (F r _ X.rd X.rO).1 (F r _ X.rd X.rO).2 (fun b o hb ho hne => ⟨(F b o (fr b o hb hne) ho).1, (F b o (fr b o hb hne) ho).2, hf b o (fr b o hb hne) ho⟩) hp
theorem eqF {a b : Int} {A B : Prop} (h : a ≠ b) (k : B) : if decide (V.int a = V.int b) = true then A else B := by
  rw [decide_eq_false (fun z => h (V.int.inj z)), if_neg Bool.false_ne_true]
  exact k
theorem eqT {a : Int} {A B : Prop} (k : A) : if decide (V.int a = V.int a) = true then A else B := by
  rw [decide_eq_true rfl, if_pos rfl]
  exact k
/-- the calls with one number -/
inductive One : Int → Int → Vamrqg.Call → Prop
  | freeze (z : Int) : One 3 z (.freeze z)
  | thaw (z : Int) : One 4 z (.thaw z)
  | tick (z : Int) : One 5 z (.tick z)
  | serve (z : Int) : One 7 z (.serve z)
  | again (z : Int) : One 9 z (.again z)
  | withdraw (z : Int) : One 10 z (.withdraw z)
  | why (z : Int) : One 11 z (.why z)
  | place (z : Int) : One 12 z (.place z)
  | nextOpen (z : Int) : One 13 z (.nextOpen z)
def spOne (t : Ad) (K : PySem.W.Frag) : Sp := fun vs H Q _ => ∃ (q r a dr : Addr) (s : State) (O : Own) (D : Ads) (n : Nat) (ns : List Int) (pos : Nat) (no z : Int) (rest : List Int) (c : Vamrqg.Call), vs = [.ref q, .int no, .ref r] ∧ QR t K H q r a dr s O D n ns pos ∧ n ≤ 900 ∧ ns.drop pos = z :: rest ∧ One no z c ∧ DnR t H q r a dr s O n (pos + 1) c Q
theorem ok_answer_with_one_number (T : Txt K mg t) : FnOk P w K mg base CX0 7 t.f_answer_with_one_number t.d_answer_with_one_number ["queue", "call", "reader"] (spOne t K) := by
  refine T.F_answer_with_one_number.ok sc_answer_with_one_number (fun vs H Q E h => ?_) (fun cdv A outer s H vs Q E hr h => ?_)
  · obtain ⟨q, r, a, dr, s, O, D, n, ns, pos, no, z, rest, c, rfl, _⟩ := h
    rfl
  · obtain ⟨q, r, a, dr, s, O, D, n, ns, pos, no, z, rest, c, rfl, X, hn, hd, ho, k⟩ := h
    refine ⟨_, (pss_cons (ps_if (pt_cmpR op_eq (pv 1) (pe_gint rfl T.v_FREEZE) (nomark _)) (pss_one (ps_ret (pe_call (ok_freeze T) (hr.mono (by decide)) rfl T.g_freeze T.F_freeze.kp T.b_freeze .nil pass0 (pa_cons (pv 0) (pa_cons (pe_meth0 (pv 2) T.k_Reader T.mt_Reader_take (ok_Reader_take T) (hr.mono (by decide)) T.b_Reader_take .nil pass0) pa_nil))))) pss_nil)
      (pss_cons (ps_if (pt_cmpR op_eq (pv 1) (pe_gint rfl T.v_THAW) (nomark _)) (pss_one (ps_ret (pe_call (ok_thaw T) (hr.mono (by decide)) rfl T.g_thaw T.F_thaw.kp T.b_thaw .nil pass0 (pa_cons (pv 0) (pa_cons (pe_meth0 (pv 2) T.k_Reader T.mt_Reader_take (ok_Reader_take T) (hr.mono (by decide)) T.b_Reader_take .nil pass0) pa_nil))))) pss_nil)
      (pss_cons (ps_if (pt_cmpR op_eq (pv 1) (pe_gint rfl T.v_TICK) (nomark _)) (pss_one (ps_ret (pe_call (ok_tick T) (hr.mono (by decide)) rfl T.g_tick T.F_tick.kp T.b_tick .nil pass0 (pa_cons (pv 0) (pa_cons (pe_meth0 (pv 2) T.k_Reader T.mt_Reader_take (ok_Reader_take T) (hr.mono (by decide)) T.b_Reader_take .nil pass0) pa_nil))))) pss_nil)
      (pss_cons (ps_if (pt_cmpR op_eq (pv 1) (pe_gint rfl T.v_SERVE) (nomark _)) (pss_one (ps_ret (pe_call (ok_serve T) (hr.mono (by decide)) rfl T.g_serve T.F_serve.kp T.b_serve .nil pass0 (pa_cons (pv 0) (pa_cons (pe_meth0 (pv 2) T.k_Reader T.mt_Reader_take (ok_Reader_take T) (hr.mono (by decide)) T.b_Reader_take .nil pass0) pa_nil))))) pss_nil)
      (pss_cons (ps_if (pt_cmpR op_eq (pv 1) (pe_gint rfl T.v_AGAIN) (nomark _)) (pss_one (ps_ret (pe_call (ok_again T) (hr.mono (by decide)) rfl T.g_again T.F_again.kp T.b_again .nil pass0 (pa_cons (pv 0) (pa_cons (pe_meth0 (pv 2) T.k_Reader T.mt_Reader_take (ok_Reader_take T) (hr.mono (by decide)) T.b_Reader_take .nil pass0) pa_nil))))) pss_nil)
      (pss_cons (ps_if (pt_cmpR op_eq (pv 1) (pe_gint rfl T.v_WITHDRAW) (nomark _)) (pss_one (ps_ret (pe_call (ok_withdraw T) (hr.mono (by decide)) rfl T.g_withdraw T.F_withdraw.kp T.b_withdraw .nil pass0 (pa_cons (pv 0) (pa_cons (pe_meth0 (pv 2) T.k_Reader T.mt_Reader_take (ok_Reader_take T) (hr.mono (by decide)) T.b_Reader_take .nil pass0) pa_nil))))) pss_nil)
      (pss_cons (ps_if (pt_cmpR op_eq (pv 1) (pe_gint rfl T.v_WHY) (nomark _)) (pss_one (ps_ret (pe_call (ok_why T) (hr.mono (by decide)) rfl T.g_why T.F_why.kp T.b_why .nil pass0 (pa_cons (pv 0) (pa_cons (pe_meth0 (pv 2) T.k_Reader T.mt_Reader_take (ok_Reader_take T) (hr.mono (by decide)) T.b_Reader_take .nil pass0) pa_nil))))) pss_nil)
      (pss_cons (ps_if (pt_cmpR op_eq (pv 1) (pe_gint rfl T.v_PLACE) (nomark _)) (pss_one (ps_ret (pe_call (ok_place T) (hr.mono (by decide)) rfl T.g_place T.F_place.kp T.b_place .nil pass0 (pa_cons (pv 0) (pa_cons (pe_meth0 (pv 2) T.k_Reader T.mt_Reader_take (ok_Reader_take T) (hr.mono (by decide)) T.b_Reader_take .nil pass0) pa_nil))))) pss_nil)
      (pss_cons (ps_if (pt_cmpR op_eq (pv 1) (pe_gint rfl T.v_NEXT_OPEN) (nomark _)) (pss_one (ps_ret (pe_call (ok_next_open T) (hr.mono (by decide)) rfl T.g_next_open T.F_next_open.kp T.b_next_open .nil pass0 (pa_cons (pv 0) (pa_cons (pe_meth0 (pv 2) T.k_Reader T.mt_Reader_take (ok_Reader_take T) (hr.mono (by decide)) T.b_Reader_take .nil pass0) pa_nil))))) pss_nil)
      (pss_one ps_never)))))))))), ?_⟩
    cases ho with
    | freeze =>
      refine ⟨_, rfl, rfl, _, rfl, eqT ?_⟩
      refine ⟨_, rfl, _, rfl, r, dr, _, rfl, X.rd, rfl, r, dr, a, pos, ns, z, rest, rfl, X.rd, X.sq, hd, fun H1 h1 fr => ?_⟩
      have X1 := X.moved h1 fr
      exact ⟨q, s, O, D, n, z, rfl, X1.R, hn, k.dn X1 fr⟩
    | thaw =>
      refine ⟨_, rfl, rfl, _, rfl, eqF (by decide) ?_⟩
      refine ⟨_, rfl, rfl, _, rfl, eqT ?_⟩
      refine ⟨_, rfl, _, rfl, r, dr, _, rfl, X.rd, rfl, r, dr, a, pos, ns, z, rest, rfl, X.rd, X.sq, hd, fun H1 h1 fr => ?_⟩
      have X1 := X.moved h1 fr
      exact ⟨q, s, O, D, n, z, rfl, X1.R, hn, k.dn X1 fr⟩
    | tick =>
      refine ⟨_, rfl, rfl, _, rfl, eqF (by decide) ?_⟩
      refine ⟨_, rfl, rfl, _, rfl, eqF (by decide) ?_⟩
      refine ⟨_, rfl, rfl, _, rfl, eqT ?_⟩
      refine ⟨_, rfl, _, rfl, r, dr, _, rfl, X.rd, rfl, r, dr, a, pos, ns, z, rest, rfl, X.rd, X.sq, hd, fun H1 h1 fr => ?_⟩
      have X1 := X.moved h1 fr
      exact ⟨q, s, O, D, n, z, rfl, X1.R, k.dn X1 fr⟩
    | serve =>
      refine ⟨_, rfl, rfl, _, rfl, eqF (by decide) ?_⟩
      refine ⟨_, rfl, rfl, _, rfl, eqF (by decide) ?_⟩
      refine ⟨_, rfl, rfl, _, rfl, eqF (by decide) ?_⟩
      refine ⟨_, rfl, rfl, _, rfl, eqT ?_⟩
      refine ⟨_, rfl, _, rfl, r, dr, _, rfl, X.rd, rfl, r, dr, a, pos, ns, z, rest, rfl, X.rd, X.sq, hd, fun H1 h1 fr => ?_⟩
      have X1 := X.moved h1 fr
      exact ⟨q, s, O, D, n, z, rfl, X1.R, k.dn X1 fr⟩
    | again =>
      refine ⟨_, rfl, rfl, _, rfl, eqF (by decide) ?_⟩
      refine ⟨_, rfl, rfl, _, rfl, eqF (by decide) ?_⟩
      refine ⟨_, rfl, rfl, _, rfl, eqF (by decide) ?_⟩
      refine ⟨_, rfl, rfl, _, rfl, eqF (by decide) ?_⟩
      refine ⟨_, rfl, rfl, _, rfl, eqT ?_⟩
      refine ⟨_, rfl, _, rfl, r, dr, _, rfl, X.rd, rfl, r, dr, a, pos, ns, z, rest, rfl, X.rd, X.sq, hd, fun H1 h1 fr => ?_⟩
      have X1 := X.moved h1 fr
      exact ⟨q, s, O, D, n, z, rfl, X1.R, k.dn X1 fr⟩
    | withdraw =>
      refine ⟨_, rfl, rfl, _, rfl, eqF (by decide) ?_⟩
      refine ⟨_, rfl, rfl, _, rfl, eqF (by decide) ?_⟩
      refine ⟨_, rfl, rfl, _, rfl, eqF (by decide) ?_⟩
      refine ⟨_, rfl, rfl, _, rfl, eqF (by decide) ?_⟩
      refine ⟨_, rfl, rfl, _, rfl, eqF (by decide) ?_⟩
      refine ⟨_, rfl, rfl, _, rfl, eqT ?_⟩
      refine ⟨_, rfl, _, rfl, r, dr, _, rfl, X.rd, rfl, r, dr, a, pos, ns, z, rest, rfl, X.rd, X.sq, hd, fun H1 h1 fr => ?_⟩
      have X1 := X.moved h1 fr
      exact ⟨q, s, O, D, n, z, rfl, X1.R, k.dn X1 fr⟩
    | why =>
      refine ⟨_, rfl, rfl, _, rfl, eqF (by decide) ?_⟩
      refine ⟨_, rfl, rfl, _, rfl, eqF (by decide) ?_⟩
      refine ⟨_, rfl, rfl, _, rfl, eqF (by decide) ?_⟩
      refine ⟨_, rfl, rfl, _, rfl, eqF (by decide) ?_⟩
      refine ⟨_, rfl, rfl, _, rfl, eqF (by decide) ?_⟩
      refine ⟨_, rfl, rfl, _, rfl, eqF (by decide) ?_⟩
      refine ⟨_, rfl, rfl, _, rfl, eqT ?_⟩
      refine ⟨_, rfl, _, rfl, r, dr, _, rfl, X.rd, rfl, r, dr, a, pos, ns, z, rest, rfl, X.rd, X.sq, hd, fun H1 h1 fr => ?_⟩
      have X1 := X.moved h1 fr
      exact ⟨q, s, O, D, n, z, rfl, X1.R, k.dn X1 fr⟩
    | place =>
      refine ⟨_, rfl, rfl, _, rfl, eqF (by decide) ?_⟩
      refine ⟨_, rfl, rfl, _, rfl, eqF (by decide) ?_⟩
      refine ⟨_, rfl, rfl, _, rfl, eqF (by decide) ?_⟩
      refine ⟨_, rfl, rfl, _, rfl, eqF (by decide) ?_⟩
      refine ⟨_, rfl, rfl, _, rfl, eqF (by decide) ?_⟩
      refine ⟨_, rfl, rfl, _, rfl, eqF (by decide) ?_⟩
      refine ⟨_, rfl, rfl, _, rfl, eqF (by decide) ?_⟩
      refine ⟨_, rfl, rfl, _, rfl, eqT ?_⟩
      refine ⟨_, rfl, _, rfl, r, dr, _, rfl, X.rd, rfl, r, dr, a, pos, ns, z, rest, rfl, X.rd, X.sq, hd, fun H1 h1 fr => ?_⟩
      have X1 := X.moved h1 fr
      exact ⟨q, s, O, D, n, z, rfl, X1.R, k.dn X1 fr⟩
    | nextOpen =>
      refine ⟨_, rfl, rfl, _, rfl, eqF (by decide) ?_⟩
      refine ⟨_, rfl, rfl, _, rfl, eqF (by decide) ?_⟩
      refine ⟨_, rfl, rfl, _, rfl, eqF (by decide) ?_⟩
      refine ⟨_, rfl, rfl, _, rfl, eqF (by decide) ?_⟩
      refine ⟨_, rfl, rfl, _, rfl, eqF (by decide) ?_⟩
      refine ⟨_, rfl, rfl, _, rfl, eqF (by decide) ?_⟩
      refine ⟨_, rfl, rfl, _, rfl, eqF (by decide) ?_⟩
      refine ⟨_, rfl, rfl, _, rfl, eqF (by decide) ?_⟩
      refine ⟨_, rfl, rfl, _, rfl, eqT ?_⟩
      refine ⟨_, rfl, _, rfl, r, dr, _, rfl, X.rd, rfl, r, dr, a, pos, ns, z, rest, rfl, X.rd, X.sq, hd, fun H1 h1 fr => ?_⟩
      have X1 := X.moved h1 fr
      exact ⟨q, s, O, D, n, z, rfl, X1.R, k.dn X1 fr⟩
end
end Ag

/-! The calls by their numbers; the queue at its beginning. -/
set_option Elab.async false
set_option linter.all false
set_option maxRecDepth 100000
set_option maxHeartbeats 4000000
namespace Ag
open PySem PySem.Spec PyProof.Rows L2
open Vamrqg (State Item idsOf windowsOf endOf known)
section
variable {P : Program} {w : World} {K : PySem.W.Frag} {mg : Str → Option Value} {base : Heap} {t : Ad}
def spNext (t : Ad) (K : PySem.W.Frag) : Sp := fun vs H Q _ => ∃ (q r a dr : Addr) (s : State) (O : Own) (D : Ads) (n : Nat) (ns : List Int) (pos : Nat) (c : List (List Int)) (rest : List Int) (cl : Vamrqg.Call), vs = [.ref q, .ref r] ∧ QR t K H q r a dr s O D n ns pos ∧ n ≤ 900 ∧ ns.drop pos = PyFlat.put1 c ++ rest ∧ Form c cl ∧
  DnR t H q r a dr s O n (pos + (PyFlat.put1 c).length) cl Q
theorem ok_answer_next (T : Txt K mg t) : FnOk P w K mg base CX0 8 t.f_answer_next t.d_answer_next ["queue", "reader"] (spNext t K) := by
  refine T.F_answer_next.ok sc_answer_next (fun vs H Q E h => ?_) (fun cdv A outer s H vs Q E hr h => ?_)
  · obtain ⟨q, r, a, dr, s, O, D, n, ns, pos, c, rest, cl, rfl, _⟩ := h
    rfl
  · obtain ⟨q, r, a, dr, s, O, D, n, ns, pos, c, rest, cl, rfl, X, hn, hd, hf, k⟩ := h
    refine ⟨_, (pss_cons (ps_set (i := 2) sc_answer_next.nd rfl (Or.inl rfl) (pe_meth0 (pv 1) T.k_Reader T.mt_Reader_take (ok_Reader_take T) (hr.mono (by decide)) T.b_Reader_take .nil pass0))
      (pss_cons (ps_if (pt_cmpR op_eq (pv 2) (pe_gint rfl T.v_CONFIG) (nomark _)) (pss_cons (ps_set (i := 3) sc_answer_next.nd rfl (Or.inl rfl) (pe_meth (pv 1) T.k_Reader T.mt_Reader_take_several (ok_Reader_take_several T) (hr.mono (by decide)) T.b_Reader_take_several .nil pass0 (pa_cons pe_int pa_nil)))
        (pss_one (ps_ret (pe_call (ok_config T) (hr.mono (by decide)) rfl T.g_config T.F_config.kp T.b_config .nil pass0 (pa_cons (pv 0) (pa_cons (pe_ix (ix_listK (K := K)) (pv 3) pe_int (fun _ _ => rfl)) (pa_cons (pe_ix (ix_listK (K := K)) (pv 3) pe_int (fun _ _ => rfl)) pa_nil))))))) pss_nil)
      (pss_cons (ps_if (pt_cmpR op_eq (pv 2) (pe_gint rfl T.v_ADD) (nomark _)) (pss_cons (ps_set (i := 3) sc_answer_next.nd rfl (Or.inl rfl) (pe_meth (pv 1) T.k_Reader T.mt_Reader_take_several (ok_Reader_take_several T) (hr.mono (by decide)) T.b_Reader_take_several .nil pass0 (pa_cons pe_int pa_nil)))
        (pss_one (ps_ret (pe_call (ok_add T) (hr.mono (by decide)) rfl T.g_add T.F_add.kp T.b_add .nil pass0 (pa_cons (pv 0) (pa_cons (pe_ix (ix_listK (K := K)) (pv 3) pe_int (fun _ _ => rfl)) (pa_cons (pe_ix (ix_listK (K := K)) (pv 3) pe_int (fun _ _ => rfl)) (pa_cons (pe_ix (ix_listK (K := K)) (pv 3) pe_int (fun _ _ => rfl)) (pa_cons (pe_meth0 (pv 1) T.k_Reader T.mt_Reader_take_row (ok_Reader_take_row T) (hr.mono (by decide)) T.b_Reader_take_row .nil pass0) pa_nil))))))))) pss_nil)
      (pss_cons (ps_if (pt_cmpR op_eq (pv 2) (pe_gint rfl T.v_WINDOW) (nomark _)) (pss_cons (ps_set (i := 4) sc_answer_next.nd rfl (Or.inl rfl) (pe_meth0 (pv 1) T.k_Reader T.mt_Reader_take (ok_Reader_take T) (hr.mono (by decide)) T.b_Reader_take .nil pass0))
        (pss_one (ps_ret (pe_call (ok_window T) (hr.mono (by decide)) rfl T.g_window T.F_window.kp T.b_window .nil pass0 (pa_cons (pv 0) (pa_cons (pv 4) (pa_cons (pe_meth0 (pv 1) T.k_Reader T.mt_Reader_take_row (ok_Reader_take_row T) (hr.mono (by decide)) T.b_Reader_take_row .nil pass0) pa_nil))))))) pss_nil)
      (pss_cons (ps_if (pt_cmpR op_eq (pv 2) (pe_gint rfl T.v_OUTCOME) (nomark _)) (pss_cons (ps_set (i := 3) sc_answer_next.nd rfl (Or.inl rfl) (pe_meth (pv 1) T.k_Reader T.mt_Reader_take_several (ok_Reader_take_several T) (hr.mono (by decide)) T.b_Reader_take_several .nil pass0 (pa_cons pe_int pa_nil)))
        (pss_one (ps_ret (pe_call (ok_outcome T) (hr.mono (by decide)) rfl T.g_outcome T.F_outcome.kp T.b_outcome .nil pass0 (pa_cons (pv 0) (pa_cons (pe_ix (ix_listK (K := K)) (pv 3) pe_int (fun _ _ => rfl)) (pa_cons (pe_ix (ix_listK (K := K)) (pv 3) pe_int (fun _ _ => rfl)) pa_nil))))))) pss_nil)
      (pss_cons (ps_if (pt_cmpR op_eq (pv 2) (pe_gint rfl T.v_ORDER) (nomark _)) (pss_one (ps_ret (pe_call (ok_order T) (hr.mono (by decide)) rfl T.g_order T.F_order.kp T.b_order .nil pass0 (pa_cons (pv 0) pa_nil)))) pss_nil)
      (pss_cons (ps_if (pt_cmpR op_eq (pv 2) (pe_gint rfl T.v_STATUS) (nomark _)) (pss_one (ps_ret (pe_call (ok_status T) (hr.mono (by decide)) rfl T.g_status T.F_status.kp T.b_status .nil pass0 (pa_cons (pv 0) pa_nil)))) pss_nil)
      (pss_one (ps_ret (pe_call (ok_answer_with_one_number T) (hr.mono (by decide)) rfl T.g_answer_with_one_number T.F_answer_with_one_number.kp T.b_answer_with_one_number .nil pass0 (pa_cons (pv 0) (pa_cons (pv 2) (pa_cons (pv 1) pa_nil))))))))))))), ?_⟩
    have one : ∀ {no z : Int} {H1 : Hp}, Frd r H H1 → QR t K H1 q r a dr s O D n ns (pos + 1) → ns.drop pos = no :: z :: rest → One no z cl → DnR t H q r a dr s O n (pos + 2) cl Q → spOne t K [.ref q, .int no, .ref r] H1 Q E := fun {no z H1} fr X1 h1 ho k =>
      ⟨q, r, a, dr, s, O, D, n, ns, pos + 1, no, z, rest, cl, rfl, X1, hn, drop_next h1, ho, fun H' O' D' p R' h2 h3 h4 h5 => k H' O' D' p R' h2 h3 (fun b o hb ho hne => h4 b o (fr b o hb hne) ho hne) h5⟩
    cases hf with
    | config l d =>
      have hd' : ns.drop pos = 0 :: l :: d :: rest := hd
      refine ⟨_, rfl, r, dr, _, rfl, X.rd, rfl, r, dr, a, pos, ns, 0, l :: d :: rest, rfl, X.rd, X.sq, hd', fun H1 h1 fr => ?_⟩
      have X1 := X.moved h1 fr
      refine ⟨_, rfl, rfl, _, rfl, eqT ?_⟩
      refine ⟨_, rfl, r, dr, _, rfl, X1.rd, rfl, r, dr, a, pos + 1, 2, ns, rfl, X1.rd, X1.sq, fun H2 p h2 hp hl fr2 => ?_⟩
      have X2 := X1.moved h2 fr2
      rw [drop_next hd'] at hl
      refine ⟨_, rfl, _, rfl, p, _, _, _, rfl, rfl, SqL.of hl, at_of (j := 0) (v := V.int l) rfl rfl, _, rfl, p, _, _, _, rfl, rfl, SqL.of hl, at_of (j := 1) (v := V.int d) rfl rfl, ?_⟩
      exact ⟨q, s, O, D, n, l, d, rfl, X2.R, DnR.dn k X2 (fr.trans fr2)⟩
    | add i p c row hrow =>
      have hd' : ns.drop pos = 1 :: i :: p :: c :: (row.length : Int) :: (row ++ rest) := by
        rw [hd]
        show [1, i, p, c] ++ (((row.length : Int) :: row) ++ []) ++ rest = _
        rw [List.append_nil]
        rfl
      have hl1 : (PyFlat.put1 [[1, i, p, c], row]).length = 3 + 1 + 1 + row.length := by
        show ([1, i, p, c] ++ (((row.length : Int) :: row) ++ [])).length = _
        rw [List.append_nil, List.length_append, List.length_cons]
        show 4 + (row.length + 1) = _
        omega
      refine ⟨_, rfl, r, dr, _, rfl, X.rd, rfl, r, dr, a, pos, ns, 1, _, rfl, X.rd, X.sq, hd', fun H1 h1 fr => ?_⟩
      have X1 := X.moved h1 fr
      refine ⟨_, rfl, rfl, _, rfl, eqF (by decide) ?_⟩
      refine ⟨_, rfl, rfl, _, rfl, eqT ?_⟩
      refine ⟨_, rfl, r, dr, _, rfl, X1.rd, rfl, r, dr, a, pos + 1, 3, ns, rfl, X1.rd, X1.sq, fun H2 pl h2 hp hl fr2 => ?_⟩
      have X2 := X1.moved h2 fr2
      have hd1 := drop_next hd'
      rw [hd1] at hl
      have hd2 : ns.drop (pos + 1 + 3) = (row.length : Int) :: (row ++ rest) := drop_more (x := [i, p, c]) hd1
      refine ⟨_, rfl, _, rfl, pl, _, _, _, rfl, rfl, SqL.of hl, at_of (j := 0) (v := V.int i) rfl rfl, _, rfl, pl, _, _, _, rfl, rfl, SqL.of hl, at_of (j := 1) (v := V.int p) rfl rfl, _, rfl, pl, _, _, _, rfl, rfl, SqL.of hl, at_of (j := 2) (v := V.int c) rfl rfl, ?_⟩
      refine ⟨_, rfl, r, dr, _, rfl, X2.rd, rfl, r, dr, a, pos + 1 + 3, ns, row, rest, rfl, X2.rd, X2.sq, hd2, fun H3 p3 h3 hl3 fr3 => ?_⟩
      have X3 := X2.moved h3 fr3
      have ep : pos + (PyFlat.put1 [[1, i, p, c], row]).length = pos + 1 + 3 + 1 + row.length := by rw [hl1]; omega
      rw [ep] at k
      exact ⟨q, p3, s, O, D, n, i, p, c, row, rfl, X3.R, SqL.of hl3, hrow, DnR.dn k X3 ((fr.trans fr2).trans fr3)⟩
    | window c row hrow =>
      have hd' : ns.drop pos = 2 :: c :: (row.length : Int) :: (row ++ rest) := by
        rw [hd]
        show [2, c] ++ (((row.length : Int) :: row) ++ []) ++ rest = _
        rw [List.append_nil]
        rfl
      have hl1 : (PyFlat.put1 [[2, c], row]).length = 2 + 1 + row.length := by
        show ([2, c] ++ (((row.length : Int) :: row) ++ [])).length = _
        rw [List.append_nil, List.length_append, List.length_cons]
        show 2 + (row.length + 1) = _
        omega
      refine ⟨_, rfl, r, dr, _, rfl, X.rd, rfl, r, dr, a, pos, ns, 2, _, rfl, X.rd, X.sq, hd', fun H1 h1 fr => ?_⟩
      have X1 := X.moved h1 fr
      refine ⟨_, rfl, rfl, _, rfl, eqF (by decide) ?_⟩
      refine ⟨_, rfl, rfl, _, rfl, eqF (by decide) ?_⟩
      refine ⟨_, rfl, rfl, _, rfl, eqT ?_⟩
      have hd1 := drop_next hd'
      refine ⟨_, rfl, r, dr, _, rfl, X1.rd, rfl, r, dr, a, pos + 1, ns, c, _, rfl, X1.rd, X1.sq, hd1, fun H2 h2 fr2 => ?_⟩
      have X2 := X1.moved h2 fr2
      refine ⟨_, rfl, _, rfl, _, rfl, r, dr, _, rfl, X2.rd, rfl, r, dr, a, pos + 1 + 1, ns, row, rest, rfl, X2.rd, X2.sq, drop_next hd1, fun H3 p3 h3 hl3 fr3 => ?_⟩
      have X3 := X2.moved h3 fr3
      have ep : pos + (PyFlat.put1 [[2, c], row]).length = pos + 1 + 1 + 1 + row.length := by rw [hl1]; omega
      rw [ep] at k
      exact ⟨q, p3, s, O, D, n, c, row, rfl, X3.R, hn, SqL.of hl3, hrow, DnR.dn k X3 ((fr.trans fr2).trans fr3)⟩
    | outcome i ok =>
      have hd' : ns.drop pos = 8 :: i :: ok :: rest := hd
      refine ⟨_, rfl, r, dr, _, rfl, X.rd, rfl, r, dr, a, pos, ns, 8, i :: ok :: rest, rfl, X.rd, X.sq, hd', fun H1 h1 fr => ?_⟩
      have X1 := X.moved h1 fr
      refine ⟨_, rfl, rfl, _, rfl, eqF (by decide) ?_⟩
      refine ⟨_, rfl, rfl, _, rfl, eqF (by decide) ?_⟩
      refine ⟨_, rfl, rfl, _, rfl, eqF (by decide) ?_⟩
      refine ⟨_, rfl, rfl, _, rfl, eqT ?_⟩
      refine ⟨_, rfl, r, dr, _, rfl, X1.rd, rfl, r, dr, a, pos + 1, 2, ns, rfl, X1.rd, X1.sq, fun H2 p h2 hp hl fr2 => ?_⟩
      have X2 := X1.moved h2 fr2
      rw [drop_next hd'] at hl
      refine ⟨_, rfl, _, rfl, p, _, _, _, rfl, rfl, SqL.of hl, at_of (j := 0) (v := V.int i) rfl rfl, _, rfl, p, _, _, _, rfl, rfl, SqL.of hl, at_of (j := 1) (v := V.int ok) rfl rfl, ?_⟩
      exact ⟨q, s, O, D, n, i, ok, rfl, X2.R, DnR.dn k X2 (fr.trans fr2)⟩
    | order =>
      have hd' : ns.drop pos = 6 :: rest := hd
      refine ⟨_, rfl, r, dr, _, rfl, X.rd, rfl, r, dr, a, pos, ns, 6, rest, rfl, X.rd, X.sq, hd', fun H1 h1 fr => ?_⟩
      have X1 := X.moved h1 fr
      refine ⟨_, rfl, rfl, _, rfl, eqF (by decide) ?_⟩
      refine ⟨_, rfl, rfl, _, rfl, eqF (by decide) ?_⟩
      refine ⟨_, rfl, rfl, _, rfl, eqF (by decide) ?_⟩
      refine ⟨_, rfl, rfl, _, rfl, eqF (by decide) ?_⟩
      refine ⟨_, rfl, rfl, _, rfl, eqT ?_⟩
      exact ⟨_, rfl, q, s, O, D, n, rfl, X1.R, DnR.dn k X1 fr⟩
    | status =>
      have hd' : ns.drop pos = 14 :: rest := hd
      refine ⟨_, rfl, r, dr, _, rfl, X.rd, rfl, r, dr, a, pos, ns, 14, rest, rfl, X.rd, X.sq, hd', fun H1 h1 fr => ?_⟩
      have X1 := X.moved h1 fr
      refine ⟨_, rfl, rfl, _, rfl, eqF (by decide) ?_⟩
      refine ⟨_, rfl, rfl, _, rfl, eqF (by decide) ?_⟩
      refine ⟨_, rfl, rfl, _, rfl, eqF (by decide) ?_⟩
      refine ⟨_, rfl, rfl, _, rfl, eqF (by decide) ?_⟩
      refine ⟨_, rfl, rfl, _, rfl, eqF (by decide) ?_⟩
      refine ⟨_, rfl, rfl, _, rfl, eqT ?_⟩
      exact ⟨_, rfl, q, s, O, D, n, rfl, X1.R, DnR.dn k X1 fr⟩
    | freeze z =>
      have hd' : ns.drop pos = 3 :: z :: rest := hd
      refine ⟨_, rfl, r, dr, _, rfl, X.rd, rfl, r, dr, a, pos, ns, 3, z :: rest, rfl, X.rd, X.sq, hd', fun H1 h1 fr => ?_⟩
      have X1 := X.moved h1 fr
      refine ⟨_, rfl, rfl, _, rfl, eqF (by decide) ?_⟩
      refine ⟨_, rfl, rfl, _, rfl, eqF (by decide) ?_⟩
      refine ⟨_, rfl, rfl, _, rfl, eqF (by decide) ?_⟩
      refine ⟨_, rfl, rfl, _, rfl, eqF (by decide) ?_⟩
      refine ⟨_, rfl, rfl, _, rfl, eqF (by decide) ?_⟩
      refine ⟨_, rfl, rfl, _, rfl, eqF (by decide) ?_⟩
      exact ⟨_, rfl, _, rfl, _, rfl, one fr X1 hd' (.freeze z) k⟩
    | thaw z =>
      have hd' : ns.drop pos = 4 :: z :: rest := hd
      refine ⟨_, rfl, r, dr, _, rfl, X.rd, rfl, r, dr, a, pos, ns, 4, z :: rest, rfl, X.rd, X.sq, hd', fun H1 h1 fr => ?_⟩
      have X1 := X.moved h1 fr
      refine ⟨_, rfl, rfl, _, rfl, eqF (by decide) ?_⟩
      refine ⟨_, rfl, rfl, _, rfl, eqF (by decide) ?_⟩
      refine ⟨_, rfl, rfl, _, rfl, eqF (by decide) ?_⟩
      refine ⟨_, rfl, rfl, _, rfl, eqF (by decide) ?_⟩
      refine ⟨_, rfl, rfl, _, rfl, eqF (by decide) ?_⟩
      refine ⟨_, rfl, rfl, _, rfl, eqF (by decide) ?_⟩
      exact ⟨_, rfl, _, rfl, _, rfl, one fr X1 hd' (.thaw z) k⟩
    | tick z =>
      have hd' : ns.drop pos = 5 :: z :: rest := hd
      refine ⟨_, rfl, r, dr, _, rfl, X.rd, rfl, r, dr, a, pos, ns, 5, z :: rest, rfl, X.rd, X.sq, hd', fun H1 h1 fr => ?_⟩
      have X1 := X.moved h1 fr
      refine ⟨_, rfl, rfl, _, rfl, eqF (by decide) ?_⟩
      refine ⟨_, rfl, rfl, _, rfl, eqF (by decide) ?_⟩
      refine ⟨_, rfl, rfl, _, rfl, eqF (by decide) ?_⟩
      refine ⟨_, rfl, rfl, _, rfl, eqF (by decide) ?_⟩
      refine ⟨_, rfl, rfl, _, rfl, eqF (by decide) ?_⟩
      refine ⟨_, rfl, rfl, _, rfl, eqF (by decide) ?_⟩
      exact ⟨_, rfl, _, rfl, _, rfl, one fr X1 hd' (.tick z) k⟩
    | serve z =>
      have hd' : ns.drop pos = 7 :: z :: rest := hd
      refine ⟨_, rfl, r, dr, _, rfl, X.rd, rfl, r, dr, a, pos, ns, 7, z :: rest, rfl, X.rd, X.sq, hd', fun H1 h1 fr => ?_⟩
      have X1 := X.moved h1 fr
      refine ⟨_, rfl, rfl, _, rfl, eqF (by decide) ?_⟩
      refine ⟨_, rfl, rfl, _, rfl, eqF (by decide) ?_⟩
      refine ⟨_, rfl, rfl, _, rfl, eqF (by decide) ?_⟩
      refine ⟨_, rfl, rfl, _, rfl, eqF (by decide) ?_⟩
      refine ⟨_, rfl, rfl, _, rfl, eqF (by decide) ?_⟩
      refine ⟨_, rfl, rfl, _, rfl, eqF (by decide) ?_⟩
      exact ⟨_, rfl, _, rfl, _, rfl, one fr X1 hd' (.serve z) k⟩
    | again z =>
      have hd' : ns.drop pos = 9 :: z :: rest := hd
      refine ⟨_, rfl, r, dr, _, rfl, X.rd, rfl, r, dr, a, pos, ns, 9, z :: rest, rfl, X.rd, X.sq, hd', fun H1 h1 fr => ?_⟩
      have X1 := X.moved h1 fr
      refine ⟨_, rfl, rfl, _, rfl, eqF (by decide) ?_⟩
      refine ⟨_, rfl, rfl, _, rfl, eqF (by decide) ?_⟩
      refine ⟨_, rfl, rfl, _, rfl, eqF (by decide) ?_⟩
      refine ⟨_, rfl, rfl, _, rfl, eqF (by decide) ?_⟩
      refine ⟨_, rfl, rfl, _, rfl, eqF (by decide) ?_⟩
      refine ⟨_, rfl, rfl, _, rfl, eqF (by decide) ?_⟩
      exact ⟨_, rfl, _, rfl, _, rfl, one fr X1 hd' (.again z) k⟩
    | withdraw z =>
      have hd' : ns.drop pos = 10 :: z :: rest := hd
      refine ⟨_, rfl, r, dr, _, rfl, X.rd, rfl, r, dr, a, pos, ns, 10, z :: rest, rfl, X.rd, X.sq, hd', fun H1 h1 fr => ?_⟩
      have X1 := X.moved h1 fr
      refine ⟨_, rfl, rfl, _, rfl, eqF (by decide) ?_⟩
      refine ⟨_, rfl, rfl, _, rfl, eqF (by decide) ?_⟩
      refine ⟨_, rfl, rfl, _, rfl, eqF (by decide) ?_⟩
      refine ⟨_, rfl, rfl, _, rfl, eqF (by decide) ?_⟩
      refine ⟨_, rfl, rfl, _, rfl, eqF (by decide) ?_⟩
      refine ⟨_, rfl, rfl, _, rfl, eqF (by decide) ?_⟩
      exact ⟨_, rfl, _, rfl, _, rfl, one fr X1 hd' (.withdraw z) k⟩
    | why z =>
      have hd' : ns.drop pos = 11 :: z :: rest := hd
      refine ⟨_, rfl, r, dr, _, rfl, X.rd, rfl, r, dr, a, pos, ns, 11, z :: rest, rfl, X.rd, X.sq, hd', fun H1 h1 fr => ?_⟩
      have X1 := X.moved h1 fr
      refine ⟨_, rfl, rfl, _, rfl, eqF (by decide) ?_⟩
      refine ⟨_, rfl, rfl, _, rfl, eqF (by decide) ?_⟩
      refine ⟨_, rfl, rfl, _, rfl, eqF (by decide) ?_⟩
      refine ⟨_, rfl, rfl, _, rfl, eqF (by decide) ?_⟩
      refine ⟨_, rfl, rfl, _, rfl, eqF (by decide) ?_⟩
      refine ⟨_, rfl, rfl, _, rfl, eqF (by decide) ?_⟩
      exact ⟨_, rfl, _, rfl, _, rfl, one fr X1 hd' (.why z) k⟩
    | place z =>
      have hd' : ns.drop pos = 12 :: z :: rest := hd
      refine ⟨_, rfl, r, dr, _, rfl, X.rd, rfl, r, dr, a, pos, ns, 12, z :: rest, rfl, X.rd, X.sq, hd', fun H1 h1 fr => ?_⟩
      have X1 := X.moved h1 fr
      refine ⟨_, rfl, rfl, _, rfl, eqF (by decide) ?_⟩
      refine ⟨_, rfl, rfl, _, rfl, eqF (by decide) ?_⟩
      refine ⟨_, rfl, rfl, _, rfl, eqF (by decide) ?_⟩
      refine ⟨_, rfl, rfl, _, rfl, eqF (by decide) ?_⟩
      refine ⟨_, rfl, rfl, _, rfl, eqF (by decide) ?_⟩
      refine ⟨_, rfl, rfl, _, rfl, eqF (by decide) ?_⟩
      exact ⟨_, rfl, _, rfl, _, rfl, one fr X1 hd' (.place z) k⟩
    | nextOpen z =>
      have hd' : ns.drop pos = 13 :: z :: rest := hd
      refine ⟨_, rfl, r, dr, _, rfl, X.rd, rfl, r, dr, a, pos, ns, 13, z :: rest, rfl, X.rd, X.sq, hd', fun H1 h1 fr => ?_⟩
      have X1 := X.moved h1 fr
      refine ⟨_, rfl, rfl, _, rfl, eqF (by decide) ?_⟩
      refine ⟨_, rfl, rfl, _, rfl, eqF (by decide) ?_⟩
      refine ⟨_, rfl, rfl, _, rfl, eqF (by decide) ?_⟩
      refine ⟨_, rfl, rfl, _, rfl, eqF (by decide) ?_⟩
      refine ⟨_, rfl, rfl, _, rfl, eqF (by decide) ?_⟩
      refine ⟨_, rfl, rfl, _, rfl, eqF (by decide) ?_⟩
      exact ⟨_, rfl, _, rfl, _, rfl, one fr X1 hd' (.nextOpen z) k⟩
/-! ### a new queue -/
structure NewAll (H H1 : Hp) (q : Addr) (l : List (Addr × HO)) : Prop where
  qn : H q ≠ none
  new : ∀ p ∈ l, H1 p.1 = some p.2 ∧ H p.1 = none
  nd : (l.map (·.1)).Nodup
  old : ∀ b, b ≠ q → ¬ b ∈ l.map (·.1) → H1 b = H b
theorem NewAll.start {H : Hp} {q : Addr} (h : H q ≠ none) : NewAll H H q [] := ⟨h, fun p hp => (by cases hp), List.nodup_nil, fun _ _ _ => rfl⟩
theorem NewAll.set {H H1 : Hp} {q : Addr} {l : List (Addr × HO)} {o : HO} (N : NewAll H H1 q l) : NewAll H (upd H1 q o) q l where
  qn := N.qn
  new := fun p hp => by
    have nq : p.1 ≠ q := fun e => N.qn (by rw [← e]; exact (N.new p hp).2)
    exact ⟨by rw [upd_ne nq]; exact (N.new p hp).1, (N.new p hp).2⟩
  nd := N.nd
  old := fun b h1 h2 => by rw [upd_ne h1]; exact N.old b h1 h2
theorem NewAll.add {H H1 : Hp} {q x : Addr} {l : List (Addr × HO)} {o : HO} (N : NewAll H H1 q l) (hq : H1 q ≠ none) (hx : H1 x = none) : NewAll H (upd H1 x o) q (l ++ [(x, o)]) := by
  have xq : x ≠ q := fun e => hq (by rw [← e]; exact hx)
  have xl : ¬ x ∈ l.map (·.1) := fun z => by
    obtain ⟨p, hp, e⟩ := List.mem_map.mp z
    have := (N.new p hp).1
    rw [e, hx] at this
    cases this
  refine ⟨N.qn, fun p hp => ?_, ?_, fun b h1 h2 => ?_⟩
  · rcases List.mem_append.mp hp with z | z
    · have px : p.1 ≠ x := fun e => xl (List.mem_map.mpr ⟨p, z, e⟩)
      exact ⟨by rw [upd_ne px]; exact (N.new p z).1, (N.new p z).2⟩
    · rw [List.mem_singleton] at z
      subst z
      exact ⟨upd_same, by rw [← N.old x xq xl]; exact hx⟩
  · rw [List.map_append, List.nodup_append]
    refine ⟨N.nd, by simp, fun u hu v hv e => ?_⟩
    have ev : v = x := by simpa using hv
    subst e ev
    exact xl hu
  · rw [List.map_append, List.mem_append] at h2
    have bx : b ≠ x := fun e => h2 (.inr (by rw [e]; simp))
    rw [upd_ne bx]
    exact N.old b h1 fun z => h2 (.inl z)
def D0 (dq aW aF aK aWt aR aE : Addr) : Ads := ⟨aW, aF, aK, aWt, aR, aE, dq, fun _ => aW, fun _ => aW, fun _ => aW, [], [], [], []⟩
def spQueue (t : Ad) : Sp := fun vs H Q _ => ∃ (q dq : Addr), vs = [.ref q] ∧ H q = some (.ins t.c_Queue dq []) ∧ ∀ (H' : Hp) (aW aF aK aWt aR aE : Addr), H' q = some (.ins t.c_Queue dq (fQ 3 24 0 (D0 dq aW aF aK aWt aR aE))) →
  NewAll H H' q [(aW, .dK []), (aF, .dK []), (aK, .dK []), (aWt, .lst []), (aR, .lst []), (aE, .dK [])] → Q .non H'
theorem ok_Queue_init (T : Txt K mg t) : FnOk P w K mg base CX0 2 t.f_Queue_init t.d_Queue_init ["self"] (spQueue t) := by
  refine T.F_Queue_init.ok sc_Queue_init (fun vs H Q E h => ?_) (fun cdv A outer s H vs Q E hr h => ?_)
  · obtain ⟨q, dq, rfl, _⟩ := h
    rfl
  · obtain ⟨q, dq, rfl, hq, k⟩ := h
    refine ⟨_, (pss_cons (ps_fldK (K := K) (pv 0) pe_int)
      (pss_cons (ps_fldK (K := K) (pv 0) pe_int)
      (pss_cons (ps_fldK (K := K) (pv 0) pe_int)
      (pss_cons (ps_fldK (K := K) (pv 0) pe_dnewK)
      (pss_cons (ps_fldK (K := K) (pv 0) pe_dnewK)
      (pss_cons (ps_fldK (K := K) (pv 0) pe_dnewK)
      (pss_cons (ps_fldK (K := K) (pv 0) (pe_lst pa_nil))
      (pss_cons (ps_fldK (K := K) (pv 0) (pe_lst pa_nil))
      (pss_one (ps_fldK (K := K) (pv 0) pe_dnewK)))))))))), ?_⟩
    have N0 : NewAll H H q [] := .start (by rw [hq]; simp)
    refine ⟨_, rfl, q, _, dq, _, rfl, hq, T.k_Queue, T.n_Queue_limit, (by show 0 < 1000; decide), ?_⟩
    refine ⟨_, rfl, q, _, dq, _, rfl, upd_same, T.k_Queue, T.n_Queue_day, (by show 1 < 1000; decide), ?_⟩
    refine ⟨_, rfl, q, _, dq, _, rfl, upd_same, T.k_Queue, T.n_Queue_time, (by show 2 < 1000; decide), ?_⟩
    have N1 := ((N0.set (o := .ins t.c_Queue dq (putF "limit" (.int 3) []))).set (o := .ins t.c_Queue dq (putF "day" (.int 24) (putF "limit" (.int 3) [])))).set (o := .ins t.c_Queue dq (putF "time" (.int 0) (putF "day" (.int 24) (putF "limit" (.int 3) []))))
    have q1 : (upd (upd (upd H q (.ins t.c_Queue dq (putF "limit" (.int 3) []))) q (.ins t.c_Queue dq (putF "day" (.int 24) (putF "limit" (.int 3) [])))) q (.ins t.c_Queue dq (putF "time" (.int 0) (putF "day" (.int 24) (putF "limit" (.int 3) []))))) q = some (.ins t.c_Queue dq [("limit", .int 3), ("day", .int 24), ("time", .int 0)]) := by
      rw [upd_same]
      rfl
    revert N1 q1
    generalize (upd (upd (upd H q (.ins t.c_Queue dq (putF "limit" (.int 3) []))) q (.ins t.c_Queue dq (putF "day" (.int 24) (putF "limit" (.int 3) [])))) q (.ins t.c_Queue dq (putF "time" (.int 0) (putF "day" (.int 24) (putF "limit" (.int 3) []))))) = H1
    intro N1 q1
    -- windows
    intro aW hW
    have p1 : (upd H1 aW (.dK [])) q = some (.ins t.c_Queue dq [("limit", .int 3), ("day", .int 24), ("time", .int 0)]) := by rw [upd_ne (ne_of_none q1 hW)]; exact q1
    refine ⟨_, rfl, q, _, dq, _, rfl, p1, T.k_Queue, T.n_Queue_windows, (by show 3 < 1000; decide), ?_⟩
    have N2 := (N1.add (x := aW) (o := .dK []) (by rw [q1]; simp) hW).set (o := .ins t.c_Queue dq (putF "windows" (.ref aW) [("limit", .int 3), ("day", .int 24), ("time", .int 0)]))
    have q2 : (upd (upd H1 aW (.dK [])) q (.ins t.c_Queue dq (putF "windows" (.ref aW) [("limit", .int 3), ("day", .int 24), ("time", .int 0)]))) q = some (.ins t.c_Queue dq [("limit", .int 3), ("day", .int 24), ("time", .int 0), ("windows", .ref aW)]) := by
      rw [upd_same]
      rfl
    revert N2 q2
    generalize (upd (upd H1 aW (.dK [])) q (.ins t.c_Queue dq (putF "windows" (.ref aW) [("limit", .int 3), ("day", .int 24), ("time", .int 0)]))) = H2
    intro N2 q2
    -- frozen
    intro aF hF
    have p2 : (upd H2 aF (.dK [])) q = some (.ins t.c_Queue dq [("limit", .int 3), ("day", .int 24), ("time", .int 0), ("windows", .ref aW)]) := by rw [upd_ne (ne_of_none q2 hF)]; exact q2
    refine ⟨_, rfl, q, _, dq, _, rfl, p2, T.k_Queue, T.n_Queue_frozen, (by show 4 < 1000; decide), ?_⟩
    have N3 := (N2.add (x := aF) (o := .dK []) (by rw [q2]; simp) hF).set (o := .ins t.c_Queue dq (putF "frozen" (.ref aF) [("limit", .int 3), ("day", .int 24), ("time", .int 0), ("windows", .ref aW)]))
    have q3 : (upd (upd H2 aF (.dK [])) q (.ins t.c_Queue dq (putF "frozen" (.ref aF) [("limit", .int 3), ("day", .int 24), ("time", .int 0), ("windows", .ref aW)]))) q = some (.ins t.c_Queue dq [("limit", .int 3), ("day", .int 24), ("time", .int 0), ("windows", .ref aW), ("frozen", .ref aF)]) := by
      rw [upd_same]
      rfl
    revert N3 q3
    generalize (upd (upd H2 aF (.dK [])) q (.ins t.c_Queue dq (putF "frozen" (.ref aF) [("limit", .int 3), ("day", .int 24), ("time", .int 0), ("windows", .ref aW)]))) = H3
    intro N3 q3
    -- known
    intro aK hK
    have p3 : (upd H3 aK (.dK [])) q = some (.ins t.c_Queue dq [("limit", .int 3), ("day", .int 24), ("time", .int 0), ("windows", .ref aW), ("frozen", .ref aF)]) := by rw [upd_ne (ne_of_none q3 hK)]; exact q3
    refine ⟨_, rfl, q, _, dq, _, rfl, p3, T.k_Queue, T.n_Queue_known, (by show 5 < 1000; decide), ?_⟩
    have N4 := (N3.add (x := aK) (o := .dK []) (by rw [q3]; simp) hK).set (o := .ins t.c_Queue dq (putF "known" (.ref aK) [("limit", .int 3), ("day", .int 24), ("time", .int 0), ("windows", .ref aW), ("frozen", .ref aF)]))
    have q4 : (upd (upd H3 aK (.dK [])) q (.ins t.c_Queue dq (putF "known" (.ref aK) [("limit", .int 3), ("day", .int 24), ("time", .int 0), ("windows", .ref aW), ("frozen", .ref aF)]))) q = some (.ins t.c_Queue dq [("limit", .int 3), ("day", .int 24), ("time", .int 0), ("windows", .ref aW), ("frozen", .ref aF), ("known", .ref aK)]) := by
      rw [upd_same]
      rfl
    revert N4 q4
    generalize (upd (upd H3 aK (.dK [])) q (.ins t.c_Queue dq (putF "known" (.ref aK) [("limit", .int 3), ("day", .int 24), ("time", .int 0), ("windows", .ref aW), ("frozen", .ref aF)]))) = H4
    intro N4 q4
    -- waiting
    refine ⟨Nat.zero_le _, fun aWt hWt => ?_⟩
    have p4 : (upd H4 aWt (.lst [])) q = some (.ins t.c_Queue dq [("limit", .int 3), ("day", .int 24), ("time", .int 0), ("windows", .ref aW), ("frozen", .ref aF), ("known", .ref aK)]) := by rw [upd_ne (ne_of_none q4 hWt)]; exact q4
    refine ⟨_, rfl, q, _, dq, _, rfl, p4, T.k_Queue, T.n_Queue_waiting, (by show 6 < 1000; decide), ?_⟩
    have N5 := (N4.add (x := aWt) (o := .lst []) (by rw [q4]; simp) hWt).set (o := .ins t.c_Queue dq (putF "waiting" (.ref aWt) [("limit", .int 3), ("day", .int 24), ("time", .int 0), ("windows", .ref aW), ("frozen", .ref aF), ("known", .ref aK)]))
    have q5 : (upd (upd H4 aWt (.lst [])) q (.ins t.c_Queue dq (putF "waiting" (.ref aWt) [("limit", .int 3), ("day", .int 24), ("time", .int 0), ("windows", .ref aW), ("frozen", .ref aF), ("known", .ref aK)]))) q = some (.ins t.c_Queue dq [("limit", .int 3), ("day", .int 24), ("time", .int 0), ("windows", .ref aW), ("frozen", .ref aF), ("known", .ref aK), ("waiting", .ref aWt)]) := by
      rw [upd_same]
      rfl
    revert N5 q5
    generalize (upd (upd H4 aWt (.lst [])) q (.ins t.c_Queue dq (putF "waiting" (.ref aWt) [("limit", .int 3), ("day", .int 24), ("time", .int 0), ("windows", .ref aW), ("frozen", .ref aF), ("known", .ref aK)]))) = H5
    intro N5 q5
    -- running
    refine ⟨Nat.zero_le _, fun aR hR => ?_⟩
    have p5 : (upd H5 aR (.lst [])) q = some (.ins t.c_Queue dq [("limit", .int 3), ("day", .int 24), ("time", .int 0), ("windows", .ref aW), ("frozen", .ref aF), ("known", .ref aK), ("waiting", .ref aWt)]) := by rw [upd_ne (ne_of_none q5 hR)]; exact q5
    refine ⟨_, rfl, q, _, dq, _, rfl, p5, T.k_Queue, T.n_Queue_running, (by show 7 < 1000; decide), ?_⟩
    have N6 := (N5.add (x := aR) (o := .lst []) (by rw [q5]; simp) hR).set (o := .ins t.c_Queue dq (putF "running" (.ref aR) [("limit", .int 3), ("day", .int 24), ("time", .int 0), ("windows", .ref aW), ("frozen", .ref aF), ("known", .ref aK), ("waiting", .ref aWt)]))
    have q6 : (upd (upd H5 aR (.lst [])) q (.ins t.c_Queue dq (putF "running" (.ref aR) [("limit", .int 3), ("day", .int 24), ("time", .int 0), ("windows", .ref aW), ("frozen", .ref aF), ("known", .ref aK), ("waiting", .ref aWt)]))) q = some (.ins t.c_Queue dq [("limit", .int 3), ("day", .int 24), ("time", .int 0), ("windows", .ref aW), ("frozen", .ref aF), ("known", .ref aK), ("waiting", .ref aWt), ("running", .ref aR)]) := by
      rw [upd_same]
      rfl
    revert N6 q6
    generalize (upd (upd H5 aR (.lst [])) q (.ins t.c_Queue dq (putF "running" (.ref aR) [("limit", .int 3), ("day", .int 24), ("time", .int 0), ("windows", .ref aW), ("frozen", .ref aF), ("known", .ref aK), ("waiting", .ref aWt)]))) = H6
    intro N6 q6
    -- ended
    intro aE hE
    have p6 : (upd H6 aE (.dK [])) q = some (.ins t.c_Queue dq [("limit", .int 3), ("day", .int 24), ("time", .int 0), ("windows", .ref aW), ("frozen", .ref aF), ("known", .ref aK), ("waiting", .ref aWt), ("running", .ref aR)]) := by rw [upd_ne (ne_of_none q6 hE)]; exact q6
    refine ⟨_, rfl, q, _, dq, _, rfl, p6, T.k_Queue, T.n_Queue_ended, (by show 8 < 1000; decide), ?_⟩
    have N7 := (N6.add (x := aE) (o := .dK []) (by rw [q6]; simp) hE).set (o := .ins t.c_Queue dq (putF "ended" (.ref aE) [("limit", .int 3), ("day", .int 24), ("time", .int 0), ("windows", .ref aW), ("frozen", .ref aF), ("known", .ref aK), ("waiting", .ref aWt), ("running", .ref aR)]))
    refine k _ aW aF aK aWt aR aE ?_ N7
    rw [upd_same]
    rfl
/-- the queue at its beginning -/
theorem Rep.begin {cQ cI : Addr} {H H' : Hp} {q dq aW aF aK aWt aR aE : Addr} (hq : H' q = some (.ins cQ dq (fQ 3 24 0 (D0 dq aW aF aK aWt aR aE)))) (N : NewAll H H' q [(aW, .dK []), (aF, .dK []), (aK, .dK []), (aWt, .lst []), (aR, .lst []), (aE, .dK [])]) :
    ∃ O : Own, Rep cQ cI H' q Vamrqg.start O (D0 dq aW aF aK aWt aR aE) 0 ∧ ∀ b, H b ≠ none → b ≠ q → O b = none := by
  have hn : ∀ p ∈ [(aW, HO.dK []), (aF, .dK []), (aK, .dK []), (aWt, .lst []), (aR, .lst []), (aE, .dK [])], p.1 ≠ q := fun p hp e => N.qn (by rw [← e]; exact (N.new p hp).2)
  have nW := hn (aW, .dK []) (by simp)
  have nF := hn (aF, .dK []) (by simp)
  have nK := hn (aK, .dK []) (by simp)
  have nT := hn (aWt, .lst []) (by simp)
  have nR := hn (aR, .lst []) (by simp)
  have nE := hn (aE, .dK []) (by simp)
  have vW := (N.new (aW, .dK []) (by simp)).1
  have vF := (N.new (aF, .dK []) (by simp)).1
  have vK := (N.new (aK, .dK []) (by simp)).1
  have vT := (N.new (aWt, .lst []) (by simp)).1
  have vR := (N.new (aR, .lst []) (by simp)).1
  have vE := (N.new (aE, .dK []) (by simp)).1
  have zW := (N.new (aW, .dK []) (by simp)).2
  have zF := (N.new (aF, .dK []) (by simp)).2
  have zK := (N.new (aK, .dK []) (by simp)).2
  have zT := (N.new (aWt, .lst []) (by simp)).2
  have zR := (N.new (aR, .lst []) (by simp)).2
  have zE := (N.new (aE, .dK []) (by simp)).2
  have nd := N.nd
  simp only [List.map_cons, List.map_nil, List.nodup_cons, List.mem_cons, List.not_mem_nil, or_false, not_or] at nd
  obtain ⟨⟨d1, d2, d3, d4, d5⟩, ⟨d6, d7, d8, d9⟩, ⟨d10, d11, d12⟩, ⟨d13, d14⟩, d15, _⟩ := nd
  refine ⟨fun b => if b = q then some .q else if b = aW then some .dW else if b = aF then some .dF else if b = aK then some .dK else if b = aWt then some .lWt else if b = aR then some .lR else if b = aE then some .dE else none, ?_, fun b hb hbq => ?_⟩
  · exact
    { good := good_start
      tr := fun b h => by
        have h1 : b ≠ q := fun e => by rw [e, hq] at h; cases h
        have h2 : b ≠ aW := fun e => by rw [e, vW] at h; cases h
        have h3 : b ≠ aF := fun e => by rw [e, vF] at h; cases h
        have h4 : b ≠ aK := fun e => by rw [e, vK] at h; cases h
        have h5 : b ≠ aWt := fun e => by rw [e, vT] at h; cases h
        have h6 : b ≠ aR := fun e => by rw [e, vR] at h; cases h
        have h7 : b ≠ aE := fun e => by rw [e, vE] at h; cases h
        simp only [if_neg h1, if_neg h2, if_neg h3, if_neg h4, if_neg h5, if_neg h6, if_neg h7]
      ob := hq
      lq := if_pos rfl
      oW := vW
      lW := by show (if aW = q then _ else if aW = aW then _ else _) = _; rw [if_neg nW, if_pos rfl]
      nW := Nat.zero_le _
      win := fun c => .inl ⟨rfl, rfl⟩
      oF := vF
      lF := by show (if aF = q then _ else if aF = aW then _ else if aF = aF then _ else _) = _; rw [if_neg nF, if_neg (Ne.symm d1), if_pos rfl]
      nF := Nat.zero_le _
      fro := fun c => rfl
      sto := rfl
      oK := vK
      lK := by show (if aK = q then _ else if aK = aW then _ else if aK = aF then _ else if aK = aK then _ else _) = _; rw [if_neg nK, if_neg (Ne.symm d2), if_neg (Ne.symm d6), if_pos rfl]
      nK := rfl
      kno := fun k => by
        have : knI Vamrqg.start k = false := by
          unfold knI
          cases decide (0 ≤ k) <;> rfl
        rw [this]
        rfl
      oE := vE
      lE := by show (if aE = q then _ else if aE = aW then _ else if aE = aF then _ else if aE = aK then _ else if aE = aWt then _ else if aE = aR then _ else if aE = aE then _ else _) = _; rw [if_neg nE, if_neg (Ne.symm d5), if_neg (Ne.symm d9), if_neg (Ne.symm d12), if_neg (Ne.symm d14), if_neg (Ne.symm d15), if_pos rfl]
      nE := rfl
      lsE := rfl
      end_ := fun k => by
        have : endI Vamrqg.start k = none := by
          unfold endI
          split <;> rfl
        rw [this]
        rfl
      oWt := vT
      lWt := by show (if aWt = q then _ else if aWt = aW then _ else if aWt = aF then _ else if aWt = aK then _ else if aWt = aWt then _ else _) = _; rw [if_neg nT, if_neg (Ne.symm d3), if_neg (Ne.symm d7), if_neg (Ne.symm d10), if_pos rfl]
      oR := vR
      lR := by show (if aR = q then _ else if aR = aW then _ else if aR = aF then _ else if aR = aK then _ else if aR = aWt then _ else if aR = aR then _ else _) = _; rw [if_neg nR, if_neg (Ne.symm d4), if_neg (Ne.symm d8), if_neg (Ne.symm d11), if_neg (Ne.symm d13), if_pos rfl]
      item := fun x hx => by cases hx }
  · have h2 : b ≠ aW := fun e => hb (by rw [e]; exact zW)
    have h3 : b ≠ aF := fun e => hb (by rw [e]; exact zF)
    have h4 : b ≠ aK := fun e => hb (by rw [e]; exact zK)
    have h5 : b ≠ aWt := fun e => hb (by rw [e]; exact zT)
    have h6 : b ≠ aR := fun e => hb (by rw [e]; exact zR)
    have h7 : b ≠ aE := fun e => hb (by rw [e]; exact zE)
    simp only [if_neg hbq, if_neg h2, if_neg h3, if_neg h4, if_neg h5, if_neg h6, if_neg h7]
end
end Ag

/-! answers. -/
set_option Elab.async false
set_option linter.all false
set_option maxRecDepth 100000
set_option maxHeartbeats 4000000
namespace Ag
open PySem PySem.Spec PyProof.Rows L2
open Vamrqg (State Item idsOf windowsOf endOf known)
/-- where a reader stands -/
def posOf (H : Hp) (r : Addr) : Nat := match H r with
  | some (.ins _ _ fs) => (match fs.lookup ("position" : Str) with
    | some (.int z) => z.toNat
    | _ => 0)
  | _ => 0
theorem posOf_is {H : Hp} {r C dr a : Addr} {p : Nat} (h : H r = some (.ins C dr (fR a p))) : posOf H r = p := by
  unfold posOf
  rw [h]
  rfl
/-- what is handed in, apart from the queue and from the list at l -/
def ArgAt (K : PySem.W.Frag) (H : Hp) (O : Own) (l a : Addr) (xs : List V) : Prop := (L2.Rd H a (.lst xs) ∧ O a = none ∧ a ≠ l) ∨ SqL K (fun _ => none) a xs
theorem ArgAt.sq {K : PySem.W.Frag} {H : Hp} {O : Own} {l a : Addr} {xs : List V} (h : ArgAt K H O l a xs) : SqL K H a xs := by
  rcases h with h | h
  · exact .inl h.1
  · exact Same.seq (fun b o e => by cases e) h
section
variable {P : Program} {w : World} {K : PySem.W.Frag} {mg : Str → Option Value} {base : Heap} {t : Ad}
def spAns (K : PySem.W.Frag) : Sp := fun vs H Q _ => ∃ (a : Addr) (ns : List Int), vs = [.ref a] ∧ SqL K H a (ns.map V.int) ∧ PyVamrqg.answers_asked ns = true ∧ ∀ (H' : Hp) (p : Addr), H' p = some (.lst ((PyVamrqg.answers ns).map V.int)) → Q (.ref p) H'
theorem ok_answers (T : Txt K mg t) : FnOk P w K mg base CX0 9 t.f_answers t.d_answers ["calls"] (spAns K) := by
  refine T.F_answers.ok sc_answers (fun vs H Q E h => ?_) (fun cdv A outer s H vs Q E hr h => ?_)
  · obtain ⟨a, ns, rfl, _⟩ := h
    rfl
  · obtain ⟨a, ns, rfl, hS, hask, k⟩ := h
    obtain ⟨cs, ens, h400, hform, hans⟩ := request hask
    refine ⟨_, (pss_cons (ps_set (i := 1) sc_answers.nd rfl (Or.inl rfl) (pe_make0 T.mk_Queue (ok_Queue_init T) (hr.mono (by decide)) rfl T.g_Queue T.b_Queue_init .nil pass0))
      (pss_cons (ps_set (i := 2) sc_answers.nd rfl (Or.inl rfl) (pe_make T.mk_Reader (ok_Reader_init T) (hr.mono (by decide)) rfl T.g_Reader T.b_Reader_init .nil pass0 (pa_cons (pv 0) pa_nil)))
      (pss_cons (ps_set (i := 3) sc_answers.nd rfl (Or.inl rfl) (pe_lst pa_nil))
      (pss_cons (ps_while PassesOwn.never (pt_not (pt_val (pe_meth0 (pv 2) T.k_Reader T.mt_Reader_is_done (ok_Reader_is_done T) (hr.mono (by decide)) T.b_Reader_is_done .nil pass0))) (pss_cons (ps_set (i := 4) sc_answers.nd rfl (Or.inl rfl) (pe_call (ok_answer_next T) (hr.mono (by decide)) rfl T.g_answer_next T.F_answer_next.kp T.b_answer_next .nil pass0 (pa_cons (pv 1) (pa_cons (pv 2) pa_nil))))
        (pss_cons (ps_expr (pe_bm PySem.F.plainAttrs_list PySem.F.slot_list_append PySem.F.type_list_append mt_append (pv 3) (pa_cons (pe_callB (call_len_seqK (K := K)) (by rfl) T.z_len PySem.boot_len (pa_cons (pv 4) pa_nil)) pa_nil)))
        (pss_one (ps_expr (pe_bm PySem.F.plainAttrs_list PySem.F.slot_list_extend PySem.F.type_list_extend mt_extend (pv 3) (pa_cons (pv 4) pa_nil)))))))
      (pss_one (ps_ret (pv 3))))))), ?_⟩
    -- queue = Queue()
    intro q dq nq ndq neq
    refine ⟨q, dq, rfl, upd_same, fun H1 aW aF aK aWt aR aE hq N => ⟨rfl, ?_⟩⟩
    obtain ⟨O, R1, hO⟩ := Rep.begin (cI := t.c_Item) hq N
    have s1 : Same H H1 := fun b o hb => by
      have b1 : b ≠ q := ne_of_none hb nq
      have b2 : b ≠ dq := ne_of_none hb ndq
      have hb0 : (upd (upd H dq (.own q)) q (.ins t.c_Queue dq [])) b = some o := by rw [upd_ne b1, upd_ne b2]; exact hb
      rw [N.old b b1 (fun z => by
        obtain ⟨p, hp, e⟩ := List.mem_map.mp z
        have := (N.new p hp).2
        rw [e, hb0] at this
        cases this)]
      exact hb0
    have hO1 : ∀ b, H b ≠ none → O b = none := fun b hb => hO b (fun z => hb (by
      have b1 : b ≠ q := fun e => hb (by rw [e]; exact nq)
      have b2 : b ≠ dq := fun e => hb (by rw [e]; exact ndq)
      rw [upd_ne b1, upd_ne b2] at z
      exact z)) (fun e => hb (by rw [e]; exact nq))
    -- reader = Reader(calls)
    refine ⟨_, rfl, ?_⟩
    intro r dr nr ndr ner
    refine ⟨r, dr, a, rfl, upd_same, fun H2 hr2 kp2 => ⟨rfl, ?_⟩⟩
    have s2 : Same H1 H2 := fun b o hb => by
      have b1 : b ≠ r := ne_of_none hb nr
      have b2 : b ≠ dr := ne_of_none hb ndr
      rw [kp2 b b1, upd_ne b1, upd_ne b2]
      exact hb
    -- told = []
    refine ⟨Nat.zero_le _, fun l hl => ?_⟩
    have s3 : Same H2 (upd H2 l (.lst [])) := Same.new hl
    have l3 : (upd H2 l (.lst [])) l = some (.lst []) := upd_same
    revert s3 l3
    generalize upd H2 l (.lst []) = H3
    intro s3 l3
    have hA : ArgAt K H3 O l a (ns.map V.int) := by
      rcases hS with h | h
      · have ha : ∃ o, H a = some o := by
          rcases h with h | ⟨o, h⟩
          · exact ⟨_, h⟩
          · exact ⟨_, h⟩
        obtain ⟨o, ha⟩ := ha
        refine .inl ⟨?_, hO1 a (by rw [ha]; simp), ne_of_none (s2 _ _ (s1 _ _ ha)) hl⟩
        rcases h with h | ⟨o, h⟩
        · exact .inl (s3 _ _ (s2 _ _ (s1 _ _ h)))
        · exact .inr ⟨o, s3 _ _ (s2 _ _ (s1 _ _ h))⟩
      · exact .inr (.inr h)
    have X3 : QR t K H3 q r a dr Vamrqg.start O (D0 dq aW aF aK aWt aR aE) 0 ns 0 := ⟨(R1.same s2).same s3, s3 _ _ hr2, R1.tr r nr, hA.sq⟩
    have lO : O l = none := R1.tr l (s2.free hl)
    -- while not reader.is_done()
    refine while_by (fun σ H' => ∃ (cs1 cs2 : List (List (List Int))) (O : Own) (D : Ads) (v : Option V), cs = cs1 ++ cs2 ∧ σ = [some (.ref a), some (.ref q), some (.ref r), some (.ref l), v] ∧
      QR t K H' q r a dr (after Vamrqg.start cs1) O D cs1.length ns (PyFlat.put cs1).length ∧ H' l = some (.lst ((PyFlat.told (PyFlat.played VamrqgNeutral.step Vamrqg.start cs1)).map V.int)) ∧ O l = none ∧
      ArgAt K H' O l a (ns.map V.int) ∧ (PyFlat.told (PyFlat.played VamrqgNeutral.step Vamrqg.start cs1)).length ≤ 51 * cs1.length) (fun _ H' => ns.length - posOf H' r) ?_ ?_ ?_
    · exact ⟨[], cs, O, _, none, rfl, rfl, X3, l3, lO, hA, Nat.zero_le _⟩
    · rintro σ H4 ⟨cs1, cs2, O4, D4, v, hcs, rfl, X, hl4, hlO, hA4, hlen⟩
      refine ⟨_, rfl, r, dr, _, rfl, X.rd, rfl, r, dr, a, _, ns, rfl, X.rd, X.sq, fun H5 s5 => ⟨_, rfl, ?_⟩⟩
      have hl5 := s5 _ _ hl4
      cases cs2 with
      | nil =>
        rw [List.append_nil] at hcs
        subst hcs
        rw [decide_eq_true (show ns.length ≤ (PyFlat.put cs).length by rw [ens]; exact Nat.le_refl _)]
        refine iteF ⟨_, rfl, k H5 l ?_⟩
        rw [hl5, hans]
      | cons c cs2 =>
        have hd : ns.drop (PyFlat.put cs1).length = PyFlat.put1 c ++ PyFlat.put cs2 := by
          rw [ens, hcs, put_drop]
          rfl
        obtain ⟨cl, hf⟩ := hform c (by rw [hcs]; exact List.mem_append_right _ List.mem_cons_self)
        have hpos := put1_pos hf
        have hlt : (PyFlat.put cs1).length + (PyFlat.put1 c).length ≤ ns.length := by
          have := congrArg List.length hd
          rw [List.length_drop, List.length_append] at this
          omega
        rw [decide_eq_false (show ¬ ns.length ≤ (PyFlat.put cs1).length by omega)]
        refine iteT ?_
        have hn : cs1.length + 1 ≤ 400 := by
          have := congrArg List.length hcs
          rw [List.length_append, List.length_cons] at this
          omega
        have X5 : QR t K H5 q r a dr (after Vamrqg.start cs1) O4 D4 cs1.length ns (PyFlat.put cs1).length := ⟨X.R.same s5, s5 _ _ X.rd, X.rO, s5.seq X.sq⟩
        -- answer = answer_next(queue, reader)
        refine ⟨_, rfl, _, rfl, q, r, a, dr, _, O4, D4, cs1.length, ns, _, c, PyFlat.put cs2, cl, rfl, X5, by omega, hd, hf, fun H6 O6 D6 p R6 rd6 rO6 fr6 hp6 => ?_⟩
        have lr : l ≠ r := ne_of hl5 X5.rd (by intro z; cases z)
        obtain ⟨hl6, lO6, lp⟩ := fr6 l _ hl5 hlO lr
        have est : VamrqgNeutral.step (after Vamrqg.start cs1) c = ((Vamrqg.step (after Vamrqg.start cs1) cl).1, VamrqgNeutral.encode (Vamrqg.step (after Vamrqg.start cs1) cl).2) := step_form hf
        have hal := answer_len X.R.good cl
        have htold := told_snoc Vamrqg.start cs1 c
        have haft := after_snoc Vamrqg.start c cs1
        rw [est] at htold haft
        have hzl : ((PyFlat.told (PyFlat.played VamrqgNeutral.step Vamrqg.start cs1)).map V.int).length ≤ 20400 := by
          rw [List.length_map]
          omega
        -- told.append(len(answer))
        refine ⟨_, rfl, .inl ⟨rfl, _, SqL.of hl6⟩, _, rfl, p, _, rfl, .inl (SqL.of hp6), l, _, _, rfl, rfl, hl6, Nat.lt_of_le_of_lt hzl (by decide), ?_⟩
        -- told.extend(answer)
        refine ⟨_, rfl, .inl ⟨rfl, _, SqL.of upd_same⟩, _, rfl, l, p, _, _, rfl, rfl, upd_same, (by rw [upd_ne lp.symm]; exact hp6), ?_, ?_⟩
        · rw [List.length_append, List.length_singleton, List.length_map (as := VamrqgNeutral.encode _)]
          exact Nat.le_trans (by omega : _ ≤ 20451) (by decide)
        have kp : ∀ b, b ≠ l → ∀ x y : HO, (upd (upd H6 l x) l y) b = H6 b := fun b hb x y => by rw [upd_ne hb, upd_ne hb]
        have rd7 : ∀ x y : HO, (upd (upd H6 l x) l y) r = some (.ins t.c_Reader dr (fR a ((PyFlat.put cs1).length + (PyFlat.put1 c).length))) := fun x y => by rw [kp r lr.symm]; exact rd6
        refine ⟨⟨cs1 ++ [c], cs2, O6, D6, some (.ref p), by rw [hcs]; simp, rfl, ⟨?_, ?_, rO6, ?_⟩, ?_, lO6, ?_, ?_⟩, ?_⟩
        · rw [haft, List.length_append, List.length_singleton]
          refine R6.other (fun b o hb ho => ?_) (fun b hb => ?_)
          · rw [kp b (fun e => ho (by rw [e]; exact lO6))]
            exact hb
          · by_cases e : b = l
            · rw [e, upd_same] at hb; cases hb
            · rw [kp b e] at hb; exact hb
        · rw [put_snoc]
          exact rd7 _ _
        · have hA7 : ArgAt K (upd (upd H6 l (.lst ((PyFlat.told (PyFlat.played VamrqgNeutral.step Vamrqg.start cs1)).map V.int ++ [V.int (((VamrqgNeutral.encode (Vamrqg.step (after Vamrqg.start cs1) cl).2).map V.int).length : Int)]))) l (.lst ((PyFlat.told (PyFlat.played VamrqgNeutral.step Vamrqg.start cs1)).map V.int ++ [V.int (((VamrqgNeutral.encode (Vamrqg.step (after Vamrqg.start cs1) cl).2).map V.int).length : Int)] ++ (VamrqgNeutral.encode (Vamrqg.step (after Vamrqg.start cs1) cl).2).map V.int))) O6 l a (ns.map V.int) := by
            rcases hA4 with ⟨h, h1, h2⟩ | h
            · refine .inl ?_
              rcases h with h | ⟨o, h⟩
              · have ar : a ≠ r := ne_of h X.rd (by intro z; cases z)
                obtain ⟨b1, b2, _⟩ := fr6 a _ (s5 _ _ h) h1 ar
                exact ⟨.inl (by rw [kp a h2]; exact b1), b2, h2⟩
              · have ar : a ≠ r := ne_of h X.rd (by intro z; cases z)
                obtain ⟨b1, b2, _⟩ := fr6 a _ (s5 _ _ h) h1 ar
                exact ⟨.inr ⟨o, by rw [kp a h2]; exact b1⟩, b2, h2⟩
            · exact .inr h
          exact hA7.sq
        · rw [upd_same, htold, List.map_append, List.map_cons, List.length_map, List.append_assoc]
          rfl
        · rcases hA4 with ⟨h, h1, h2⟩ | h
          · refine .inl ?_
            rcases h with h | ⟨o, h⟩
            · have ar : a ≠ r := ne_of h X.rd (by intro z; cases z)
              obtain ⟨b1, b2, _⟩ := fr6 a _ (s5 _ _ h) h1 ar
              exact ⟨.inl (by rw [kp a h2]; exact b1), b2, h2⟩
            · have ar : a ≠ r := ne_of h X.rd (by intro z; cases z)
              obtain ⟨b1, b2, _⟩ := fr6 a _ (s5 _ _ h) h1 ar
              exact ⟨.inr ⟨o, by rw [kp a h2]; exact b1⟩, b2, h2⟩
          · exact .inr h
        · rw [htold, List.length_append, List.length_cons, List.length_append, List.length_singleton]
          show _ + ((VamrqgNeutral.encode (Vamrqg.step (after Vamrqg.start cs1) cl).2).length + 1) ≤ _
          omega
        · show ns.length - posOf _ r < ns.length - posOf H4 r
          rw [posOf_is (rd7 _ _), posOf_is X.rd]
          omega
    · rintro σ H4 Q4 Q5 hm ⟨x, hx, r', dr', fs, e1, h1, h2, r2, dr2, a2, pos2, ns2, e2, h3, h4, h5⟩
      exact ⟨x, hx, r', dr', fs, e1, h1, h2, r2, dr2, a2, pos2, ns2, e2, h3, h4, fun H5 s5 => let ⟨c, e, z⟩ := h5 H5 s5; ⟨c, e, hm _ _ z⟩⟩
end
end Ag

/-! What the top has written, and the row. -/
set_option Elab.async false
set_option linter.all false
set_option maxRecDepth 100000
set_option maxHeartbeats 8000000
namespace Ag
open PySem PySem.Spec PyProof.Rows L2
theorem all_mk {P : Program} {w : World} {K : PySem.W.Frag} {h : Heap} {mg : Str → Option Value} {fa : Addr} (X : K.In h) (G : h.Ns mainGlobals mg) (hfa : mg "answers" = some (.ref fa))
    {c_Item c_Queue c_Reader f_Item_init f_Queue_init f_count_unended f_outcome f_again f_withdraw f_is_frozen f_is_within_hours f_has_landed f_is_ready f_ready_items f_lower_for_greater_prio f_in_order f_numbers_in_order f_add f_refusal_of_add f_are_needs f_order f_serve f_count_passed f_Reader_init f_Reader_is_done f_Reader_take f_Reader_take_several f_Reader_take_row f_config f_window f_pairs_of f_is_window f_freeze f_thaw f_set_frozen f_tick f_why f_why_waiting f_place f_next_open f_status f_answers f_answer_next f_answer_with_one_number : Addr}
    {od_Item_init an_Item_init od_Queue_init an_Queue_init od_count_unended an_count_unended od_outcome an_outcome od_again an_again od_withdraw an_withdraw od_is_frozen an_is_frozen od_is_within_hours an_is_within_hours od_has_landed an_has_landed od_is_ready an_is_ready od_ready_items an_ready_items od_lower_for_greater_prio an_lower_for_greater_prio od_in_order an_in_order od_numbers_in_order an_numbers_in_order od_add an_add od_refusal_of_add an_refusal_of_add od_are_needs an_are_needs od_order an_order od_serve an_serve od_count_passed an_count_passed od_Reader_init an_Reader_init od_Reader_is_done an_Reader_is_done od_Reader_take an_Reader_take od_Reader_take_several an_Reader_take_several od_Reader_take_row an_Reader_take_row od_config an_config od_window an_window od_pairs_of an_pairs_of od_is_window an_is_window od_freeze an_freeze od_thaw an_thaw od_set_frozen an_set_frozen od_tick an_tick od_why an_why od_why_waiting an_why_waiting od_place an_place od_next_open an_next_open od_status an_status od_answers an_answers od_answer_next an_answer_next od_answer_with_one_number an_answer_with_one_number : Option Addr}
    {sl_Item_init sl_Queue_init sl_count_unended sl_outcome sl_again sl_withdraw sl_is_frozen sl_is_within_hours sl_has_landed sl_is_ready sl_ready_items sl_lower_for_greater_prio sl_in_order sl_numbers_in_order sl_add sl_refusal_of_add sl_are_needs sl_order sl_serve sl_count_passed sl_Reader_init sl_Reader_is_done sl_Reader_take sl_Reader_take_several sl_Reader_take_row sl_config sl_window sl_pairs_of sl_is_window sl_freeze sl_thaw sl_set_frozen sl_tick sl_why sl_why_waiting sl_place sl_next_open sl_status sl_answers sl_answer_next sl_answer_with_one_number : Array (Option Value)}
    {oc_Item_init kV_Item_init dc_Item_init pm_Item_init cd_Item_init ct_Item_init oc_Queue_init kV_Queue_init dc_Queue_init pm_Queue_init cd_Queue_init ct_Queue_init oc_count_unended kV_count_unended dc_count_unended pm_count_unended cd_count_unended ct_count_unended oc_outcome kV_outcome dc_outcome pm_outcome cd_outcome ct_outcome oc_again kV_again dc_again pm_again cd_again ct_again oc_withdraw kV_withdraw dc_withdraw pm_withdraw cd_withdraw ct_withdraw oc_is_frozen kV_is_frozen dc_is_frozen pm_is_frozen cd_is_frozen ct_is_frozen oc_is_within_hours kV_is_within_hours dc_is_within_hours pm_is_within_hours cd_is_within_hours ct_is_within_hours oc_has_landed kV_has_landed dc_has_landed pm_has_landed cd_has_landed ct_has_landed oc_is_ready kV_is_ready dc_is_ready pm_is_ready cd_is_ready ct_is_ready oc_ready_items kV_ready_items dc_ready_items pm_ready_items cd_ready_items ct_ready_items oc_lower_for_greater_prio kV_lower_for_greater_prio dc_lower_for_greater_prio pm_lower_for_greater_prio cd_lower_for_greater_prio ct_lower_for_greater_prio oc_in_order kV_in_order dc_in_order pm_in_order cd_in_order ct_in_order oc_numbers_in_order kV_numbers_in_order dc_numbers_in_order pm_numbers_in_order cd_numbers_in_order ct_numbers_in_order oc_add kV_add dc_add pm_add cd_add ct_add oc_refusal_of_add kV_refusal_of_add dc_refusal_of_add pm_refusal_of_add cd_refusal_of_add ct_refusal_of_add oc_are_needs kV_are_needs dc_are_needs pm_are_needs cd_are_needs ct_are_needs oc_order kV_order dc_order pm_order cd_order ct_order oc_serve kV_serve dc_serve pm_serve cd_serve ct_serve oc_count_passed kV_count_passed dc_count_passed pm_count_passed cd_count_passed ct_count_passed oc_Reader_init kV_Reader_init dc_Reader_init pm_Reader_init cd_Reader_init ct_Reader_init oc_Reader_is_done kV_Reader_is_done dc_Reader_is_done pm_Reader_is_done cd_Reader_is_done ct_Reader_is_done oc_Reader_take kV_Reader_take dc_Reader_take pm_Reader_take cd_Reader_take ct_Reader_take oc_Reader_take_several kV_Reader_take_several dc_Reader_take_several pm_Reader_take_several cd_Reader_take_several ct_Reader_take_several oc_Reader_take_row kV_Reader_take_row dc_Reader_take_row pm_Reader_take_row cd_Reader_take_row ct_Reader_take_row oc_config kV_config dc_config pm_config cd_config ct_config oc_window kV_window dc_window pm_window cd_window ct_window oc_pairs_of kV_pairs_of dc_pairs_of pm_pairs_of cd_pairs_of ct_pairs_of oc_is_window kV_is_window dc_is_window pm_is_window cd_is_window ct_is_window oc_freeze kV_freeze dc_freeze pm_freeze cd_freeze ct_freeze oc_thaw kV_thaw dc_thaw pm_thaw cd_thaw ct_thaw oc_set_frozen kV_set_frozen dc_set_frozen pm_set_frozen cd_set_frozen ct_set_frozen oc_tick kV_tick dc_tick pm_tick cd_tick ct_tick oc_why kV_why dc_why pm_why cd_why ct_why oc_why_waiting kV_why_waiting dc_why_waiting pm_why_waiting cd_why_waiting ct_why_waiting oc_place kV_place dc_place pm_place cd_place ct_place oc_next_open kV_next_open dc_next_open pm_next_open cd_next_open ct_next_open oc_status kV_status dc_status pm_status cd_status ct_status oc_answers kV_answers dc_answers pm_answers cd_answers ct_answers oc_answer_next kV_answer_next dc_answer_next pm_answer_next cd_answer_next ct_answer_next oc_answer_with_one_number kV_answer_with_one_number dc_answer_with_one_number pm_answer_with_one_number cd_answer_with_one_number ct_answer_with_one_number : Value}
    {u_NO_REFUSAL u_OUT_OF_RANGE u_BAD_ROW u_NO_SUCH_ITEM u_TOO_MUCH u_ITEMS_THERE u_NUMBER_TAKEN u_EVERYTHING u_LAST_GROUP u_MOST_TIME u_LANDED u_REJECTED u_WITHDRAWN u_LAST_NUMBER u_LAST_PRIO u_MOST_NEEDS u_MOST_UNENDED u_MOST_KNOWN u_MOST_LIMIT u_MOST_HOURS u_MOST_WINDOWS u_MOST_TICK u_READY u_FROZEN u_OUTSIDE_HOURS u_NEEDS_MISSING u_NEEDS_LOST u_RUNS u_CONFIG u_ADD u_WINDOW u_FREEZE u_THAW u_TICK u_ORDER u_SERVE u_OUTCOME u_AGAIN u_WITHDRAW u_WHY u_PLACE u_NEXT_OPEN u_STATUS : Tok}
    (a_Item : PySem.W.nsIn K mainGlobals "Item" = some (some (.ref c_Item)))
    (a_Queue : PySem.W.nsIn K mainGlobals "Queue" = some (some (.ref c_Queue)))
    (a_Reader : PySem.W.nsIn K mainGlobals "Reader" = some (some (.ref c_Reader)))
    (a_Item_init : PySem.W.findIn K (.ref c_Item) "__init__" = some (some (.ref f_Item_init)))
    (i_Item_init : PySem.W.isFn K (.ref f_Item_init) = true)
    (l_Item_init : K.lookup f_Item_init = some ⟨oc_Item_init, od_Item_init, .func (PySem.W.fnOf "__init__" "Item.__init__" (defArgs s_Item_init) (defBody s_Item_init) (defScope s_Item_init) .none kV_Item_init dc_Item_init pm_Item_init an_Item_init cd_Item_init ct_Item_init), sl_Item_init⟩)
    (e_Item_init : PySem.W.codeIn K cd_Item_init "Item.__init__" = true)
    (k_Item_init : PySem.W.keepIn K (.ref f_Item_init) = true)
    (a_Queue_init : PySem.W.findIn K (.ref c_Queue) "__init__" = some (some (.ref f_Queue_init)))
    (i_Queue_init : PySem.W.isFn K (.ref f_Queue_init) = true)
    (l_Queue_init : K.lookup f_Queue_init = some ⟨oc_Queue_init, od_Queue_init, .func (PySem.W.fnOf "__init__" "Queue.__init__" (defArgs s_Queue_init) (defBody s_Queue_init) (defScope s_Queue_init) .none kV_Queue_init dc_Queue_init pm_Queue_init an_Queue_init cd_Queue_init ct_Queue_init), sl_Queue_init⟩)
    (e_Queue_init : PySem.W.codeIn K cd_Queue_init "Queue.__init__" = true)
    (k_Queue_init : PySem.W.keepIn K (.ref f_Queue_init) = true)
    (a_count_unended : PySem.W.nsIn K mainGlobals "count_unended" = some (some (.ref f_count_unended)))
    (l_count_unended : K.lookup f_count_unended = some ⟨oc_count_unended, od_count_unended, .func (PySem.W.fnOf "count_unended" "count_unended" (defArgs s_count_unended) (defBody s_count_unended) (defScope s_count_unended) .none kV_count_unended dc_count_unended pm_count_unended an_count_unended cd_count_unended ct_count_unended), sl_count_unended⟩)
    (e_count_unended : PySem.W.codeIn K cd_count_unended "count_unended" = true)
    (k_count_unended : PySem.W.keepIn K (.ref f_count_unended) = true)
    (a_outcome : PySem.W.nsIn K mainGlobals "outcome" = some (some (.ref f_outcome)))
    (l_outcome : K.lookup f_outcome = some ⟨oc_outcome, od_outcome, .func (PySem.W.fnOf "outcome" "outcome" (defArgs s_outcome) (defBody s_outcome) (defScope s_outcome) .none kV_outcome dc_outcome pm_outcome an_outcome cd_outcome ct_outcome), sl_outcome⟩)
    (e_outcome : PySem.W.codeIn K cd_outcome "outcome" = true)
    (k_outcome : PySem.W.keepIn K (.ref f_outcome) = true)
    (a_again : PySem.W.nsIn K mainGlobals "again" = some (some (.ref f_again)))
    (l_again : K.lookup f_again = some ⟨oc_again, od_again, .func (PySem.W.fnOf "again" "again" (defArgs s_again) (defBody s_again) (defScope s_again) .none kV_again dc_again pm_again an_again cd_again ct_again), sl_again⟩)
    (e_again : PySem.W.codeIn K cd_again "again" = true)
    (k_again : PySem.W.keepIn K (.ref f_again) = true)
    (a_withdraw : PySem.W.nsIn K mainGlobals "withdraw" = some (some (.ref f_withdraw)))
    (l_withdraw : K.lookup f_withdraw = some ⟨oc_withdraw, od_withdraw, .func (PySem.W.fnOf "withdraw" "withdraw" (defArgs s_withdraw) (defBody s_withdraw) (defScope s_withdraw) .none kV_withdraw dc_withdraw pm_withdraw an_withdraw cd_withdraw ct_withdraw), sl_withdraw⟩)
    (e_withdraw : PySem.W.codeIn K cd_withdraw "withdraw" = true)
    (k_withdraw : PySem.W.keepIn K (.ref f_withdraw) = true)
    (a_is_frozen : PySem.W.nsIn K mainGlobals "is_frozen" = some (some (.ref f_is_frozen)))
    (l_is_frozen : K.lookup f_is_frozen = some ⟨oc_is_frozen, od_is_frozen, .func (PySem.W.fnOf "is_frozen" "is_frozen" (defArgs s_is_frozen) (defBody s_is_frozen) (defScope s_is_frozen) .none kV_is_frozen dc_is_frozen pm_is_frozen an_is_frozen cd_is_frozen ct_is_frozen), sl_is_frozen⟩)
    (e_is_frozen : PySem.W.codeIn K cd_is_frozen "is_frozen" = true)
    (k_is_frozen : PySem.W.keepIn K (.ref f_is_frozen) = true)
    (a_is_within_hours : PySem.W.nsIn K mainGlobals "is_within_hours" = some (some (.ref f_is_within_hours)))
    (l_is_within_hours : K.lookup f_is_within_hours = some ⟨oc_is_within_hours, od_is_within_hours, .func (PySem.W.fnOf "is_within_hours" "is_within_hours" (defArgs s_is_within_hours) (defBody s_is_within_hours) (defScope s_is_within_hours) .none kV_is_within_hours dc_is_within_hours pm_is_within_hours an_is_within_hours cd_is_within_hours ct_is_within_hours), sl_is_within_hours⟩)
    (e_is_within_hours : PySem.W.codeIn K cd_is_within_hours "is_within_hours" = true)
    (k_is_within_hours : PySem.W.keepIn K (.ref f_is_within_hours) = true)
    (a_has_landed : PySem.W.nsIn K mainGlobals "has_landed" = some (some (.ref f_has_landed)))
    (l_has_landed : K.lookup f_has_landed = some ⟨oc_has_landed, od_has_landed, .func (PySem.W.fnOf "has_landed" "has_landed" (defArgs s_has_landed) (defBody s_has_landed) (defScope s_has_landed) .none kV_has_landed dc_has_landed pm_has_landed an_has_landed cd_has_landed ct_has_landed), sl_has_landed⟩)
    (e_has_landed : PySem.W.codeIn K cd_has_landed "has_landed" = true)
    (k_has_landed : PySem.W.keepIn K (.ref f_has_landed) = true)
    (a_is_ready : PySem.W.nsIn K mainGlobals "is_ready" = some (some (.ref f_is_ready)))
    (l_is_ready : K.lookup f_is_ready = some ⟨oc_is_ready, od_is_ready, .func (PySem.W.fnOf "is_ready" "is_ready" (defArgs s_is_ready) (defBody s_is_ready) (defScope s_is_ready) .none kV_is_ready dc_is_ready pm_is_ready an_is_ready cd_is_ready ct_is_ready), sl_is_ready⟩)
    (e_is_ready : PySem.W.codeIn K cd_is_ready "is_ready" = true)
    (k_is_ready : PySem.W.keepIn K (.ref f_is_ready) = true)
    (a_ready_items : PySem.W.nsIn K mainGlobals "ready_items" = some (some (.ref f_ready_items)))
    (l_ready_items : K.lookup f_ready_items = some ⟨oc_ready_items, od_ready_items, .func (PySem.W.fnOf "ready_items" "ready_items" (defArgs s_ready_items) (defBody s_ready_items) (defScope s_ready_items) .none kV_ready_items dc_ready_items pm_ready_items an_ready_items cd_ready_items ct_ready_items), sl_ready_items⟩)
    (e_ready_items : PySem.W.codeIn K cd_ready_items "ready_items" = true)
    (k_ready_items : PySem.W.keepIn K (.ref f_ready_items) = true)
    (a_lower_for_greater_prio : PySem.W.nsIn K mainGlobals "lower_for_greater_prio" = some (some (.ref f_lower_for_greater_prio)))
    (l_lower_for_greater_prio : K.lookup f_lower_for_greater_prio = some ⟨oc_lower_for_greater_prio, od_lower_for_greater_prio, .func (PySem.W.fnOf "lower_for_greater_prio" "lower_for_greater_prio" (defArgs s_lower_for_greater_prio) (defBody s_lower_for_greater_prio) (defScope s_lower_for_greater_prio) .none kV_lower_for_greater_prio dc_lower_for_greater_prio pm_lower_for_greater_prio an_lower_for_greater_prio cd_lower_for_greater_prio ct_lower_for_greater_prio), sl_lower_for_greater_prio⟩)
    (e_lower_for_greater_prio : PySem.W.codeIn K cd_lower_for_greater_prio "lower_for_greater_prio" = true)
    (k_lower_for_greater_prio : PySem.W.keepIn K (.ref f_lower_for_greater_prio) = true)
    (a_in_order : PySem.W.nsIn K mainGlobals "in_order" = some (some (.ref f_in_order)))
    (l_in_order : K.lookup f_in_order = some ⟨oc_in_order, od_in_order, .func (PySem.W.fnOf "in_order" "in_order" (defArgs s_in_order) (defBody s_in_order) (defScope s_in_order) .none kV_in_order dc_in_order pm_in_order an_in_order cd_in_order ct_in_order), sl_in_order⟩)
    (e_in_order : PySem.W.codeIn K cd_in_order "in_order" = true)
    (k_in_order : PySem.W.keepIn K (.ref f_in_order) = true)
    (a_numbers_in_order : PySem.W.nsIn K mainGlobals "numbers_in_order" = some (some (.ref f_numbers_in_order)))
    (l_numbers_in_order : K.lookup f_numbers_in_order = some ⟨oc_numbers_in_order, od_numbers_in_order, .func (PySem.W.fnOf "numbers_in_order" "numbers_in_order" (defArgs s_numbers_in_order) (defBody s_numbers_in_order) (defScope s_numbers_in_order) .none kV_numbers_in_order dc_numbers_in_order pm_numbers_in_order an_numbers_in_order cd_numbers_in_order ct_numbers_in_order), sl_numbers_in_order⟩)
    (e_numbers_in_order : PySem.W.codeIn K cd_numbers_in_order "numbers_in_order" = true)
    (k_numbers_in_order : PySem.W.keepIn K (.ref f_numbers_in_order) = true)
    (a_add : PySem.W.nsIn K mainGlobals "add" = some (some (.ref f_add)))
    (l_add : K.lookup f_add = some ⟨oc_add, od_add, .func (PySem.W.fnOf "add" "add" (defArgs s_add) (defBody s_add) (defScope s_add) .none kV_add dc_add pm_add an_add cd_add ct_add), sl_add⟩)
    (e_add : PySem.W.codeIn K cd_add "add" = true)
    (k_add : PySem.W.keepIn K (.ref f_add) = true)
    (a_refusal_of_add : PySem.W.nsIn K mainGlobals "refusal_of_add" = some (some (.ref f_refusal_of_add)))
    (l_refusal_of_add : K.lookup f_refusal_of_add = some ⟨oc_refusal_of_add, od_refusal_of_add, .func (PySem.W.fnOf "refusal_of_add" "refusal_of_add" (defArgs s_refusal_of_add) (defBody s_refusal_of_add) (defScope s_refusal_of_add) .none kV_refusal_of_add dc_refusal_of_add pm_refusal_of_add an_refusal_of_add cd_refusal_of_add ct_refusal_of_add), sl_refusal_of_add⟩)
    (e_refusal_of_add : PySem.W.codeIn K cd_refusal_of_add "refusal_of_add" = true)
    (k_refusal_of_add : PySem.W.keepIn K (.ref f_refusal_of_add) = true)
    (a_are_needs : PySem.W.nsIn K mainGlobals "are_needs" = some (some (.ref f_are_needs)))
    (l_are_needs : K.lookup f_are_needs = some ⟨oc_are_needs, od_are_needs, .func (PySem.W.fnOf "are_needs" "are_needs" (defArgs s_are_needs) (defBody s_are_needs) (defScope s_are_needs) .none kV_are_needs dc_are_needs pm_are_needs an_are_needs cd_are_needs ct_are_needs), sl_are_needs⟩)
    (e_are_needs : PySem.W.codeIn K cd_are_needs "are_needs" = true)
    (k_are_needs : PySem.W.keepIn K (.ref f_are_needs) = true)
    (a_order : PySem.W.nsIn K mainGlobals "order" = some (some (.ref f_order)))
    (l_order : K.lookup f_order = some ⟨oc_order, od_order, .func (PySem.W.fnOf "order" "order" (defArgs s_order) (defBody s_order) (defScope s_order) .none kV_order dc_order pm_order an_order cd_order ct_order), sl_order⟩)
    (e_order : PySem.W.codeIn K cd_order "order" = true)
    (k_order : PySem.W.keepIn K (.ref f_order) = true)
    (a_serve : PySem.W.nsIn K mainGlobals "serve" = some (some (.ref f_serve)))
    (l_serve : K.lookup f_serve = some ⟨oc_serve, od_serve, .func (PySem.W.fnOf "serve" "serve" (defArgs s_serve) (defBody s_serve) (defScope s_serve) .none kV_serve dc_serve pm_serve an_serve cd_serve ct_serve), sl_serve⟩)
    (e_serve : PySem.W.codeIn K cd_serve "serve" = true)
    (k_serve : PySem.W.keepIn K (.ref f_serve) = true)
    (a_count_passed : PySem.W.nsIn K mainGlobals "count_passed" = some (some (.ref f_count_passed)))
    (l_count_passed : K.lookup f_count_passed = some ⟨oc_count_passed, od_count_passed, .func (PySem.W.fnOf "count_passed" "count_passed" (defArgs s_count_passed) (defBody s_count_passed) (defScope s_count_passed) .none kV_count_passed dc_count_passed pm_count_passed an_count_passed cd_count_passed ct_count_passed), sl_count_passed⟩)
    (e_count_passed : PySem.W.codeIn K cd_count_passed "count_passed" = true)
    (k_count_passed : PySem.W.keepIn K (.ref f_count_passed) = true)
    (a_Reader_init : PySem.W.findIn K (.ref c_Reader) "__init__" = some (some (.ref f_Reader_init)))
    (i_Reader_init : PySem.W.isFn K (.ref f_Reader_init) = true)
    (l_Reader_init : K.lookup f_Reader_init = some ⟨oc_Reader_init, od_Reader_init, .func (PySem.W.fnOf "__init__" "Reader.__init__" (defArgs s_Reader_init) (defBody s_Reader_init) (defScope s_Reader_init) .none kV_Reader_init dc_Reader_init pm_Reader_init an_Reader_init cd_Reader_init ct_Reader_init), sl_Reader_init⟩)
    (e_Reader_init : PySem.W.codeIn K cd_Reader_init "Reader.__init__" = true)
    (k_Reader_init : PySem.W.keepIn K (.ref f_Reader_init) = true)
    (a_Reader_is_done : PySem.W.findIn K (.ref c_Reader) "is_done" = some (some (.ref f_Reader_is_done)))
    (i_Reader_is_done : PySem.W.isFn K (.ref f_Reader_is_done) = true)
    (l_Reader_is_done : K.lookup f_Reader_is_done = some ⟨oc_Reader_is_done, od_Reader_is_done, .func (PySem.W.fnOf "is_done" "Reader.is_done" (defArgs s_Reader_is_done) (defBody s_Reader_is_done) (defScope s_Reader_is_done) .none kV_Reader_is_done dc_Reader_is_done pm_Reader_is_done an_Reader_is_done cd_Reader_is_done ct_Reader_is_done), sl_Reader_is_done⟩)
    (e_Reader_is_done : PySem.W.codeIn K cd_Reader_is_done "Reader.is_done" = true)
    (k_Reader_is_done : PySem.W.keepIn K (.ref f_Reader_is_done) = true)
    (a_Reader_take : PySem.W.findIn K (.ref c_Reader) "take" = some (some (.ref f_Reader_take)))
    (i_Reader_take : PySem.W.isFn K (.ref f_Reader_take) = true)
    (l_Reader_take : K.lookup f_Reader_take = some ⟨oc_Reader_take, od_Reader_take, .func (PySem.W.fnOf "take" "Reader.take" (defArgs s_Reader_take) (defBody s_Reader_take) (defScope s_Reader_take) .none kV_Reader_take dc_Reader_take pm_Reader_take an_Reader_take cd_Reader_take ct_Reader_take), sl_Reader_take⟩)
    (e_Reader_take : PySem.W.codeIn K cd_Reader_take "Reader.take" = true)
    (k_Reader_take : PySem.W.keepIn K (.ref f_Reader_take) = true)
    (a_Reader_take_several : PySem.W.findIn K (.ref c_Reader) "take_several" = some (some (.ref f_Reader_take_several)))
    (i_Reader_take_several : PySem.W.isFn K (.ref f_Reader_take_several) = true)
    (l_Reader_take_several : K.lookup f_Reader_take_several = some ⟨oc_Reader_take_several, od_Reader_take_several, .func (PySem.W.fnOf "take_several" "Reader.take_several" (defArgs s_Reader_take_several) (defBody s_Reader_take_several) (defScope s_Reader_take_several) .none kV_Reader_take_several dc_Reader_take_several pm_Reader_take_several an_Reader_take_several cd_Reader_take_several ct_Reader_take_several), sl_Reader_take_several⟩)
    (e_Reader_take_several : PySem.W.codeIn K cd_Reader_take_several "Reader.take_several" = true)
    (k_Reader_take_several : PySem.W.keepIn K (.ref f_Reader_take_several) = true)
    (a_Reader_take_row : PySem.W.findIn K (.ref c_Reader) "take_row" = some (some (.ref f_Reader_take_row)))
    (i_Reader_take_row : PySem.W.isFn K (.ref f_Reader_take_row) = true)
    (l_Reader_take_row : K.lookup f_Reader_take_row = some ⟨oc_Reader_take_row, od_Reader_take_row, .func (PySem.W.fnOf "take_row" "Reader.take_row" (defArgs s_Reader_take_row) (defBody s_Reader_take_row) (defScope s_Reader_take_row) .none kV_Reader_take_row dc_Reader_take_row pm_Reader_take_row an_Reader_take_row cd_Reader_take_row ct_Reader_take_row), sl_Reader_take_row⟩)
    (e_Reader_take_row : PySem.W.codeIn K cd_Reader_take_row "Reader.take_row" = true)
    (k_Reader_take_row : PySem.W.keepIn K (.ref f_Reader_take_row) = true)
    (a_config : PySem.W.nsIn K mainGlobals "config" = some (some (.ref f_config)))
    (l_config : K.lookup f_config = some ⟨oc_config, od_config, .func (PySem.W.fnOf "config" "config" (defArgs s_config) (defBody s_config) (defScope s_config) .none kV_config dc_config pm_config an_config cd_config ct_config), sl_config⟩)
    (e_config : PySem.W.codeIn K cd_config "config" = true)
    (k_config : PySem.W.keepIn K (.ref f_config) = true)
    (a_window : PySem.W.nsIn K mainGlobals "window" = some (some (.ref f_window)))
    (l_window : K.lookup f_window = some ⟨oc_window, od_window, .func (PySem.W.fnOf "window" "window" (defArgs s_window) (defBody s_window) (defScope s_window) .none kV_window dc_window pm_window an_window cd_window ct_window), sl_window⟩)
    (e_window : PySem.W.codeIn K cd_window "window" = true)
    (k_window : PySem.W.keepIn K (.ref f_window) = true)
    (a_pairs_of : PySem.W.nsIn K mainGlobals "pairs_of" = some (some (.ref f_pairs_of)))
    (l_pairs_of : K.lookup f_pairs_of = some ⟨oc_pairs_of, od_pairs_of, .func (PySem.W.fnOf "pairs_of" "pairs_of" (defArgs s_pairs_of) (defBody s_pairs_of) (defScope s_pairs_of) .none kV_pairs_of dc_pairs_of pm_pairs_of an_pairs_of cd_pairs_of ct_pairs_of), sl_pairs_of⟩)
    (e_pairs_of : PySem.W.codeIn K cd_pairs_of "pairs_of" = true)
    (k_pairs_of : PySem.W.keepIn K (.ref f_pairs_of) = true)
    (a_is_window : PySem.W.nsIn K mainGlobals "is_window" = some (some (.ref f_is_window)))
    (l_is_window : K.lookup f_is_window = some ⟨oc_is_window, od_is_window, .func (PySem.W.fnOf "is_window" "is_window" (defArgs s_is_window) (defBody s_is_window) (defScope s_is_window) .none kV_is_window dc_is_window pm_is_window an_is_window cd_is_window ct_is_window), sl_is_window⟩)
    (e_is_window : PySem.W.codeIn K cd_is_window "is_window" = true)
    (k_is_window : PySem.W.keepIn K (.ref f_is_window) = true)
    (a_freeze : PySem.W.nsIn K mainGlobals "freeze" = some (some (.ref f_freeze)))
    (l_freeze : K.lookup f_freeze = some ⟨oc_freeze, od_freeze, .func (PySem.W.fnOf "freeze" "freeze" (defArgs s_freeze) (defBody s_freeze) (defScope s_freeze) .none kV_freeze dc_freeze pm_freeze an_freeze cd_freeze ct_freeze), sl_freeze⟩)
    (e_freeze : PySem.W.codeIn K cd_freeze "freeze" = true)
    (k_freeze : PySem.W.keepIn K (.ref f_freeze) = true)
    (a_thaw : PySem.W.nsIn K mainGlobals "thaw" = some (some (.ref f_thaw)))
    (l_thaw : K.lookup f_thaw = some ⟨oc_thaw, od_thaw, .func (PySem.W.fnOf "thaw" "thaw" (defArgs s_thaw) (defBody s_thaw) (defScope s_thaw) .none kV_thaw dc_thaw pm_thaw an_thaw cd_thaw ct_thaw), sl_thaw⟩)
    (e_thaw : PySem.W.codeIn K cd_thaw "thaw" = true)
    (k_thaw : PySem.W.keepIn K (.ref f_thaw) = true)
    (a_set_frozen : PySem.W.nsIn K mainGlobals "set_frozen" = some (some (.ref f_set_frozen)))
    (l_set_frozen : K.lookup f_set_frozen = some ⟨oc_set_frozen, od_set_frozen, .func (PySem.W.fnOf "set_frozen" "set_frozen" (defArgs s_set_frozen) (defBody s_set_frozen) (defScope s_set_frozen) .none kV_set_frozen dc_set_frozen pm_set_frozen an_set_frozen cd_set_frozen ct_set_frozen), sl_set_frozen⟩)
    (e_set_frozen : PySem.W.codeIn K cd_set_frozen "set_frozen" = true)
    (k_set_frozen : PySem.W.keepIn K (.ref f_set_frozen) = true)
    (a_tick : PySem.W.nsIn K mainGlobals "tick" = some (some (.ref f_tick)))
    (l_tick : K.lookup f_tick = some ⟨oc_tick, od_tick, .func (PySem.W.fnOf "tick" "tick" (defArgs s_tick) (defBody s_tick) (defScope s_tick) .none kV_tick dc_tick pm_tick an_tick cd_tick ct_tick), sl_tick⟩)
    (e_tick : PySem.W.codeIn K cd_tick "tick" = true)
    (k_tick : PySem.W.keepIn K (.ref f_tick) = true)
    (a_why : PySem.W.nsIn K mainGlobals "why" = some (some (.ref f_why)))
    (l_why : K.lookup f_why = some ⟨oc_why, od_why, .func (PySem.W.fnOf "why" "why" (defArgs s_why) (defBody s_why) (defScope s_why) .none kV_why dc_why pm_why an_why cd_why ct_why), sl_why⟩)
    (e_why : PySem.W.codeIn K cd_why "why" = true)
    (k_why : PySem.W.keepIn K (.ref f_why) = true)
    (a_why_waiting : PySem.W.nsIn K mainGlobals "why_waiting" = some (some (.ref f_why_waiting)))
    (l_why_waiting : K.lookup f_why_waiting = some ⟨oc_why_waiting, od_why_waiting, .func (PySem.W.fnOf "why_waiting" "why_waiting" (defArgs s_why_waiting) (defBody s_why_waiting) (defScope s_why_waiting) .none kV_why_waiting dc_why_waiting pm_why_waiting an_why_waiting cd_why_waiting ct_why_waiting), sl_why_waiting⟩)
    (e_why_waiting : PySem.W.codeIn K cd_why_waiting "why_waiting" = true)
    (k_why_waiting : PySem.W.keepIn K (.ref f_why_waiting) = true)
    (a_place : PySem.W.nsIn K mainGlobals "place" = some (some (.ref f_place)))
    (l_place : K.lookup f_place = some ⟨oc_place, od_place, .func (PySem.W.fnOf "place" "place" (defArgs s_place) (defBody s_place) (defScope s_place) .none kV_place dc_place pm_place an_place cd_place ct_place), sl_place⟩)
    (e_place : PySem.W.codeIn K cd_place "place" = true)
    (k_place : PySem.W.keepIn K (.ref f_place) = true)
    (a_next_open : PySem.W.nsIn K mainGlobals "next_open" = some (some (.ref f_next_open)))
    (l_next_open : K.lookup f_next_open = some ⟨oc_next_open, od_next_open, .func (PySem.W.fnOf "next_open" "next_open" (defArgs s_next_open) (defBody s_next_open) (defScope s_next_open) .none kV_next_open dc_next_open pm_next_open an_next_open cd_next_open ct_next_open), sl_next_open⟩)
    (e_next_open : PySem.W.codeIn K cd_next_open "next_open" = true)
    (k_next_open : PySem.W.keepIn K (.ref f_next_open) = true)
    (a_status : PySem.W.nsIn K mainGlobals "status" = some (some (.ref f_status)))
    (l_status : K.lookup f_status = some ⟨oc_status, od_status, .func (PySem.W.fnOf "status" "status" (defArgs s_status) (defBody s_status) (defScope s_status) .none kV_status dc_status pm_status an_status cd_status ct_status), sl_status⟩)
    (e_status : PySem.W.codeIn K cd_status "status" = true)
    (k_status : PySem.W.keepIn K (.ref f_status) = true)
    (a_answers : PySem.W.nsIn K mainGlobals "answers" = some (some (.ref f_answers)))
    (l_answers : K.lookup f_answers = some ⟨oc_answers, od_answers, .func (PySem.W.fnOf "answers" "answers" (defArgs s_answers) (defBody s_answers) (defScope s_answers) .none kV_answers dc_answers pm_answers an_answers cd_answers ct_answers), sl_answers⟩)
    (e_answers : PySem.W.codeIn K cd_answers "answers" = true)
    (k_answers : PySem.W.keepIn K (.ref f_answers) = true)
    (a_answer_next : PySem.W.nsIn K mainGlobals "answer_next" = some (some (.ref f_answer_next)))
    (l_answer_next : K.lookup f_answer_next = some ⟨oc_answer_next, od_answer_next, .func (PySem.W.fnOf "answer_next" "answer_next" (defArgs s_answer_next) (defBody s_answer_next) (defScope s_answer_next) .none kV_answer_next dc_answer_next pm_answer_next an_answer_next cd_answer_next ct_answer_next), sl_answer_next⟩)
    (e_answer_next : PySem.W.codeIn K cd_answer_next "answer_next" = true)
    (k_answer_next : PySem.W.keepIn K (.ref f_answer_next) = true)
    (a_answer_with_one_number : PySem.W.nsIn K mainGlobals "answer_with_one_number" = some (some (.ref f_answer_with_one_number)))
    (l_answer_with_one_number : K.lookup f_answer_with_one_number = some ⟨oc_answer_with_one_number, od_answer_with_one_number, .func (PySem.W.fnOf "answer_with_one_number" "answer_with_one_number" (defArgs s_answer_with_one_number) (defBody s_answer_with_one_number) (defScope s_answer_with_one_number) .none kV_answer_with_one_number dc_answer_with_one_number pm_answer_with_one_number an_answer_with_one_number cd_answer_with_one_number ct_answer_with_one_number), sl_answer_with_one_number⟩)
    (e_answer_with_one_number : PySem.W.codeIn K cd_answer_with_one_number "answer_with_one_number" = true)
    (k_answer_with_one_number : PySem.W.keepIn K (.ref f_answer_with_one_number) = true)
    (pg_Item : PySem.W.plainGet K c_Item Str.empty = true)
    (hd_Item : PySem.W.hasDictIn K c_Item = true)
    (po_Item : PySem.W.plainOver K c_Item = true)
    (sa_Item : PySem.W.findIn K (.ref c_Item) "__setattr__" = some (some (.builtin "object.__setattr__")))
    (mk_Item : PySem.W.makesIn K c_Item = true)
    (kc_Item : PySem.W.keepIn K (.ref c_Item) = true)
    (n_Item_number : PySem.W.findIn K (.ref c_Item) "number" = some none)
    (n_Item_prio : PySem.W.findIn K (.ref c_Item) "prio" = some none)
    (n_Item_group : PySem.W.findIn K (.ref c_Item) "group" = some none)
    (n_Item_needs : PySem.W.findIn K (.ref c_Item) "needs" = some none)
    (n_Item_passed : PySem.W.findIn K (.ref c_Item) "passed" = some none)
    (pg_Queue : PySem.W.plainGet K c_Queue Str.empty = true)
    (hd_Queue : PySem.W.hasDictIn K c_Queue = true)
    (po_Queue : PySem.W.plainOver K c_Queue = true)
    (sa_Queue : PySem.W.findIn K (.ref c_Queue) "__setattr__" = some (some (.builtin "object.__setattr__")))
    (mk_Queue : PySem.W.makesIn K c_Queue = true)
    (kc_Queue : PySem.W.keepIn K (.ref c_Queue) = true)
    (n_Queue_limit : PySem.W.findIn K (.ref c_Queue) "limit" = some none)
    (n_Queue_day : PySem.W.findIn K (.ref c_Queue) "day" = some none)
    (n_Queue_time : PySem.W.findIn K (.ref c_Queue) "time" = some none)
    (n_Queue_windows : PySem.W.findIn K (.ref c_Queue) "windows" = some none)
    (n_Queue_frozen : PySem.W.findIn K (.ref c_Queue) "frozen" = some none)
    (n_Queue_known : PySem.W.findIn K (.ref c_Queue) "known" = some none)
    (n_Queue_waiting : PySem.W.findIn K (.ref c_Queue) "waiting" = some none)
    (n_Queue_running : PySem.W.findIn K (.ref c_Queue) "running" = some none)
    (n_Queue_ended : PySem.W.findIn K (.ref c_Queue) "ended" = some none)
    (pg_Reader : PySem.W.plainGet K c_Reader Str.empty = true)
    (hd_Reader : PySem.W.hasDictIn K c_Reader = true)
    (po_Reader : PySem.W.plainOver K c_Reader = true)
    (sa_Reader : PySem.W.findIn K (.ref c_Reader) "__setattr__" = some (some (.builtin "object.__setattr__")))
    (mk_Reader : PySem.W.makesIn K c_Reader = true)
    (kc_Reader : PySem.W.keepIn K (.ref c_Reader) = true)
    (n_Reader_numbers : PySem.W.findIn K (.ref c_Reader) "numbers" = some none)
    (n_Reader_position : PySem.W.findIn K (.ref c_Reader) "position" = some none)
    (v_NO_REFUSAL : PySem.W.nsIn K mainGlobals "NO_REFUSAL" = some (some (.int (0) u_NO_REFUSAL)))
    (v_OUT_OF_RANGE : PySem.W.nsIn K mainGlobals "OUT_OF_RANGE" = some (some (.int (-1) u_OUT_OF_RANGE)))
    (v_BAD_ROW : PySem.W.nsIn K mainGlobals "BAD_ROW" = some (some (.int (-2) u_BAD_ROW)))
    (v_NO_SUCH_ITEM : PySem.W.nsIn K mainGlobals "NO_SUCH_ITEM" = some (some (.int (-6) u_NO_SUCH_ITEM)))
    (v_TOO_MUCH : PySem.W.nsIn K mainGlobals "TOO_MUCH" = some (some (.int (-7) u_TOO_MUCH)))
    (v_ITEMS_THERE : PySem.W.nsIn K mainGlobals "ITEMS_THERE" = some (some (.int (-8) u_ITEMS_THERE)))
    (v_NUMBER_TAKEN : PySem.W.nsIn K mainGlobals "NUMBER_TAKEN" = some (some (.int (-9) u_NUMBER_TAKEN)))
    (v_EVERYTHING : PySem.W.nsIn K mainGlobals "EVERYTHING" = some (some (.int (-1) u_EVERYTHING)))
    (v_LAST_GROUP : PySem.W.nsIn K mainGlobals "LAST_GROUP" = some (some (.int (7) u_LAST_GROUP)))
    (v_MOST_TIME : PySem.W.nsIn K mainGlobals "MOST_TIME" = some (some (.int (1000000) u_MOST_TIME)))
    (v_LANDED : PySem.W.nsIn K mainGlobals "LANDED" = some (some (.int (7) u_LANDED)))
    (v_REJECTED : PySem.W.nsIn K mainGlobals "REJECTED" = some (some (.int (8) u_REJECTED)))
    (v_WITHDRAWN : PySem.W.nsIn K mainGlobals "WITHDRAWN" = some (some (.int (9) u_WITHDRAWN)))
    (v_LAST_NUMBER : PySem.W.nsIn K mainGlobals "LAST_NUMBER" = some (some (.int (999) u_LAST_NUMBER)))
    (v_LAST_PRIO : PySem.W.nsIn K mainGlobals "LAST_PRIO" = some (some (.int (9) u_LAST_PRIO)))
    (v_MOST_NEEDS : PySem.W.nsIn K mainGlobals "MOST_NEEDS" = some (some (.int (6) u_MOST_NEEDS)))
    (v_MOST_UNENDED : PySem.W.nsIn K mainGlobals "MOST_UNENDED" = some (some (.int (40) u_MOST_UNENDED)))
    (v_MOST_KNOWN : PySem.W.nsIn K mainGlobals "MOST_KNOWN" = some (some (.int (400) u_MOST_KNOWN)))
    (v_MOST_LIMIT : PySem.W.nsIn K mainGlobals "MOST_LIMIT" = some (some (.int (20) u_MOST_LIMIT)))
    (v_MOST_HOURS : PySem.W.nsIn K mainGlobals "MOST_HOURS" = some (some (.int (24) u_MOST_HOURS)))
    (v_MOST_WINDOWS : PySem.W.nsIn K mainGlobals "MOST_WINDOWS" = some (some (.int (4) u_MOST_WINDOWS)))
    (v_MOST_TICK : PySem.W.nsIn K mainGlobals "MOST_TICK" = some (some (.int (1000) u_MOST_TICK)))
    (v_READY : PySem.W.nsIn K mainGlobals "READY" = some (some (.int (1) u_READY)))
    (v_FROZEN : PySem.W.nsIn K mainGlobals "FROZEN" = some (some (.int (2) u_FROZEN)))
    (v_OUTSIDE_HOURS : PySem.W.nsIn K mainGlobals "OUTSIDE_HOURS" = some (some (.int (3) u_OUTSIDE_HOURS)))
    (v_NEEDS_MISSING : PySem.W.nsIn K mainGlobals "NEEDS_MISSING" = some (some (.int (4) u_NEEDS_MISSING)))
    (v_NEEDS_LOST : PySem.W.nsIn K mainGlobals "NEEDS_LOST" = some (some (.int (5) u_NEEDS_LOST)))
    (v_RUNS : PySem.W.nsIn K mainGlobals "RUNS" = some (some (.int (6) u_RUNS)))
    (v_CONFIG : PySem.W.nsIn K mainGlobals "CONFIG" = some (some (.int (0) u_CONFIG)))
    (v_ADD : PySem.W.nsIn K mainGlobals "ADD" = some (some (.int (1) u_ADD)))
    (v_WINDOW : PySem.W.nsIn K mainGlobals "WINDOW" = some (some (.int (2) u_WINDOW)))
    (v_FREEZE : PySem.W.nsIn K mainGlobals "FREEZE" = some (some (.int (3) u_FREEZE)))
    (v_THAW : PySem.W.nsIn K mainGlobals "THAW" = some (some (.int (4) u_THAW)))
    (v_TICK : PySem.W.nsIn K mainGlobals "TICK" = some (some (.int (5) u_TICK)))
    (v_ORDER : PySem.W.nsIn K mainGlobals "ORDER" = some (some (.int (6) u_ORDER)))
    (v_SERVE : PySem.W.nsIn K mainGlobals "SERVE" = some (some (.int (7) u_SERVE)))
    (v_OUTCOME : PySem.W.nsIn K mainGlobals "OUTCOME" = some (some (.int (8) u_OUTCOME)))
    (v_AGAIN : PySem.W.nsIn K mainGlobals "AGAIN" = some (some (.int (9) u_AGAIN)))
    (v_WITHDRAW : PySem.W.nsIn K mainGlobals "WITHDRAW" = some (some (.int (10) u_WITHDRAW)))
    (v_WHY : PySem.W.nsIn K mainGlobals "WHY" = some (some (.int (11) u_WHY)))
    (v_PLACE : PySem.W.nsIn K mainGlobals "PLACE" = some (some (.int (12) u_PLACE)))
    (v_NEXT_OPEN : PySem.W.nsIn K mainGlobals "NEXT_OPEN" = some (some (.int (13) u_NEXT_OPEN)))
    (v_STATUS : PySem.W.nsIn K mainGlobals "STATUS" = some (some (.int (14) u_STATUS)))
    (z_all : PySem.W.nsIn K mainGlobals "all" = some none)
    (z_any : PySem.W.nsIn K mainGlobals "any" = some none)
    (z_len : PySem.W.nsIn K mainGlobals "len" = some none)
    (z_list : PySem.W.nsIn K mainGlobals "list" = some none)
    (z_min : PySem.W.nsIn K mainGlobals "min" = some none)
    (z_range : PySem.W.nsIn K mainGlobals "range" = some none)
    (z_reversed : PySem.W.nsIn K mainGlobals "reversed" = some none)
    (z_set : PySem.W.nsIn K mainGlobals "set" = some none)
    (z_sorted : PySem.W.nsIn K mainGlobals "sorted" = some none)
    : ∃ fd : FuncData, (∀ (s : Shared) (us : List Value), us.length = (["calls"] : List Str).length → BindsTo s fd ⟨us, []⟩ ((["calls"] : List Str).zip us)) ∧ ∀ base : Heap, K.In base → base.Ns mainGlobals mg → FnOk P w K mg base CX0 9 fa fd ["calls"] (spAns K) := by
  have F_Item_init := fun_mk (st := s_Item_init) l_Item_init e_Item_init k_Item_init
  have b_Item_init := F_Item_init.binds (ps := ["self", "number", "prio", "group", "needs"]) fun _ _ _ _ _ _ us hl => match us, hl with | [_, _, _, _, _], _ => rfl
  have F_Queue_init := fun_mk (st := s_Queue_init) l_Queue_init e_Queue_init k_Queue_init
  have b_Queue_init := F_Queue_init.binds (ps := ["self"]) fun _ _ _ _ _ _ us hl => match us, hl with | [_], _ => rfl
  have F_count_unended := fun_mk (st := s_count_unended) l_count_unended e_count_unended k_count_unended
  have b_count_unended := F_count_unended.binds (ps := ["queue"]) fun _ _ _ _ _ _ us hl => match us, hl with | [_], _ => rfl
  have F_outcome := fun_mk (st := s_outcome) l_outcome e_outcome k_outcome
  have b_outcome := F_outcome.binds (ps := ["queue", "number", "landed"]) fun _ _ _ _ _ _ us hl => match us, hl with | [_, _, _], _ => rfl
  have F_again := fun_mk (st := s_again) l_again e_again k_again
  have b_again := F_again.binds (ps := ["queue", "number"]) fun _ _ _ _ _ _ us hl => match us, hl with | [_, _], _ => rfl
  have F_withdraw := fun_mk (st := s_withdraw) l_withdraw e_withdraw k_withdraw
  have b_withdraw := F_withdraw.binds (ps := ["queue", "number"]) fun _ _ _ _ _ _ us hl => match us, hl with | [_, _], _ => rfl
  have F_is_frozen := fun_mk (st := s_is_frozen) l_is_frozen e_is_frozen k_is_frozen
  have b_is_frozen := F_is_frozen.binds (ps := ["queue", "group"]) fun _ _ _ _ _ _ us hl => match us, hl with | [_, _], _ => rfl
  have F_is_within_hours := fun_mk (st := s_is_within_hours) l_is_within_hours e_is_within_hours k_is_within_hours
  have b_is_within_hours := F_is_within_hours.binds (ps := ["queue", "group", "time"]) fun _ _ _ _ _ _ us hl => match us, hl with | [_, _, _], _ => rfl
  have F_has_landed := fun_mk (st := s_has_landed) l_has_landed e_has_landed k_has_landed
  have b_has_landed := F_has_landed.binds (ps := ["queue", "number"]) fun _ _ _ _ _ _ us hl => match us, hl with | [_, _], _ => rfl
  have F_is_ready := fun_mk (st := s_is_ready) l_is_ready e_is_ready k_is_ready
  have b_is_ready := F_is_ready.binds (ps := ["queue", "item"]) fun _ _ _ _ _ _ us hl => match us, hl with | [_, _], _ => rfl
  have F_ready_items := fun_mk (st := s_ready_items) l_ready_items e_ready_items k_ready_items
  have b_ready_items := F_ready_items.binds (ps := ["queue"]) fun _ _ _ _ _ _ us hl => match us, hl with | [_], _ => rfl
  have F_lower_for_greater_prio := fun_mk (st := s_lower_for_greater_prio) l_lower_for_greater_prio e_lower_for_greater_prio k_lower_for_greater_prio
  have b_lower_for_greater_prio := F_lower_for_greater_prio.binds (ps := ["item"]) fun _ _ _ _ _ _ us hl => match us, hl with | [_], _ => rfl
  have F_in_order := fun_mk (st := s_in_order) l_in_order e_in_order k_in_order
  have b_in_order := F_in_order.binds (ps := ["items", "limit"]) fun _ _ _ _ _ _ us hl => match us, hl with | [_, _], _ => rfl
  have F_numbers_in_order := fun_mk (st := s_numbers_in_order) l_numbers_in_order e_numbers_in_order k_numbers_in_order
  have b_numbers_in_order := F_numbers_in_order.binds (ps := ["queue"]) fun _ _ _ _ _ _ us hl => match us, hl with | [_], _ => rfl
  have F_add := fun_mk (st := s_add) l_add e_add k_add
  have b_add := F_add.binds (ps := ["queue", "number", "prio", "group", "needs"]) fun _ _ _ _ _ _ us hl => match us, hl with | [_, _, _, _, _], _ => rfl
  have F_refusal_of_add := fun_mk (st := s_refusal_of_add) l_refusal_of_add e_refusal_of_add k_refusal_of_add
  have b_refusal_of_add := F_refusal_of_add.binds (ps := ["queue", "number", "prio", "group", "needs"]) fun _ _ _ _ _ _ us hl => match us, hl with | [_, _, _, _, _], _ => rfl
  have F_are_needs := fun_mk (st := s_are_needs) l_are_needs e_are_needs k_are_needs
  have b_are_needs := F_are_needs.binds (ps := ["needs"]) fun _ _ _ _ _ _ us hl => match us, hl with | [_], _ => rfl
  have F_order := fun_mk (st := s_order) l_order e_order k_order
  have b_order := F_order.binds (ps := ["queue"]) fun _ _ _ _ _ _ us hl => match us, hl with | [_], _ => rfl
  have F_serve := fun_mk (st := s_serve) l_serve e_serve k_serve
  have b_serve := F_serve.binds (ps := ["queue", "most"]) fun _ _ _ _ _ _ us hl => match us, hl with | [_, _], _ => rfl
  have F_count_passed := fun_mk (st := s_count_passed) l_count_passed e_count_passed k_count_passed
  have b_count_passed := F_count_passed.binds (ps := ["ready", "served"]) fun _ _ _ _ _ _ us hl => match us, hl with | [_, _], _ => rfl
  have F_Reader_init := fun_mk (st := s_Reader_init) l_Reader_init e_Reader_init k_Reader_init
  have b_Reader_init := F_Reader_init.binds (ps := ["self", "numbers"]) fun _ _ _ _ _ _ us hl => match us, hl with | [_, _], _ => rfl
  have F_Reader_is_done := fun_mk (st := s_Reader_is_done) l_Reader_is_done e_Reader_is_done k_Reader_is_done
  have b_Reader_is_done := F_Reader_is_done.binds (ps := ["self"]) fun _ _ _ _ _ _ us hl => match us, hl with | [_], _ => rfl
  have F_Reader_take := fun_mk (st := s_Reader_take) l_Reader_take e_Reader_take k_Reader_take
  have b_Reader_take := F_Reader_take.binds (ps := ["self"]) fun _ _ _ _ _ _ us hl => match us, hl with | [_], _ => rfl
  have F_Reader_take_several := fun_mk (st := s_Reader_take_several) l_Reader_take_several e_Reader_take_several k_Reader_take_several
  have b_Reader_take_several := F_Reader_take_several.binds (ps := ["self", "amount"]) fun _ _ _ _ _ _ us hl => match us, hl with | [_, _], _ => rfl
  have F_Reader_take_row := fun_mk (st := s_Reader_take_row) l_Reader_take_row e_Reader_take_row k_Reader_take_row
  have b_Reader_take_row := F_Reader_take_row.binds (ps := ["self"]) fun _ _ _ _ _ _ us hl => match us, hl with | [_], _ => rfl
  have F_config := fun_mk (st := s_config) l_config e_config k_config
  have b_config := F_config.binds (ps := ["queue", "limit", "day"]) fun _ _ _ _ _ _ us hl => match us, hl with | [_, _, _], _ => rfl
  have F_window := fun_mk (st := s_window) l_window e_window k_window
  have b_window := F_window.binds (ps := ["queue", "group", "hours"]) fun _ _ _ _ _ _ us hl => match us, hl with | [_, _, _], _ => rfl
  have F_pairs_of := fun_mk (st := s_pairs_of) l_pairs_of e_pairs_of k_pairs_of
  have b_pairs_of := F_pairs_of.binds (ps := ["hours"]) fun _ _ _ _ _ _ us hl => match us, hl with | [_], _ => rfl
  have F_is_window := fun_mk (st := s_is_window) l_is_window e_is_window k_is_window
  have b_is_window := F_is_window.binds (ps := ["pair", "day"]) fun _ _ _ _ _ _ us hl => match us, hl with | [_, _], _ => rfl
  have F_freeze := fun_mk (st := s_freeze) l_freeze e_freeze k_freeze
  have b_freeze := F_freeze.binds (ps := ["queue", "group"]) fun _ _ _ _ _ _ us hl => match us, hl with | [_, _], _ => rfl
  have F_thaw := fun_mk (st := s_thaw) l_thaw e_thaw k_thaw
  have b_thaw := F_thaw.binds (ps := ["queue", "group"]) fun _ _ _ _ _ _ us hl => match us, hl with | [_, _], _ => rfl
  have F_set_frozen := fun_mk (st := s_set_frozen) l_set_frozen e_set_frozen k_set_frozen
  have b_set_frozen := F_set_frozen.binds (ps := ["queue", "group", "value"]) fun _ _ _ _ _ _ us hl => match us, hl with | [_, _, _], _ => rfl
  have F_tick := fun_mk (st := s_tick) l_tick e_tick k_tick
  have b_tick := F_tick.binds (ps := ["queue", "hours"]) fun _ _ _ _ _ _ us hl => match us, hl with | [_, _], _ => rfl
  have F_why := fun_mk (st := s_why) l_why e_why k_why
  have b_why := F_why.binds (ps := ["queue", "number"]) fun _ _ _ _ _ _ us hl => match us, hl with | [_, _], _ => rfl
  have F_why_waiting := fun_mk (st := s_why_waiting) l_why_waiting e_why_waiting k_why_waiting
  have b_why_waiting := F_why_waiting.binds (ps := ["queue", "item"]) fun _ _ _ _ _ _ us hl => match us, hl with | [_, _], _ => rfl
  have F_place := fun_mk (st := s_place) l_place e_place k_place
  have b_place := F_place.binds (ps := ["queue", "number"]) fun _ _ _ _ _ _ us hl => match us, hl with | [_, _], _ => rfl
  have F_next_open := fun_mk (st := s_next_open) l_next_open e_next_open k_next_open
  have b_next_open := F_next_open.binds (ps := ["queue", "group"]) fun _ _ _ _ _ _ us hl => match us, hl with | [_, _], _ => rfl
  have F_status := fun_mk (st := s_status) l_status e_status k_status
  have b_status := F_status.binds (ps := ["queue"]) fun _ _ _ _ _ _ us hl => match us, hl with | [_], _ => rfl
  have F_answers := fun_mk (st := s_answers) l_answers e_answers k_answers
  have b_answers := F_answers.binds (ps := ["calls"]) fun _ _ _ _ _ _ us hl => match us, hl with | [_], _ => rfl
  have F_answer_next := fun_mk (st := s_answer_next) l_answer_next e_answer_next k_answer_next
  have b_answer_next := F_answer_next.binds (ps := ["queue", "reader"]) fun _ _ _ _ _ _ us hl => match us, hl with | [_, _], _ => rfl
  have F_answer_with_one_number := fun_mk (st := s_answer_with_one_number) l_answer_with_one_number e_answer_with_one_number k_answer_with_one_number
  have b_answer_with_one_number := F_answer_with_one_number.binds (ps := ["queue", "call", "reader"]) fun _ _ _ _ _ _ us hl => match us, hl with | [_, _, _], _ => rfl
  obtain ⟨t, T, ed⟩ : ∃ t : Ad, Txt K mg t ∧ t.d_answers = PySem.W.fnOf "answers" "answers" (defArgs s_answers) (defBody s_answers) (defScope s_answers) .none kV_answers dc_answers pm_answers an_answers cd_answers ct_answers := ⟨⟨c_Item, c_Queue, c_Reader, f_Item_init, _, f_Queue_init, _, f_count_unended, _, f_outcome, _, f_again, _, f_withdraw, _, f_is_frozen, _, f_is_within_hours, _, f_has_landed, _, f_is_ready, _, f_ready_items, _, f_lower_for_greater_prio, _, f_in_order, _, f_numbers_in_order, _, f_add, _, f_refusal_of_add, _, f_are_needs, _, f_order, _, f_serve, _, f_count_passed, _, f_Reader_init, _, f_Reader_is_done, _, f_Reader_take, _, f_Reader_take_several, _, f_Reader_take_row, _, f_config, _, f_window, _, f_pairs_of, _, f_is_window, _, f_freeze, _, f_thaw, _, f_set_frozen, _, f_tick, _, f_why, _, f_why_waiting, _, f_place, _, f_next_open, _, f_status, _, f_answers, _, f_answer_next, _, f_answer_with_one_number, _⟩, ⟨⟨pg_Item, hd_Item, po_Item, sa_Item⟩, PySem.W.mg_of X G a_Item, ⟨mk_Item, a_Item_init, i_Item_init, kc_Item⟩, n_Item_number, n_Item_prio, n_Item_group, n_Item_needs, n_Item_passed, ⟨pg_Queue, hd_Queue, po_Queue, sa_Queue⟩, PySem.W.mg_of X G a_Queue, ⟨mk_Queue, a_Queue_init, i_Queue_init, kc_Queue⟩, n_Queue_limit, n_Queue_day, n_Queue_time, n_Queue_windows, n_Queue_frozen, n_Queue_known, n_Queue_waiting, n_Queue_running, n_Queue_ended, ⟨pg_Reader, hd_Reader, po_Reader, sa_Reader⟩, PySem.W.mg_of X G a_Reader, ⟨mk_Reader, a_Reader_init, i_Reader_init, kc_Reader⟩, n_Reader_numbers, n_Reader_position, ⟨a_Reader_is_done, i_Reader_is_done, k_Reader_is_done⟩, ⟨a_Reader_take, i_Reader_take, k_Reader_take⟩, ⟨a_Reader_take_several, i_Reader_take_several, k_Reader_take_several⟩, ⟨a_Reader_take_row, i_Reader_take_row, k_Reader_take_row⟩, F_Item_init, b_Item_init, F_Queue_init, b_Queue_init, F_count_unended, b_count_unended, PySem.W.mg_of X G a_count_unended, F_outcome, b_outcome, PySem.W.mg_of X G a_outcome, F_again, b_again, PySem.W.mg_of X G a_again, F_withdraw, b_withdraw, PySem.W.mg_of X G a_withdraw, F_is_frozen, b_is_frozen, PySem.W.mg_of X G a_is_frozen, F_is_within_hours, b_is_within_hours, PySem.W.mg_of X G a_is_within_hours, F_has_landed, b_has_landed, PySem.W.mg_of X G a_has_landed, F_is_ready, b_is_ready, PySem.W.mg_of X G a_is_ready, F_ready_items, b_ready_items, PySem.W.mg_of X G a_ready_items, F_lower_for_greater_prio, b_lower_for_greater_prio, PySem.W.mg_of X G a_lower_for_greater_prio, F_in_order, b_in_order, PySem.W.mg_of X G a_in_order, F_numbers_in_order, b_numbers_in_order, PySem.W.mg_of X G a_numbers_in_order, F_add, b_add, PySem.W.mg_of X G a_add, F_refusal_of_add, b_refusal_of_add, PySem.W.mg_of X G a_refusal_of_add, F_are_needs, b_are_needs, PySem.W.mg_of X G a_are_needs, F_order, b_order, PySem.W.mg_of X G a_order, F_serve, b_serve, PySem.W.mg_of X G a_serve, F_count_passed, b_count_passed, PySem.W.mg_of X G a_count_passed, F_Reader_init, b_Reader_init, F_Reader_is_done, b_Reader_is_done, F_Reader_take, b_Reader_take, F_Reader_take_several, b_Reader_take_several, F_Reader_take_row, b_Reader_take_row, F_config, b_config, PySem.W.mg_of X G a_config, F_window, b_window, PySem.W.mg_of X G a_window, F_pairs_of, b_pairs_of, PySem.W.mg_of X G a_pairs_of, F_is_window, b_is_window, PySem.W.mg_of X G a_is_window, F_freeze, b_freeze, PySem.W.mg_of X G a_freeze, F_thaw, b_thaw, PySem.W.mg_of X G a_thaw, F_set_frozen, b_set_frozen, PySem.W.mg_of X G a_set_frozen, F_tick, b_tick, PySem.W.mg_of X G a_tick, F_why, b_why, PySem.W.mg_of X G a_why, F_why_waiting, b_why_waiting, PySem.W.mg_of X G a_why_waiting, F_place, b_place, PySem.W.mg_of X G a_place, F_next_open, b_next_open, PySem.W.mg_of X G a_next_open, F_status, b_status, PySem.W.mg_of X G a_status, F_answers, b_answers, PySem.W.mg_of X G a_answers, F_answer_next, b_answer_next, PySem.W.mg_of X G a_answer_next, F_answer_with_one_number, b_answer_with_one_number, PySem.W.mg_of X G a_answer_with_one_number, ⟨_, PySem.W.mg_of X G v_NO_REFUSAL⟩, ⟨_, PySem.W.mg_of X G v_OUT_OF_RANGE⟩, ⟨_, PySem.W.mg_of X G v_BAD_ROW⟩, ⟨_, PySem.W.mg_of X G v_NO_SUCH_ITEM⟩, ⟨_, PySem.W.mg_of X G v_TOO_MUCH⟩, ⟨_, PySem.W.mg_of X G v_ITEMS_THERE⟩, ⟨_, PySem.W.mg_of X G v_NUMBER_TAKEN⟩, ⟨_, PySem.W.mg_of X G v_EVERYTHING⟩, ⟨_, PySem.W.mg_of X G v_LAST_GROUP⟩, ⟨_, PySem.W.mg_of X G v_MOST_TIME⟩, ⟨_, PySem.W.mg_of X G v_LANDED⟩, ⟨_, PySem.W.mg_of X G v_REJECTED⟩, ⟨_, PySem.W.mg_of X G v_WITHDRAWN⟩, ⟨_, PySem.W.mg_of X G v_LAST_NUMBER⟩, ⟨_, PySem.W.mg_of X G v_LAST_PRIO⟩, ⟨_, PySem.W.mg_of X G v_MOST_NEEDS⟩, ⟨_, PySem.W.mg_of X G v_MOST_UNENDED⟩, ⟨_, PySem.W.mg_of X G v_MOST_KNOWN⟩, ⟨_, PySem.W.mg_of X G v_MOST_LIMIT⟩, ⟨_, PySem.W.mg_of X G v_MOST_HOURS⟩, ⟨_, PySem.W.mg_of X G v_MOST_WINDOWS⟩, ⟨_, PySem.W.mg_of X G v_MOST_TICK⟩, ⟨_, PySem.W.mg_of X G v_READY⟩, ⟨_, PySem.W.mg_of X G v_FROZEN⟩, ⟨_, PySem.W.mg_of X G v_OUTSIDE_HOURS⟩, ⟨_, PySem.W.mg_of X G v_NEEDS_MISSING⟩, ⟨_, PySem.W.mg_of X G v_NEEDS_LOST⟩, ⟨_, PySem.W.mg_of X G v_RUNS⟩, ⟨_, PySem.W.mg_of X G v_CONFIG⟩, ⟨_, PySem.W.mg_of X G v_ADD⟩, ⟨_, PySem.W.mg_of X G v_WINDOW⟩, ⟨_, PySem.W.mg_of X G v_FREEZE⟩, ⟨_, PySem.W.mg_of X G v_THAW⟩, ⟨_, PySem.W.mg_of X G v_TICK⟩, ⟨_, PySem.W.mg_of X G v_ORDER⟩, ⟨_, PySem.W.mg_of X G v_SERVE⟩, ⟨_, PySem.W.mg_of X G v_OUTCOME⟩, ⟨_, PySem.W.mg_of X G v_AGAIN⟩, ⟨_, PySem.W.mg_of X G v_WITHDRAW⟩, ⟨_, PySem.W.mg_of X G v_WHY⟩, ⟨_, PySem.W.mg_of X G v_PLACE⟩, ⟨_, PySem.W.mg_of X G v_NEXT_OPEN⟩, ⟨_, PySem.W.mg_of X G v_STATUS⟩, PySem.W.mg_none_of X G z_all, PySem.W.mg_none_of X G z_any, PySem.W.mg_none_of X G z_len, PySem.W.mg_none_of X G z_list, PySem.W.mg_none_of X G z_min, PySem.W.mg_none_of X G z_range, PySem.W.mg_none_of X G z_reversed, PySem.W.mg_none_of X G z_set, PySem.W.mg_none_of X G z_sorted⟩, rfl⟩
  have e := hfa.symm.trans T.g_answers
  cases e
  refine ⟨t.d_answers, fun s us hu => ?_, fun base _ _ => ok_answers T⟩
  rw [ed]
  exact match us, hu with | [_], _ => .of_eq rfl
end Ag
/-! Names that the head would otherwise give to copies of its largest definitions (the heap, the trees, the text): the equations of these copies grow with the square of their parts, and the compiled text would pass 64 MB. Nothing uses what stands here. -/
def PySem.W.Fast.tw11105079946467214884 : Unit := ()
def PySem.W.Fast.tw16390045829442200282 : Unit := ()
def PySem.W.Fast.tw14676485193918551446 : Unit := ()
def PySem.W.Fast.tw4794403149786456052 : Unit := ()
def PySem.W.Fast.tw8704896549747591526 : Unit := ()
def PySem.W.Fast.tw143436980135656753 : Unit := ()
def PySem.W.Fast.tw12261181579797939270 : Unit := ()
def PySem.W.Fast.tw4220405815669855263 : Unit := ()
open PySem PySem.W PyProof.Rows
set_option maxRecDepth 100000 in
set_option maxHeartbeats 0 in
theorem PySem.Challenge.cw_agingqueue_s01_answers_holds : PySem.Challenge.rw_agingqueue_s01_answers.Holds := by
  w_on; k_headS; (case hw => exact ⟨[.list [.int 6]], by decide +kernel, by decide +kernel⟩)
  k_fillS
  refine L2.walk_specK (r := PySem.Challenge.rw_agingqueue_s01_answers) (k := 9) (CX := L2.CX0) (ps := ["calls"]) (sp := Ag.spAns) (by decide +kernel) rfl rfl ⟨rfl, by decide, by decide⟩ (fun w h Y => PySem.W.kIn_of Y) ?F ?S (fun _ _ _ _ z => z)
  case F =>
    intro w mg fa h Y KX G hmg
    refine' Ag.all_mk KX G hmg ?a_Item ?a_Queue ?a_Reader ?a_Item_init ?i_Item_init ?l_Item_init ?e_Item_init ?k_Item_init ?a_Queue_init ?i_Queue_init ?l_Queue_init ?e_Queue_init ?k_Queue_init ?a_count_unended ?l_count_unended ?e_count_unended ?k_count_unended ?a_outcome ?l_outcome ?e_outcome ?k_outcome ?a_again ?l_again ?e_again ?k_again ?a_withdraw ?l_withdraw ?e_withdraw ?k_withdraw ?a_is_frozen ?l_is_frozen ?e_is_frozen ?k_is_frozen ?a_is_within_hours ?l_is_within_hours ?e_is_within_hours ?k_is_within_hours ?a_has_landed ?l_has_landed ?e_has_landed ?k_has_landed ?a_is_ready ?l_is_ready ?e_is_ready ?k_is_ready ?a_ready_items ?l_ready_items ?e_ready_items ?k_ready_items ?a_lower_for_greater_prio ?l_lower_for_greater_prio ?e_lower_for_greater_prio ?k_lower_for_greater_prio ?a_in_order ?l_in_order ?e_in_order ?k_in_order ?a_numbers_in_order ?l_numbers_in_order ?e_numbers_in_order ?k_numbers_in_order ?a_add ?l_add ?e_add ?k_add ?a_refusal_of_add ?l_refusal_of_add ?e_refusal_of_add ?k_refusal_of_add ?a_are_needs ?l_are_needs ?e_are_needs ?k_are_needs ?a_order ?l_order ?e_order ?k_order ?a_serve ?l_serve ?e_serve ?k_serve ?a_count_passed ?l_count_passed ?e_count_passed ?k_count_passed ?a_Reader_init ?i_Reader_init ?l_Reader_init ?e_Reader_init ?k_Reader_init ?a_Reader_is_done ?i_Reader_is_done ?l_Reader_is_done ?e_Reader_is_done ?k_Reader_is_done ?a_Reader_take ?i_Reader_take ?l_Reader_take ?e_Reader_take ?k_Reader_take ?a_Reader_take_several ?i_Reader_take_several ?l_Reader_take_several ?e_Reader_take_several ?k_Reader_take_several ?a_Reader_take_row ?i_Reader_take_row ?l_Reader_take_row ?e_Reader_take_row ?k_Reader_take_row ?a_config ?l_config ?e_config ?k_config ?a_window ?l_window ?e_window ?k_window ?a_pairs_of ?l_pairs_of ?e_pairs_of ?k_pairs_of ?a_is_window ?l_is_window ?e_is_window ?k_is_window ?a_freeze ?l_freeze ?e_freeze ?k_freeze ?a_thaw ?l_thaw ?e_thaw ?k_thaw ?a_set_frozen ?l_set_frozen ?e_set_frozen ?k_set_frozen ?a_tick ?l_tick ?e_tick ?k_tick ?a_why ?l_why ?e_why ?k_why ?a_why_waiting ?l_why_waiting ?e_why_waiting ?k_why_waiting ?a_place ?l_place ?e_place ?k_place ?a_next_open ?l_next_open ?e_next_open ?k_next_open ?a_status ?l_status ?e_status ?k_status ?a_answers ?l_answers ?e_answers ?k_answers ?a_answer_next ?l_answer_next ?e_answer_next ?k_answer_next ?a_answer_with_one_number ?l_answer_with_one_number ?e_answer_with_one_number ?k_answer_with_one_number ?pg_Item ?hd_Item ?po_Item ?sa_Item ?mk_Item ?kc_Item ?n_Item_number ?n_Item_prio ?n_Item_group ?n_Item_needs ?n_Item_passed ?pg_Queue ?hd_Queue ?po_Queue ?sa_Queue ?mk_Queue ?kc_Queue ?n_Queue_limit ?n_Queue_day ?n_Queue_time ?n_Queue_windows ?n_Queue_frozen ?n_Queue_known ?n_Queue_waiting ?n_Queue_running ?n_Queue_ended ?pg_Reader ?hd_Reader ?po_Reader ?sa_Reader ?mk_Reader ?kc_Reader ?n_Reader_numbers ?n_Reader_position ?v_NO_REFUSAL ?v_OUT_OF_RANGE ?v_BAD_ROW ?v_NO_SUCH_ITEM ?v_TOO_MUCH ?v_ITEMS_THERE ?v_NUMBER_TAKEN ?v_EVERYTHING ?v_LAST_GROUP ?v_MOST_TIME ?v_LANDED ?v_REJECTED ?v_WITHDRAWN ?v_LAST_NUMBER ?v_LAST_PRIO ?v_MOST_NEEDS ?v_MOST_UNENDED ?v_MOST_KNOWN ?v_MOST_LIMIT ?v_MOST_HOURS ?v_MOST_WINDOWS ?v_MOST_TICK ?v_READY ?v_FROZEN ?v_OUTSIDE_HOURS ?v_NEEDS_MISSING ?v_NEEDS_LOST ?v_RUNS ?v_CONFIG ?v_ADD ?v_WINDOW ?v_FREEZE ?v_THAW ?v_TICK ?v_ORDER ?v_SERVE ?v_OUTCOME ?v_AGAIN ?v_WITHDRAW ?v_WHY ?v_PLACE ?v_NEXT_OPEN ?v_STATUS ?z_all ?z_any ?z_len ?z_list ?z_min ?z_range ?z_reversed ?z_set ?z_sorted
    (case a_Item => k_is)
    (case a_Queue => k_is)
    (case a_Reader => k_is)
    (case a_Item_init => k_is)
    (case i_Item_init => k_is)
    (case l_Item_init => k_is)
    (case e_Item_init => k_is)
    (case k_Item_init => k_is)
    (case a_Queue_init => k_is)
    (case i_Queue_init => k_is)
    (case l_Queue_init => k_is)
    (case e_Queue_init => k_is)
    (case k_Queue_init => k_is)
    (case a_count_unended => k_is)
    (case l_count_unended => k_is)
    (case e_count_unended => k_is)
    (case k_count_unended => k_is)
    (case a_outcome => k_is)
    (case l_outcome => k_is)
    (case e_outcome => k_is)
    (case k_outcome => k_is)
    (case a_again => k_is)
    (case l_again => k_is)
    (case e_again => k_is)
    (case k_again => k_is)
    (case a_withdraw => k_is)
    (case l_withdraw => k_is)
    (case e_withdraw => k_is)
    (case k_withdraw => k_is)
    (case a_is_frozen => k_is)
    (case l_is_frozen => k_is)
    (case e_is_frozen => k_is)
    (case k_is_frozen => k_is)
    (case a_is_within_hours => k_is)
    (case l_is_within_hours => k_is)
    (case e_is_within_hours => k_is)
    (case k_is_within_hours => k_is)
    (case a_has_landed => k_is)
    (case l_has_landed => k_is)
    (case e_has_landed => k_is)
    (case k_has_landed => k_is)
    (case a_is_ready => k_is)
    (case l_is_ready => k_is)
    (case e_is_ready => k_is)
    (case k_is_ready => k_is)
    (case a_ready_items => k_is)
    (case l_ready_items => k_is)
    (case e_ready_items => k_is)
    (case k_ready_items => k_is)
    (case a_lower_for_greater_prio => k_is)
    (case l_lower_for_greater_prio => k_is)
    (case e_lower_for_greater_prio => k_is)
    (case k_lower_for_greater_prio => k_is)
    (case a_in_order => k_is)
    (case l_in_order => k_is)
    (case e_in_order => k_is)
    (case k_in_order => k_is)
    (case a_numbers_in_order => k_is)
    (case l_numbers_in_order => k_is)
    (case e_numbers_in_order => k_is)
    (case k_numbers_in_order => k_is)
    (case a_add => k_is)
    (case l_add => k_is)
    (case e_add => k_is)
    (case k_add => k_is)
    (case a_refusal_of_add => k_is)
    (case l_refusal_of_add => k_is)
    (case e_refusal_of_add => k_is)
    (case k_refusal_of_add => k_is)
    (case a_are_needs => k_is)
    (case l_are_needs => k_is)
    (case e_are_needs => k_is)
    (case k_are_needs => k_is)
    (case a_order => k_is)
    (case l_order => k_is)
    (case e_order => k_is)
    (case k_order => k_is)
    (case a_serve => k_is)
    (case l_serve => k_is)
    (case e_serve => k_is)
    (case k_serve => k_is)
    (case a_count_passed => k_is)
    (case l_count_passed => k_is)
    (case e_count_passed => k_is)
    (case k_count_passed => k_is)
    (case a_Reader_init => k_is)
    (case i_Reader_init => k_is)
    (case l_Reader_init => k_is)
    (case e_Reader_init => k_is)
    (case k_Reader_init => k_is)
    (case a_Reader_is_done => k_is)
    (case i_Reader_is_done => k_is)
    (case l_Reader_is_done => k_is)
    (case e_Reader_is_done => k_is)
    (case k_Reader_is_done => k_is)
    (case a_Reader_take => k_is)
    (case i_Reader_take => k_is)
    (case l_Reader_take => k_is)
    (case e_Reader_take => k_is)
    (case k_Reader_take => k_is)
    (case a_Reader_take_several => k_is)
    (case i_Reader_take_several => k_is)
    (case l_Reader_take_several => k_is)
    (case e_Reader_take_several => k_is)
    (case k_Reader_take_several => k_is)
    (case a_Reader_take_row => k_is)
    (case i_Reader_take_row => k_is)
    (case l_Reader_take_row => k_is)
    (case e_Reader_take_row => k_is)
    (case k_Reader_take_row => k_is)
    (case a_config => k_is)
    (case l_config => k_is)
    (case e_config => k_is)
    (case k_config => k_is)
    (case a_window => k_is)
    (case l_window => k_is)
    (case e_window => k_is)
    (case k_window => k_is)
    (case a_pairs_of => k_is)
    (case l_pairs_of => k_is)
    (case e_pairs_of => k_is)
    (case k_pairs_of => k_is)
    (case a_is_window => k_is)
    (case l_is_window => k_is)
    (case e_is_window => k_is)
    (case k_is_window => k_is)
    (case a_freeze => k_is)
    (case l_freeze => k_is)
    (case e_freeze => k_is)
    (case k_freeze => k_is)
    (case a_thaw => k_is)
    (case l_thaw => k_is)
    (case e_thaw => k_is)
    (case k_thaw => k_is)
    (case a_set_frozen => k_is)
    (case l_set_frozen => k_is)
    (case e_set_frozen => k_is)
    (case k_set_frozen => k_is)
    (case a_tick => k_is)
    (case l_tick => k_is)
    (case e_tick => k_is)
    (case k_tick => k_is)
    (case a_why => k_is)
    (case l_why => k_is)
    (case e_why => k_is)
    (case k_why => k_is)
    (case a_why_waiting => k_is)
    (case l_why_waiting => k_is)
    (case e_why_waiting => k_is)
    (case k_why_waiting => k_is)
    (case a_place => k_is)
    (case l_place => k_is)
    (case e_place => k_is)
    (case k_place => k_is)
    (case a_next_open => k_is)
    (case l_next_open => k_is)
    (case e_next_open => k_is)
    (case k_next_open => k_is)
    (case a_status => k_is)
    (case l_status => k_is)
    (case e_status => k_is)
    (case k_status => k_is)
    (case a_answers => k_is)
    (case l_answers => k_is)
    (case e_answers => k_is)
    (case k_answers => k_is)
    (case a_answer_next => k_is)
    (case l_answer_next => k_is)
    (case e_answer_next => k_is)
    (case k_answer_next => k_is)
    (case a_answer_with_one_number => k_is)
    (case l_answer_with_one_number => k_is)
    (case e_answer_with_one_number => k_is)
    (case k_answer_with_one_number => k_is)
    (case pg_Item => k_is)
    (case hd_Item => k_is)
    (case po_Item => k_is)
    (case sa_Item => k_is)
    (case mk_Item => k_is)
    (case kc_Item => k_is)
    (case n_Item_number => k_is)
    (case n_Item_prio => k_is)
    (case n_Item_group => k_is)
    (case n_Item_needs => k_is)
    (case n_Item_passed => k_is)
    (case pg_Queue => k_is)
    (case hd_Queue => k_is)
    (case po_Queue => k_is)
    (case sa_Queue => k_is)
    (case mk_Queue => k_is)
    (case kc_Queue => k_is)
    (case n_Queue_limit => k_is)
    (case n_Queue_day => k_is)
    (case n_Queue_time => k_is)
    (case n_Queue_windows => k_is)
    (case n_Queue_frozen => k_is)
    (case n_Queue_known => k_is)
    (case n_Queue_waiting => k_is)
    (case n_Queue_running => k_is)
    (case n_Queue_ended => k_is)
    (case pg_Reader => k_is)
    (case hd_Reader => k_is)
    (case po_Reader => k_is)
    (case sa_Reader => k_is)
    (case mk_Reader => k_is)
    (case kc_Reader => k_is)
    (case n_Reader_numbers => k_is)
    (case n_Reader_position => k_is)
    (case v_NO_REFUSAL => k_is)
    (case v_OUT_OF_RANGE => k_is)
    (case v_BAD_ROW => k_is)
    (case v_NO_SUCH_ITEM => k_is)
    (case v_TOO_MUCH => k_is)
    (case v_ITEMS_THERE => k_is)
    (case v_NUMBER_TAKEN => k_is)
    (case v_EVERYTHING => k_is)
    (case v_LAST_GROUP => k_is)
    (case v_MOST_TIME => k_is)
    (case v_LANDED => k_is)
    (case v_REJECTED => k_is)
    (case v_WITHDRAWN => k_is)
    (case v_LAST_NUMBER => k_is)
    (case v_LAST_PRIO => k_is)
    (case v_MOST_NEEDS => k_is)
    (case v_MOST_UNENDED => k_is)
    (case v_MOST_KNOWN => k_is)
    (case v_MOST_LIMIT => k_is)
    (case v_MOST_HOURS => k_is)
    (case v_MOST_WINDOWS => k_is)
    (case v_MOST_TICK => k_is)
    (case v_READY => k_is)
    (case v_FROZEN => k_is)
    (case v_OUTSIDE_HOURS => k_is)
    (case v_NEEDS_MISSING => k_is)
    (case v_NEEDS_LOST => k_is)
    (case v_RUNS => k_is)
    (case v_CONFIG => k_is)
    (case v_ADD => k_is)
    (case v_WINDOW => k_is)
    (case v_FREEZE => k_is)
    (case v_THAW => k_is)
    (case v_TICK => k_is)
    (case v_ORDER => k_is)
    (case v_SERVE => k_is)
    (case v_OUTCOME => k_is)
    (case v_AGAIN => k_is)
    (case v_WITHDRAW => k_is)
    (case v_WHY => k_is)
    (case v_PLACE => k_is)
    (case v_NEXT_OPEN => k_is)
    (case v_STATUS => k_is)
    (case z_all => k_is)
    (case z_any => k_is)
    (case z_len => k_is)
    (case z_list => k_is)
    (case z_min => k_is)
    (case z_range => k_is)
    (case z_reversed => k_is)
    (case z_set => k_is)
    (case z_sorted => k_is)
  case S =>
    intro K H xs a hO hwi hask hx
    cases hx with
    | cons h1 h2 =>
      cases h2
      cases h1 with
      | lst hs ha =>
        have e := L2.ints_dw a.1 _ ha
        subst e
        exact ⟨_, a.1, rfl, hs, hask, fun H' p hp => .lst (L2.SqL.of hp) (L2.dw_ints _)⟩

